/- Mh, Nl, Lf, Lg, La, Lc, Lp, Sa, Op, Ea, Ua, Yp, Ub, Rg, Uc, Ud. -/
import Derived.Test.YtjadciofpgjofaaGreatDoorDf3
import Derived.Shelf.Spec.TrailingZeros
import Derived.Test.YtjadciofpgjofaaGreatDoorRows
import Derived.ProofKit
import Derived.LaidMore
import Derived.OpenShut
import Derived.Stop.Joined
import Derived.Test.YtjadciofpgjofaaGreatDoorChecked
import Derived.Lib.SmallJoins
import Derived.Deep.Strs
import Derived.Deep.MidRow
set_option linter.unusedSimpArgs false
set_option linter.unusedVariables false
set_option maxRecDepth 100000
set_option maxHeartbeats 8000000
namespace Go.Proofs.YtjadciofpgjofaaGreatDoor
open Go Go.RowKit

def Tabs (w:World):Prop:=TabAt 0 Lib.deBruijn32tab w∧TabAt 1 Lib.deBruijn64tab w
theorem zSj {g:Nat} {tab:List Nat} {w w':World} (h:TabAt g tab w) (hb:Below w.heap.size w w'):TabAt g tab w':=fun j hj=>by
 have h1:=h j hj
 have h2:=World.block_lt_of_cell? w ⟨g,j,none⟩ h1
 exact (hb.cell (p:=⟨g,j,none⟩) h2).trans h1
theorem Tabs.mono {w w':World} (h:Tabs w) (hb:Below w.heap.size w w'):Tabs w':=⟨zSj h.1 hb,zSj h.2 hb⟩

theorem tz64_core (x k idx:Nat) (w:World) (hx0:((x:Int) == 0)=false)
  (key:IntKind.u64.wrap (bits BinOp.and IntKind.u64 (x:Int) (IntKind.u64.wrap (-(x:Int)))*285870213051353865)/288230376151711744=(idx:Int))
  (hi:idx<64) (hk:k<64) (hcell:w.cell? ⟨1,idx,none⟩=some (.int .u8 k)) :
  Calls Tryz.prog 176 #[.int .u64 x] w fun e w'=>e=.returned (.int .i64 k)∧w'=w:=by
 go_enter Tryz.func176,Tryz.ntmps176
 go_wp2_with (simp only [key])
 go_ret
 exact ⟨rfl,rfl⟩
theorem tz64_any (x:Nat) (hx:x<18446744073709551616) (hx0:x≠0) (w:World) (hT:Tabs w) :
  Calls Tryz.prog 176 #[.int .u64 x] w fun e w'=>e=.returned (.int .i64 (Lib.ctz 64 x))∧w'=w:=by
 obtain ⟨hlow,hk⟩:=Lib.lowest_bit 64 x hx0 hx
 obtain ⟨hi,htab⟩:=Lib.deBruijn64_at _ hk
 have hcell:=hT.2 _ hi
 rw [htab] at hcell
 exact tz64_core x _ _ w (by simp;omega) (tz64_key x _ hx hx0 hlow) hi hk hcell
theorem tz32_core (x k idx:Nat) (w:World) (hx0:((x:Int) == 0)=false)
  (key:bits BinOp.and IntKind.u32 (x:Int) (-(x:Int) % 4294967296)*125613361 % 4294967296/134217728=(idx:Int))
  (hi:idx<32) (hk:k<32) (hcell:w.cell? ⟨0,idx,none⟩=some (.int .u8 k)) :
  Calls Tryz.prog 170 #[.int .u32 x] w fun e w'=>e=.returned (.int .i64 k)∧w'=w:=by
 go_enter Tryz.func170,Tryz.ntmps170
 go_wp2_with (simp only [key])
 go_ret
 exact ⟨rfl,rfl⟩
theorem tz32_any (x:Nat) (hx:x<4294967296) (hx0:x≠0) (w:World) (hT:Tabs w) :
  Calls Tryz.prog 170 #[.int .u32 x] w fun e w'=>e=.returned (.int .i64 (Lib.ctz 32 x))∧w'=w:=by
 obtain ⟨hlow,hk⟩:=Lib.lowest_bit 32 x hx0 hx
 obtain ⟨hi,htab⟩:=Lib.deBruijn32_at _ hk
 have hcell:=hT.1 _ hi
 rw [htab] at hcell
 exact tz32_core x _ _ w (by simp;omega) (tz32_key x _ hx hx0 hlow) hi hk hcell

theorem low_any (w:World) (na:Bool) (ax:Option Addr) (n cx:Nat) (xs:List Int) (hX:Sl w ax n cx xs) (hb1:n≤1000000) :
  Calls Tryz.prog 163 #[.agg #[.bool na,.slice ax n cx]] w fun e w'=>e=.returned (.int .u32 (val xs % 4294967296))∧Below w.heap.size w w':=by
 have hX0:=hX.mono (zAh w (.cells #[.bool na,.slice ax n cx] 36))
 by_cases h0:n=0
 ·subst h0
  have e:xs=[]:=List.eq_nil_of_length_eq_zero hX.len
  subst e
  go_enter Tryz.func163,Tryz.ntmps163
  go_wp2
  go_ret
  exact ⟨rfl,zAh _ _⟩
 ·have h1:((n:Int) == 0)=false:=by simp;omega
  obtain ⟨b,off,rfl,hbl,x,hxc,hx0,hx1,HX⟩:=hX0.cells.at (k:=0) (by rw [hX.len];omega)
  have hv:val xs % 4294967296=x:=by
   have h2:=zDj xs (k:=0) (by rw [hX.len];omega)
   rw [List.drop_zero,HX.out] at h2
   omega
  have HV:=hidd hv
  clear hv
  have g1:(0:Int)<n:=zm
  rw [Nat.add_zero] at hxc
  go_enter Tryz.func163,Tryz.ntmps163
  go_wp2
  go_ret
  exact ⟨by rw [HV.out];rfl,zAh _ _⟩
theorem zD9 {w:World} {v:Value} {z:Int} (h:Num w v z):Calls Tryz.prog 163 #[v] w fun e w'=>∃ v',e=.returned v'∧Below w.heap.size w w'∧v'=.int .u32 (ab z % 4294967296):=by
 obtain ⟨neg,ao,n,c,xs,rfl,hs,hn,hz,hc,_⟩:=h
 have h1:ab z=val xs:=by rw [hz,zD5,zBb (zAm hs.digs)]
 rw [h1]
 exact (low_any _ _ _ _ _ _ hs zm).mono fun e w' hh=>⟨_,hh.1,hh.2,rfl⟩

theorem zIz (a b:Nat) (ha:a<4294967296) (hb:b<4294967296):bits .and .u32 (a:Int) (b:Int)=((a &&& b:Nat):Int):=bits_and_u32_nat a b ha hb
theorem and_seven (n:Nat) (h:n<4294967296):bits .and .u32 (n:Int) 7=((n % 8:Nat):Int):=by
 have:=zIz n 7 h zd
 have e:n &&& 7=n % 8:=Nat.and_two_pow_sub_one_eq_mod n 3
 rw [e] at this
 exact this
theorem and_two (a n:Nat) (ha:a<4294967296) (hn:n<4294967296):bits .and .u32 (bits .and .u32 (a:Int) (n:Int)) 3=(((a % 4) &&& (n % 4):Nat):Int):=by
 have h0:a &&& n<2^32:=Nat.and_lt_two_pow _ zm
 rw [zIz a n ha hn]
 have:=zIz (a &&& n) 3 zm zd
 have e:(a &&& n) &&& 3=(a &&& n) % 4:=Nat.and_two_pow_sub_one_eq_mod _ 2
 have e2:(a &&& n) % 2^2=(a % 2^2) &&& (n % 2^2):=Nat.and_mod_two_pow
 rw [e] at this
 rw [show ((3:Nat):Int)=3 from rfl] at this
 rw [this]
 exact congrArg _ e2
theorem zS0 (k:Nat) (h:k<9223372036854775808):bits .and .i64 (k:Int) 1=((k % 2:Nat):Int):=by
 have h2:(BitVec.ofInt 64 ((k:Nat):Int)).toNat=k:=by rw [BitVec.ofInt_natCast,BitVec.toNat_ofNat];exact Nat.mod_eq_of_lt zm
 show IntKind.i64.wrap (((BitVec.ofInt 64 (k:Int)) &&& (BitVec.ofInt 64 1)).toNat:Int)=_
 rw [BitVec.toNat_and,h2]
 have h3:(BitVec.ofInt 64 1).toNat=1:=rfl
 rw [h3,Nat.and_one_is_mod]
 exact IntWalk.i64_in _ zm

def twosI (k n:Nat):Int:=if k % 2=1∧(n % 8=3∨n % 8=5) then -1 else 1
def turnI (a n:Nat):Int:=if a % 4=3∧n % 4=3 then -1 else 1
theorem zWn (w:World) (k n:Nat) (hk:k<9223372036854775808) (hn:n<4294967296) :
  Calls Tryz.prog 165 #[.int .i64 (k:Int),.int .u32 (n:Int)] w fun e w'=>e=.returned (.int .i64 (twosI k n))∧w'=w:=by
 have e1:bits .and .i64 (k:Int) 1=(k:Int) % 2:=by rw [zS0 k hk];omega
 have e2:bits .and .u32 (n:Int) 7=(n:Int) % 8:=by rw [and_seven n hn];omega
 unfold twosI
 by_cases h1:k % 2=1
 ·have f1:((k:Int) % 2 == 1)=true:=by simp;omega
  by_cases h2:n % 8=3
  ·have f2:((n:Int) % 8 == 3)=true:=by simp;omega
   rw [if_pos ⟨h1,.inl h2⟩]
   clear h1 h2
   go_enter Tryz.func165,Tryz.ntmps165
   go_wp2_with (simp only [e1,e2,f1,f2])
   go_ret
   exact ⟨rfl,rfl⟩
  ·have f2:((n:Int) % 8 == 3)=false:=by simp;omega
   by_cases h3:n % 8=5
   ·have f3:((n:Int) % 8 == 5)=true:=by simp;omega
    rw [if_pos ⟨h1,.inr h3⟩]
    clear h1 h2 h3
    go_enter Tryz.func165,Tryz.ntmps165
    go_wp2_with (simp only [e1,e2,f1,f2,f3])
    go_ret
    exact ⟨rfl,rfl⟩
   ·have f3:((n:Int) % 8 == 5)=false:=by simp;omega
    rw [if_neg zm]
    clear h1 h2 h3
    go_enter Tryz.func165,Tryz.ntmps165
    go_wp2_with (simp only [e1,e2,f1,f2,f3])
    go_ret
    exact ⟨rfl,rfl⟩
 ·have f1:((k:Int) % 2 == 1)=false:=by simp;omega
  rw [if_neg zm]
  clear h1
  go_enter Tryz.func165,Tryz.ntmps165
  go_wp2_with (simp only [e1,f1])
  go_ret
  exact ⟨rfl,rfl⟩
theorem and_three {a n:Nat}:((a % 4) &&& (n % 4)=3) ↔ a % 4=3∧n % 4=3:=by
 have h1:a % 4=0∨a % 4=1∨a % 4=2∨a % 4=3:=zm
 have h2:n % 4=0∨n % 4=1∨n % 4=2∨n % 4=3:=zm
 rcases h1 with e | e | e | e <;> rcases h2 with f | f | f | f <;> rw [e,f] <;> decide
theorem zX1 (w:World) (a n:Nat) (ha:a<4294967296) (hn:n<4294967296) :
  Calls Tryz.prog 171 #[.int .u32 (a:Int),.int .u32 (n:Int)] w fun e w'=>e=.returned (.int .i64 (turnI a n))∧w'=w:=by
 have e1:=and_two a n ha hn
 obtain ⟨X,hX⟩:∃ X:Int,X=(((a % 4) &&& (n % 4):Nat):Int):=⟨_,rfl⟩
 rw [← hX] at e1
 unfold turnI
 by_cases h:a % 4=3∧n % 4=3
 ·have f1:(X == 3)=true:=by rw [hX,and_three.2 h];rfl
  rw [if_pos h]
  clear h hX
  go_enter Tryz.func171,Tryz.ntmps171
  go_wp2_with (simp only [e1,f1])
  go_ret
  exact ⟨rfl,rfl⟩
 ·have f1:(X == 3)=false:=by
   have:=mt and_three.1 h
   rw [hX]
   simp
   omega
  rw [if_neg h]
  clear h hX
  go_enter Tryz.func171,Tryz.ntmps171
  go_wp2_with (simp only [e1,f1])
  go_ret
  exact ⟨rfl,rfl⟩

end Go.Proofs.YtjadciofpgjofaaGreatDoor
namespace Go.Proofs.YtjadciofpgjofaaGreatDoor
open Go Go.ChangeShapes Go.WideShapes Go.RowKit

def zG5 : List (String × DataW Unit) := [("math/bits.deBruijn32tab", Rows.laid_math_bits_deBruijn32tab), ("math/bits.deBruijn64tab", Rows.laid_math_bits_deBruijn64tab)]
theorem ownK:ownKnob Tryz.prog.godebug=none:=by kernel_rfl
theorem g32tab : Tryz.prog.globalNamed "math/bits.deBruijn32tab" = some 0 := by kernel_rfl
theorem g64tab : Tryz.prog.globalNamed "math/bits.deBruijn64tab" = some 1 := by kernel_rfl
theorem t32tab:(Tryz.prog.globals[0]?).map (·.type)=some 162:=by kernel_rfl
theorem t64tab:(Tryz.prog.globals[1]?).map (·.type)=some 164:=by kernel_rfl
theorem laid32:(Rows.laid_math_bits_deBruijn32tab:DataW Unit)=.agg (Lib.deBruijn32tab.map fun x:Nat=>DataW.lit (.int .u8 (x:Int))):=by kernel_rfl
theorem laid64:(Rows.laid_math_bits_deBruijn64tab:DataW Unit)=.agg (Lib.deBruijn64tab.map fun x:Nat=>DataW.lit (.int .u8 (x:Int))):=by kernel_rfl

theorem zSk {W:World} {nm:String} {g n:Nat} {t:TypeId} {fuel:Nat} {cs:Array Value} {q:List MemPlace} {tab:List Nat} (hg:Tryz.prog.globalNamed nm=some g) (hv:W.var? Tryz.prog nm=some cs) (ht:Tryz.prog.underlying t=some (.array n 5)) (hn:tab.length=n)
  (h:DataW.trod (fun _=>()) Tryz.prog W 0 (fun _=>true) false fuel t cs.toList=some (.agg (tab.map fun x:Nat=>DataW.lit (.int .u8 (x:Int))),q)):TabAt g tab W:=by
 intro j hj
 obtain ⟨xs,m,rfl,hx,hlen,hxn,hel⟩:=DataW.trod_array ht h
 have c1:Tryz.prog.cellsOf 5=1:=by kernel_rfl
 have h0:=hel j zm
 rw [c1,Nat.mul_one] at h0
 have hjx:j<xs.length:=zm
 rw [List.getElem?_eq_getElem hjx] at h0
 obtain ⟨k,e1,e2,_⟩:=DataW.trod_int Tryz.underlying5 h0
 simp only [Prod.mk.injEq,DataW.agg.injEq] at hx
 have e3:=congrArg (fun l=>l[j]?) hx.1
 simp only [List.getElem?_map,List.getElem?_eq_getElem hj,List.getElem?_eq_getElem hjx,Option.map_some,e2,Option.some.injEq,DataW.lit.injEq,Lit.int.injEq,true_and] at e3
 rw [World.var?_cell hg hv j,show tab.getD j 0=tab[j] by simp [hj],e3]
 have hjl:j<cs.toList.length:=by
  rcases Nat.lt_or_ge j cs.toList.length with h | h
  ·exact h
  ·rw [List.drop_eq_nil_of_le h] at e1;cases e1
 rw [List.drop_eq_getElem_cons hjl] at e1
 simp only [List.take_succ_cons,List.take_zero,List.cons.injEq,and_true] at e1
 rw [← Array.getElem?_toList,List.getElem?_eq_getElem hjl,e1]

theorem zX0 {W:World} (h:laidMetH Tryz.prog zG5 W):Tabs W:=by
 rw [MakeChecks.laidMetH_plain _ _ _ (by kernel_rfl)] at h
 obtain ⟨ps,⟨g0,t0,cs0,f0,p0,q0,hg0,ht0,hv0,hd0,⟨g1,t1,cs1,f1,p1,q1,hg1,ht1,hv1,hd1,_,_⟩,_⟩,_,_⟩:=h
 obtain rfl:=Option.some.inj (g32tab.symm.trans hg0)
 obtain rfl:=Option.some.inj (g64tab.symm.trans hg1)
 obtain rfl:=Option.some.inj (t32tab.symm.trans ht0)
 obtain rfl:=Option.some.inj (t64tab.symm.trans ht1)
 rw [laid32] at hd0
 rw [laid64] at hd1
 exact ⟨zSk hg0 hv0 Tryz.underlying162 rfl hd0,zSk hg1 hv1 Tryz.underlying164 rfl hd1⟩

theorem door_met (os:Os) (args:Array Value):laidMetH Tryz.prog zG5 ((World.doorLaid Tryz.prog 400 os).forCall (fun _ _=>0) ⟨#[],args,[]⟩).memory:=
 laidMetH_of_parts3 (fuel:=8) (laidMet_of_run' 8 (by kernel_rfl) (by kernel_rfl)) (by kernel_rfl) (by kernel_rfl)
end Go.Proofs.YtjadciofpgjofaaGreatDoor
namespace Go.Proofs.YtjadciofpgjofaaGreatDoor
open Go Go.ChangeShapes Go.WideShapes Go.ChangeAt Go.RowKit Go.Joins Go.Deep

theorem own:ownKnob Tryz.prog.godebug=none:=by kernel_rfl
theorem laidOut:laidOutB Tryz.prog=true:=by kernel_rfl

theorem zSl {H:Type} {enc:TypeId × Value→H} {P:Program} {w:World} {base:Nat} {spare:Nat→Bool} {held:Bool} {t e:TypeId} {fuel:Nat} {cs:List Value} {x:DataW H × List MemPlace} (ht:P.underlying t=some (.array 4 e))
  (h:DataW.trod enc P w base spare held fuel t cs=some x) :
  ∃ y0 y1 y2 y3 n,(∀ m,m∈y0.2∨m∈y1.2∨m∈y2.2∨m∈y3.2→m∈x.2)∧DataW.trod enc P w base spare held n e ((cs.drop (0*P.cellsOf e)).take (P.cellsOf e))=some y0∧DataW.trod enc P w base spare held n e ((cs.drop (1*P.cellsOf e)).take (P.cellsOf e))=some y1∧DataW.trod enc P w base spare held n e ((cs.drop (2*P.cellsOf e)).take (P.cellsOf e))=some y2∧DataW.trod enc P w base spare held n e ((cs.drop (3*P.cellsOf e)).take (P.cellsOf e))=some y3:=by
 cases fuel with
 | zero=>simp [DataW.trod] at h
 | succ n=>
  unfold DataW.trod at h
  rw [ht] at h
  have r:List.range 4=[0,1,2,3]:=rfl
  simp [r] at h
  obtain ⟨_,h⟩:=h
  cases h0:DataW.trod enc P w base spare held n e (cs.take (P.cellsOf e)) with
  | none=>simp [h0] at h
  | some y0=>
   cases h1:DataW.trod enc P w base spare held n e ((cs.drop (P.cellsOf e)).take (P.cellsOf e)) with
   | none=>simp [h0,h1] at h
   | some y1=>
    cases h2:DataW.trod enc P w base spare held n e ((cs.drop (2*P.cellsOf e)).take (P.cellsOf e)) with
    | none=>simp [h0,h1,h2] at h
    | some y2=>
     cases h3:DataW.trod enc P w base spare held n e ((cs.drop (3*P.cellsOf e)).take (P.cellsOf e)) with
     | none=>simp [h0,h1,h2,h3] at h
     | some y3=>
      simp [h0,h1,h2,h3] at h
      subst h
      exact ⟨y0,y1,y2,y3,n,fun m hm=>by simpa using hm,by simpa using h0,by simpa using h1,by simpa using h2,by simpa using h3⟩
theorem array9 {cs:Array Value} (h:cs.size=9):∃ e0 e1 e2 e3 e4 e5 e6 e7 e8,cs=#[e0,e1,e2,e3,e4,e5,e6,e7,e8]:=by
 obtain ⟨l⟩:=cs
 match l,h with
 | [e0,e1,e2,e3,e4,e5,e6,e7,e8],_=>exact ⟨e0,e1,e2,e3,e4,e5,e6,e7,e8,rfl⟩
theorem open_raw8 {H:Type} {enc:TypeId × Value→H} {W:World} {r:Reach} {b0:Nat} {t A I:TypeId} {F0 F1 F2:Field} (hs:Tryz.prog.underlying t=some (.struct #[F0,F1,F2])) (hF0:F0.type=22) (hF1:F1.type=A) (hF2:F2.type=I) (hO0:F0.offset=0) (hO1:F1.offset=1) (hO2:F2.offset=5) (hC:Tryz.prog.cellsOf t=9) (h3:Tryz.prog.underlying A=some (.array 4 22)) (h4:Tryz.prog.underlying I=some (.array 4 5)) (hc3:Tryz.prog.cellsOf A=4) (hc4:Tryz.prog.cellsOf I=4) (hcu:Tryz.prog.cellsOf 22=1) (hcv:Tryz.prog.cellsOf 5=1)
  {v:Value} {d:DataW H} {p:List MemPlace} (hv:Value.okWide Tryz.prog W r b0 t v) (h:DataW.Trod enc Tryz.prog W 0 (fun _=>true) true t v d p) :
  ∃ D i0 i1 i2 i3 m0 m1 m2 m3:Int,v=.agg #[.int .u16 D,.int .u16 i0,.int .u16 i1,.int .u16 i2,.int .u16 i3,.int .u8 m0,.int .u8 m1,.int .u8 m2,.int .u8 m3]∧(0≤D∧D≤65535)∧(0≤i0∧i0≤65535)∧(0≤i1∧i1≤65535)∧(0≤i2∧i2≤65535)∧(0≤i3∧i3≤65535)∧(0≤m0∧m0≤255)∧(0≤m1∧m1≤255)∧(0≤m2∧m2≤255)∧(0≤m3∧m3≤255):=by
 obtain ⟨cs,rfl,hsz⟩:=okWide_struct hs hv
 obtain ⟨e0,e1,e2,e3,e4,e5,e6,e7,e8,rfl⟩:=array9 (hsz.trans hC)
 obtain ⟨fuel,hf⟩:=h
 obtain ⟨xs,n,_,hx,hl,hlen,hf⟩:=DataW.trod_struct hs hf
 match xs,hlen with
 | [y0,y1,y2],_=>
  have t0:=hf 0 F0 rfl
  rw [hF0,hO0,hcu] at t0
  have t1:=hf 1 F1 rfl
  rw [hF1,hO1,hc3] at t1
  have t2:=hf 2 F2 rfl
  rw [hF2,hO2,hc4] at t2
  simp only [Value.cells] at t0 t1 t2
  obtain ⟨z1,z2,z3,z4,n3,_,s1,s2,s3,s4⟩:=zSl h3 t1
  obtain ⟨z5,z6,z7,z8,n4,_,s5,s6,s7,s8⟩:=zSl h4 t2
  rw [hcu] at s1 s2 s3 s4
  rw [hcv] at s5 s6 s7 s8
  have q0:DataW.trod enc Tryz.prog W 0 (fun _=>true) true n 22 [e0]=some y0:=by simpa using t0
  have q1:DataW.trod enc Tryz.prog W 0 (fun _=>true) true n3 22 [e1]=some z1:=by simpa using s1
  have q2:DataW.trod enc Tryz.prog W 0 (fun _=>true) true n3 22 [e2]=some z2:=by simpa using s2
  have q3:DataW.trod enc Tryz.prog W 0 (fun _=>true) true n3 22 [e3]=some z3:=by simpa using s3
  have q4:DataW.trod enc Tryz.prog W 0 (fun _=>true) true n3 22 [e4]=some z4:=by simpa using s4
  have q5:DataW.trod enc Tryz.prog W 0 (fun _=>true) true n4 5 [e5]=some z5:=by simpa using s5
  have q6:DataW.trod enc Tryz.prog W 0 (fun _=>true) true n4 5 [e6]=some z6:=by simpa using s6
  have q7:DataW.trod enc Tryz.prog W 0 (fun _=>true) true n4 5 [e7]=some z7:=by simpa using s7
  have q8:DataW.trod enc Tryz.prog W 0 (fun _=>true) true n4 5 [e8]=some z8:=by simpa using s8
  obtain ⟨b0,eb0,_,wb0⟩:=DataW.trod_int Tryz.underlying22 q0
  obtain ⟨b1,eb1,_,wb1⟩:=DataW.trod_int Tryz.underlying22 q1
  obtain ⟨b2,eb2,_,wb2⟩:=DataW.trod_int Tryz.underlying22 q2
  obtain ⟨b3,eb3,_,wb3⟩:=DataW.trod_int Tryz.underlying22 q3
  obtain ⟨b4,eb4,_,wb4⟩:=DataW.trod_int Tryz.underlying22 q4
  obtain ⟨b5,eb5,_,wb5⟩:=DataW.trod_int Tryz.underlying5 q5
  obtain ⟨b6,eb6,_,wb6⟩:=DataW.trod_int Tryz.underlying5 q6
  obtain ⟨b7,eb7,_,wb7⟩:=DataW.trod_int Tryz.underlying5 q7
  obtain ⟨b8,eb8,_,wb8⟩:=DataW.trod_int Tryz.underlying5 q8
  simp at eb0 eb1 eb2 eb3 eb4 eb5 eb6 eb7 eb8
  subst eb0 eb1 eb2 eb3 eb4 eb5 eb6 eb7 eb8
  have w0:0≤b0∧b0≤65535:=by simpa [Lit.wf,IntKind.min,IntKind.max,IntKind.signed,IntKind.bits] using wb0
  have w1:0≤b1∧b1≤65535:=by simpa [Lit.wf,IntKind.min,IntKind.max,IntKind.signed,IntKind.bits] using wb1
  have w2:0≤b2∧b2≤65535:=by simpa [Lit.wf,IntKind.min,IntKind.max,IntKind.signed,IntKind.bits] using wb2
  have w3:0≤b3∧b3≤65535:=by simpa [Lit.wf,IntKind.min,IntKind.max,IntKind.signed,IntKind.bits] using wb3
  have w4:0≤b4∧b4≤65535:=by simpa [Lit.wf,IntKind.min,IntKind.max,IntKind.signed,IntKind.bits] using wb4
  have w5:0≤b5∧b5≤255:=by simpa [Lit.wf,IntKind.min,IntKind.max,IntKind.signed,IntKind.bits] using wb5
  have w6:0≤b6∧b6≤255:=by simpa [Lit.wf,IntKind.min,IntKind.max,IntKind.signed,IntKind.bits] using wb6
  have w7:0≤b7∧b7≤255:=by simpa [Lit.wf,IntKind.min,IntKind.max,IntKind.signed,IntKind.bits] using wb7
  have w8:0≤b8∧b8≤255:=by simpa [Lit.wf,IntKind.min,IntKind.max,IntKind.signed,IntKind.bits] using wb8
  exact ⟨b0,b1,b2,b3,b4,b5,b6,b7,b8,rfl,w0,w1,w2,w3,w4,w5,w6,w7,w8⟩
end Go.Proofs.YtjadciofpgjofaaGreatDoor
namespace Go.Proofs.YtjadciofpgjofaaGreatDoor
open Go Go.RowKit

inductive Fd where
 | n (z:Int)
 | v (u:Value)
 | r (n:Bool) (a:Option Addr) (k c:Nat) (xs:List Int) (z:Int)
def Fd.len:Fd→Nat
 | .n _=>2
 | .v _=>1
 | .r ..=>2
def sz:List Fd→Nat
 | []=>0
 | f::fs=>f.len+sz fs
def zCe (u:Value):Bool:=u.oneCell' && (match u with | .int .u32 _=>false | _=>true)
def Fits (w:World):List Fd→List Value→Prop
 | [],us=>us=[]
 | .n z::fs,us=>∃ a b r,us=a::b::r∧Num w (.agg #[a,b]) z∧Fits w fs r
 | .v u::fs,us=>∃ r,us=u::r∧zCe u=true∧Fits w fs r
 | .r n ao k c xs z::fs,us=>∃ r,us=.bool n :: .slice ao k c::r∧(Sl w ao k c xs∧Num w (.agg #[.bool n,.slice ao k c]) z)∧Fits w fs r
theorem Fits.mono {w w':World} (hb:Below w.heap.size w w'):∀ {fs:List Fd} {us:List Value},Fits w fs us→Fits w' fs us
 | [],_,h=>h
 | .n _::_,_,⟨a,b,r,e,h1,h2⟩=>⟨a,b,r,e,h1.mono hb,Fits.mono hb h2⟩
 | .v _::_,_,⟨r,e,h1,h2⟩=>⟨r,e,h1,Fits.mono hb h2⟩
 | .r .. :: _,_,⟨r,e,h1,h2⟩=>⟨r,e,⟨h1.1.mono hb,h1.2.mono hb⟩,Fits.mono hb h2⟩
theorem Fits.putAt {w:World} {b:Nat} {vs vs':List Value} (ha:At w b vs) (ht:Tame vs) (hl:vs'.length=vs.length):∀ {fs:List Fd} {us:List Value},Fits w fs us→Fits (putFrom w b 0 vs') fs us
 | [],_,h=>h
 | .n _::_,_,⟨a,b,r,e,h1,h2⟩=>⟨a,b,r,e,h1.putAt ha ht hl,Fits.putAt ha ht hl h2⟩
 | .v _::_,_,⟨r,e,h1,h2⟩=>⟨r,e,h1,Fits.putAt ha ht hl h2⟩
 | .r .. :: _,_,⟨r,e,h1,h2⟩=>⟨r,e,⟨h1.1.putAt ha ht hl,h1.2.putAt ha ht hl⟩,Fits.putAt ha ht hl h2⟩
theorem Fits.length {w:World}:∀ {fs:List Fd} {us:List Value},Fits w fs us→us.length=sz fs
 | [],_,h=>by rw [show _=[] from h];rfl
 | .n _::_,_,⟨_,_,_,e,_,h2⟩=>by rw [e];simp [sz,Fd.len,Fits.length h2];omega
 | .v _::_,_,⟨_,e,_,h2⟩=>by rw [e];simp [sz,Fd.len,Fits.length h2];omega
 | .r .. :: _,_,⟨_,e,_,h2⟩=>by rw [e];simp [sz,Fd.len,Fits.length h2];omega
theorem tameB_ne {u:Value} (h:zCe u=true):∀ q,u≠.int .u32 q:=by
 rintro q rfl
 simp [zCe] at h
theorem zQt {w:World} {a b:Value} {z:Int} (h:Num w (.agg #[a,b]) z):zCe a=true∧zCe b=true:=by
 obtain ⟨n,ao,k,c,e⟩:=h.parts
 injection e with e
 have e2:=congrArg Array.toList e
 simp at e2
 obtain ⟨rfl,rfl⟩:=e2
 exact ⟨rfl,rfl⟩
theorem Fits.all {w:World}:∀ {fs:List Fd} {us:List Value},Fits w fs us→∀ u∈us,zCe u=true
 | [],_,h=>by rw [show _=[] from h];intro u hu;simp at hu
 | .n _::_,_,⟨_,_,_,e,h1,h2⟩=>by
  rw [e]
  intro u hu
  rcases List.mem_cons.1 hu with rfl | hu
  ·exact (zQt h1).1
  ·rcases List.mem_cons.1 hu with rfl | hu
   ·exact (zQt h1).2
   ·exact Fits.all h2 u hu
 | .v _::_,_,⟨_,e,h1,h2⟩=>by
  rw [e]
  intro u hu
  rcases List.mem_cons.1 hu with rfl | hu
  ·exact h1
  ·exact Fits.all h2 u hu
 | .r .. :: _,_,⟨_,e,_,h2⟩=>by
  rw [e]
  intro u hu
  rcases List.mem_cons.1 hu with rfl | hu
  ·rfl
  ·rcases List.mem_cons.1 hu with rfl | hu
   ·rfl
   ·exact Fits.all h2 u hu
theorem Fits.tame {w:World} {fs:List Fd} {us:List Value} (h:Fits w fs us):Tame us:=fun u hu=>tameB_ne (h.all u hu)
theorem Fits.one {w:World} {fs:List Fd} {us:List Value} (h:Fits w fs us):∀ u∈us,u.oneCell'=true:=fun u hu=>by
 have:=h.all u hu
 simp only [zCe,Bool.and_eq_true] at this
 exact this.1
theorem Fits.append {w:World}:∀ {fs:List Fd} {us:List Value} {gs:List Fd} {vs:List Value},Fits w fs us→Fits w gs vs→Fits w (fs++gs) (us++vs)
 | [],_,_,_,h,g=>by rw [show _=[] from h];exact g
 | .n _::_,_,_,_,⟨a,b,r,e,h1,h2⟩,g=>⟨a,b,r++_,by rw [e];rfl,h1,Fits.append h2 g⟩
 | .v _::_,_,_,_,⟨r,e,h1,h2⟩,g=>⟨r++_,by rw [e];rfl,h1,Fits.append h2 g⟩
 | .r .. :: _,_,_,_,⟨r,e,h1,h2⟩,g=>⟨r++_,by rw [e];rfl,h1,Fits.append h2 g⟩
def cutF:Nat→List Fd→Option (List Fd)
 | 0,fs=>some fs
 | _+1,[]=>none
 | k+1,.v _::fs=>cutF k fs
 | 1,.n _::_=>none
 | k+2,.n _::fs=>cutF k fs
 | 1,.r .. :: _=>none
 | k+2,.r .. :: fs=>cutF k fs
def zBr:Nat→List Fd→Option (List Fd)
 | 0,_=>some []
 | _+1,[]=>none
 | k+1,.v u::fs=>(zBr k fs).map (.v u :: ·)
 | 1,.n _::_=>none
 | k+2,.n z::fs=>(zBr k fs).map (.n z :: ·)
 | 1,.r .. :: _=>none
 | k+2,.r n a l c xs z::fs=>(zBr k fs).map (.r n a l c xs z :: ·)
theorem Fits.cut {w:World}:∀ {k:Nat} {fs gs:List Fd} {us:List Value},Fits w fs us→cutF k fs=some gs→Fits w gs (us.drop k)
 | 0,_,_,_,h,e=>by cases e;exact h
 | _+1,[],_,_,_,e=>by cases e
 | k+1,.v _::_,_,_,⟨_,e1,_,h2⟩,e=>by rw [e1];exact Fits.cut (k:=k) h2 e
 | 1,.n _::_,_,_,_,e=>by cases e
 | k+2,.n _::_,_,_,⟨_,_,_,e1,_,h2⟩,e=>by rw [e1];exact Fits.cut (k:=k) h2 e
 | 1,.r .. :: _,_,_,_,e=>by cases e
 | k+2,.r .. :: _,_,_,⟨_,e1,_,h2⟩,e=>by rw [e1];exact Fits.cut (k:=k) h2 e
theorem Fits.first {w:World}:∀ {k:Nat} {fs gs:List Fd} {us:List Value},Fits w fs us→zBr k fs=some gs→Fits w gs (us.take k)
 | 0,_,_,_,_,e=>by cases e;rfl
 | _+1,[],_,_,_,e=>by cases e
 | k+1,.v u::fs,_,_,⟨r,e1,h1,h2⟩,e=>by
  cases hq:zBr k fs with
  | none=>simp [zBr,hq] at e
  | some g=>
   simp [zBr,hq] at e
   subst e
   rw [e1]
   exact ⟨_,rfl,h1,Fits.first h2 hq⟩
 | 1,.n _::_,_,_,_,e=>by cases e
 | k+2,.n z::fs,_,_,⟨a,b,r,e1,h1,h2⟩,e=>by
  cases hq:zBr k fs with
  | none=>simp [zBr,hq] at e
  | some g=>
   simp [zBr,hq] at e
   subst e
   rw [e1]
   exact ⟨_,_,_,rfl,h1,Fits.first h2 hq⟩
 | 1,.r .. :: _,_,_,_,e=>by cases e
 | k+2,.r n a l c xs z::fs,_,_,⟨r,e1,h1,h2⟩,e=>by
  cases hq:zBr k fs with
  | none=>simp [zBr,hq] at e
  | some g=>
   simp [zBr,hq] at e
   subst e
   rw [e1]
   exact ⟨_,rfl,h1,Fits.first h2 hq⟩
def subF (off l:Nat) (fs:List Fd):Option (List Fd):=(cutF off fs).bind (zBr l)
def putF (off:Nat) (gs fs:List Fd):Option (List Fd):=(zBr off fs).bind fun a=>(cutF (off+sz gs) fs).map fun c=>a++(gs++c)
theorem Fits.sub {w:World} {off l:Nat} {fs gs:List Fd} {us:List Value} (h:Fits w fs us) (e:subF off l fs=some gs):Fits w gs ((us.drop off).take l):=by
 unfold subF at e
 cases hq:cutF off fs with
 | none=>simp [hq] at e
 | some a=>rw [hq] at e;exact (h.cut hq).first e
theorem Fits.put {w:World} {off:Nat} {fs gs fs':List Fd} {us vs:List Value} (h:Fits w fs us) (hv:Fits w gs vs) (e:putF off gs fs=some fs'):Fits w fs' (us.take off++(vs++us.drop (off+sz gs))):=by
 unfold putF at e
 cases hq:zBr off fs with
 | none=>simp [hq] at e
 | some a=>
  cases hc:cutF (off+sz gs) fs with
  | none=>simp [hq,hc] at e
  | some c=>
   simp [hq,hc] at e
   subst e
   exact (h.first hq).append (hv.append (h.cut hc))
theorem zI8:∀ {k:Nat} {fs gs:List Fd},cutF k fs=some gs→k+sz gs=sz fs
 | 0,_,_,e=>by cases e;simp
 | _+1,[],_,e=>by cases e
 | k+1,.v _::_,_,e=>by have:=zI8 (k:=k) e;simp [sz,Fd.len];omega
 | 1,.n _::_,_,e=>by cases e
 | k+2,.n _::_,_,e=>by have:=zI8 (k:=k) e;simp [sz,Fd.len];omega
 | 1,.r .. :: _,_,e=>by cases e
 | k+2,.r .. :: _,_,e=>by have:=zI8 (k:=k) e;simp [sz,Fd.len];omega
theorem zHy:∀ {k:Nat} {fs gs:List Fd},zBr k fs=some gs→sz gs=k
 | 0,_,_,e=>by cases e;rfl
 | _+1,[],_,e=>by cases e
 | k+1,.v u::fs,_,e=>by
  cases hq:zBr k fs with
  | none=>simp [zBr,hq] at e
  | some g=>simp [zBr,hq] at e;subst e;have:=zHy hq;simp [sz,Fd.len];omega
 | 1,.n _::_,_,e=>by cases e
 | k+2,.n z::fs,_,e=>by
  cases hq:zBr k fs with
  | none=>simp [zBr,hq] at e
  | some g=>simp [zBr,hq] at e;subst e;have:=zHy hq;simp [sz,Fd.len];omega
 | 1,.r .. :: _,_,e=>by cases e
 | k+2,.r n a l c xs z::fs,_,e=>by
  cases hq:zBr k fs with
  | none=>simp [zBr,hq] at e
  | some g=>simp [zBr,hq] at e;subst e;have:=zHy hq;simp [sz,Fd.len];omega
theorem zFh {us vs:List Value} (e:Value.agg us.toArray=Value.agg vs.toArray):us=vs:=by
 injection e with e
 simpa using congrArg Array.toList e
def Fq.st (fs:List Fd):Fq:=⟨fun v w=>∃ us:List Value,v=.agg us.toArray∧Fits w fs us,fun ⟨us,e,h⟩ hb=>⟨us,e,h.mono hb⟩,fun ⟨us,e,h⟩ ha ht hl=>⟨us,e,h.putAt ha ht hl⟩⟩
def FitV (gs:List Fd) (v:Value) (w:World):Prop:=Fits w gs v.cells.toList
theorem zGg {gs:List Fd} {v:Value} {w:World} (h:(Fq.st gs).P v w):FitV gs v w:=by
 obtain ⟨us,rfl,h⟩:=h
 simpa [FitV,Value.cells] using h
theorem zH0 {z:Int} {v:Value} {w:World} (h:Num w v z):FitV [.n z] v w:=by
 obtain ⟨n,ao,k,c,e⟩:=h.parts
 subst e
 exact ⟨_,_,[],rfl,h,rfl⟩
theorem zAe {z:Int} {v:Value} {w:World} (h:(Fq.st [.n z]).P v w):Num w v z:=by
 obtain ⟨us,rfl,a,b,r,rfl,h1,h2⟩:=h
 rw [show r=[] from h2]
 exact h1
theorem zMv (b:Nat):∀ (us:List Value) (j:Nat) (w:World),putFrom w b j us=w.setCells b j us
 | [],_,_=>rfl
 | u::us,j,w=>by
  show putFrom (w.setCell ⟨b,j,none⟩ u) b (j+1) us=_
  rw [zMv b us]
  rfl
theorem zMu (b:Nat):∀ (us vs:List Value) (j:Nat) (w:World),putFrom w b j (us++vs)=putFrom (putFrom w b j us) b (j+us.length) vs
 | [],_,_,_=>rfl
 | u::us,vs,j,w=>by
  show putFrom (w.setCell ⟨b,j,none⟩ u) b (j+1) (us++vs)=putFrom (putFrom (w.setCell ⟨b,j,none⟩ u) b (j+1) us) b _ vs
  rw [zMu b us vs]
  congr 1
  simp
  omega
theorem zXq {w:World} {a:Addr} {v:Value} (h:w.cell? a=some v):w.setCell a v=w:=by
 have e:(w.setCell a v).heap=w.heap:=by
  unfold World.cell? at h
  unfold World.setCell
  apply Array.ext
  ·simp
  ·intro j h1 h2
   simp only [Array.getElem_modify]
   split
   ·rename_i hj
    subst hj
    rw [Array.getElem?_eq_getElem h2] at h
    cases hc:w.heap[a.block] with
    | cells c el fr=>
     rw [hc] at h
     simp only at h
     split at h
     ·cases h
     ·rename_i hs
      simp only [hs,Bool.false_eq_true,if_false]
      congr 1
      apply Array.ext
      ·simp
      ·intro k g1 g2
       rw [Array.getElem_setIfInBounds]
       split
       ·rename_i hk
        subst hk
        rw [Array.getElem?_eq_getElem g2] at h
        exact (Option.some.inj h).symm
       ·rfl
    | _=>rfl
   ·rfl
 have e2:w.setCell a v={ w with heap:=(w.setCell a v).heap }:=rfl
 rw [e2,e]
theorem zMx (b:Nat):∀ (us:List Value) (j:Nat) (w:World),(∀ i,i<us.length→w.cell? ⟨b,j+i,none⟩=some (us.getD i undef))→putFrom w b j us=w
 | [],_,_,_=>rfl
 | u::us,j,w,h=>by
  show putFrom (w.setCell ⟨b,j,none⟩ u) b (j+1) us=w
  have h0:=h 0 (by simp)
  rw [zXq (by simpa using h0)]
  exact zMx b us (j+1) w fun i hi=>by
   have:=h (i+1) (by simp;omega)
   rw [show j+(i+1)=j+1+i by omega] at this
   simpa using this
theorem zWw {w:World} {b off:Nat} {us vs:List Value} (ha:At w b us) (hl:off+vs.length≤us.length):putFrom w b off vs=putFrom w b 0 (us.take off++(vs++us.drop (off+vs.length))):=by
 have hlt:(us.take off).length=off:=by simp;omega
 rw [zMu,zMx b (us.take off) 0 w fun i hi=>?_]
 ·rw [Nat.zero_add,hlt,zMu]
  refine (zMx b _ _ _ fun i hi=>?_).symm
  rw [zMv,World.cell?_setCells_out b vs off w _ (fun _ _=>.inr (by show off+vs.length≤off+vs.length+i;omega))]
  have hi':off+vs.length+i<us.length:=by simp at hi;omega
  rw [(ha _ hi').1]
  simp [List.getD]
 ·rw [Nat.zero_add,(ha i zm).1]
  rw [hlt] at hi
  simp [List.getD,hi]

noncomputable def rowB (T l:Nat):Bool:=(match Tryz.prog.underlying T with | some d=>d.isRow | none=>false) && (match Tryz.prog.info? T with | some i=>i.size == l | none=>false)
noncomputable def zDa (T l:Nat):Bool:=match Tryz.prog.info? T with | some i=>i.size == l | none=>false
theorem zKm {T l:Nat} (h:rowB T l=true):(∃ d,Tryz.prog.underlying T=some d∧d.isRow=true)∧(Tryz.prog.info? T).map (·.size)=some l:=by
 unfold rowB at h
 cases hu:Tryz.prog.underlying T with
 | none=>simp [hu] at h
 | some d=>
  cases hi:Tryz.prog.info? T with
  | none=>simp [hi] at h
  | some i=>simp [hu,hi] at h;exact ⟨⟨d,rfl,h.1⟩,by simp [h.2]⟩
theorem sizeB_of {T l:Nat} (h:zDa T l=true):∃ i,Tryz.prog.info? T=some i∧i.size=l:=by
 unfold zDa at h
 cases hi:Tryz.prog.info? T with
 | none=>simp [hi] at h
 | some i=>simp [hi] at h;exact ⟨i,rfl,h⟩
theorem zXp {w:World} {b o T:Nat} {v:Value} (ht:w.there b o v.cells.size) (hi:zDa T v.cells.size=true) (h1:∀ u∈v.cells.toList,u.oneCell'=true):(storeVar T ⟨b,o,none⟩ v).run Tryz.prog w=.ok () (w.setCells b o v.cells.toList):=by
 have:=run_storeCells_cells (P:=Tryz.prog) b o v.cells.toList 0 w (fun j hj=>by simpa using (ht j (by simpa using hj)).1) (fun j hj=>by simpa using (ht j (by simpa using hj)).2) h1
 obtain ⟨i,hq,hs⟩:=sizeB_of hi
 simp only [Nat.add_zero] at this
 simp [storeVar,sizeOf,typeInfo,hq,hs,this]

section
variable {os : List Oper} {Q : Exit → Act → World → Prop} {a : Act} {p : Pq} {B B0 : Nat} {w0 : World}
variable {i s : Nat} {d : Option Tmp} {ty : TypeId} {ps : String} {af : Array Edge} {gd : Option (Nat × Bool)}

theorem zCz {o:Ob} {off l T:Nat} {fs gs:List Fd} {x:Operand} (hp:p.Ok B B0) (hF:p.Free i) (hg:GdQ os a p B B0 w0 af gd) (ho:o∈p.old) (hk:o.F1=o.F0∨zBo os 9 o.k i=true) (hf:o.F0=Fq.st fs) (hT:rowB T l=true) (hs:subF off l fs=some gs)
  (hx:SrcQ os a p B B0 w0 af x fun u _=>u=.pointer (some ⟨o.b,off,none⟩)) (hC:∀ v w,(Fq.st gs).P v w→(p.c i).P v w) :
  zAf os Q a p B B0 w0 i { dst:=d,op:=.load T x,type:=ty,pos:=ps,after:=af,guard:=gd }:=by
 refine zBf hp hF hg fun L vs w hG hL hc hd=>?_
 obtain ⟨us,hl,h0,hat,ht,hP⟩:=zFj ho hk hG hL hc
 rw [hf] at hP
 obtain ⟨us',e',hfit⟩:=hP
 have e2:us=us':=zFh e'
 subst e2
 have e:=hx L vs w hG hd
 have hsub:=hfit.sub hs
 obtain ⟨⟨dd,hu,hd'⟩,hi⟩:=zKm hT
 have hlen:((us.drop off).take l).length=l:=by
  rw [hsub.length]
  unfold subF at hs
  cases hq:cutF off fs with
  | none=>simp [hq] at hs
  | some a=>rw [hq] at hs;exact zHy hs
 refine ⟨.agg ((us.drop off).take l).toArray,?_,hC _ _ ⟨_,rfl,hsub⟩⟩
 have hr:w.rangeAt o.b off ((us.drop off).take l):=by
  intro j v hv
  rw [List.getElem?_take] at hv
  split at hv
  ·rw [List.getElem?_drop] at hv
   have hj:=(List.getElem?_eq_some_iff.1 hv).1
   rw [(hat _ hj).1,List.getD,hv]
   rfl
  ·cases hv
 have:=run_loadVar_mid (P:=Tryz.prog) w o.b off T _ dd hr hu hd' (by rw [hlen];exact hi)
 generalize (lay os.toArray L vs os.toArray.size a).eval=ρ at e
 simp only [execOp,e,Instr.loadAt,Instr.sureAddr,Sem.run_bind,Sem.run_pure,Result.andThen_ok,this]

theorem zIi {o:Ob} {off T:Nat} {fs:List Fd} {u:Value} {x:Operand} (hp:p.Ok B B0) (hF:p.Free i) (hg:GdQ os a p B B0 w0 af gd) (ho:o∈p.old) (hk:o.F1=o.F0∨zBo os 9 o.k i=true) (hf:o.F0=Fq.st fs) (hs:subF off 1 fs=some [.v u])
  (hT:∀ (ρ:Operand→Value) (w:World) (b:Nat),ρ x=.pointer (some ⟨b,off,none⟩)→w.cell? ⟨b,off,none⟩=some u→(execOp ρ { dst:=d,op:=.load T x,type:=ty,pos:=ps,after:=af,guard:=gd }).run Tryz.prog w=.ok (.value u) w)
  (hx:SrcQ os a p B B0 w0 af x fun u _=>u=.pointer (some ⟨o.b,off,none⟩)) (hC:∀ w,(p.c i).P u w) :
  zAf os Q a p B B0 w0 i { dst:=d,op:=.load T x,type:=ty,pos:=ps,after:=af,guard:=gd }:=by
 refine zBf hp hF hg fun L vs w hG hL hc hd=>?_
 obtain ⟨us,hl,h0,hat,ht,hP⟩:=zFj ho hk hG hL hc
 rw [hf] at hP
 obtain ⟨us',e',hfit⟩:=hP
 have e2:us=us':=zFh e'
 subst e2
 have e:=hx L vs w hG hd
 obtain ⟨r,hsub,_,_⟩:=hfit.sub hs
 have hoff:off<us.length:=by
  rcases Nat.lt_or_ge off us.length with h | h
  ·exact h
  ·rw [List.drop_of_length_le h] at hsub;simp at hsub
 have hu:us.getD off undef=u:=by
  have h2:=congrArg (fun l=>l[0]?) hsub
  simp at h2
  simp [List.getD,h2]
 refine ⟨u,?_,hC w⟩
 have c0:=(hat off hoff).1
 rw [hu] at c0
 exact hT _ _ _ e c0

theorem st_run {T b off:Nat} {x y:Operand} {fs gs fs':List Fd} {us:List Value} {w:World} {ρ:Operand→Value} (hx:ρ x=.pointer (some ⟨b,off,none⟩)) (hv:FitV gs (ρ y) w) (ha:At w b us) (hf:Fits w fs us) (hT:zDa T (sz gs)=true) (hput:putF off gs fs=some fs') :
  ∃ us',us'.length=us.length∧Fits w fs' us'∧(execOp ρ { dst:=d,op:=.store T x y,type:=ty,pos:=ps,after:=af,guard:=none }).run Tryz.prog w=.ok .skip (putFrom w b 0 us'):=by
 have hlen:=hv.length
 have hsum:off+sz gs≤sz fs:=by
  unfold putF at hput
  cases hq:zBr off fs with
  | none=>simp [hq] at hput
  | some a=>
   cases hc:cutF (off+sz gs) fs with
   | none=>simp [hq,hc] at hput
   | some c=>have:=zI8 hc;omega
 rw [← hf.length] at hsum
 have hcs:(ρ y).cells.size=sz gs:=by rw [← hlen];simp
 refine ⟨_,?_,hf.put hv hput,?_⟩
 ·simp only [List.length_append,List.length_take,List.length_drop,hlen];omega
 ·have hrun:=zXp (w:=w) (b:=b) (o:=off) (T:=T) (v:=ρ y) (fun j hj=>by
    have:=ha (off+j) zm
    exact ⟨by rw [this.1];rfl,this.2⟩) (by rw [hcs];exact hT) hv.one
  rw [← zMv,zWw ha (by rw [hlen];exact hsum),hlen] at hrun
  simp only [execOp,Instr.storeAt,Instr.sureAddr,hx,Sem.run_bind,Sem.run_pure,Result.andThen_ok,hrun]

theorem zEw {o0:Ob} {off T:Nat} {x y:Operand} {fs gs fs':List Fd} (hp:p.Ok B B0) (hi:o0∈p.old) (hki:o0.k=i) (hf0:o0.F0=Fq.st fs) (hf1:o0.F1=Fq.st fs') (hT:zDa T (sz gs)=true) (hput:putF off gs fs=some fs')
  (hx:SrcQ os a p B B0 w0 af x fun u _=>u=.pointer (some ⟨o0.b,off,none⟩)) (hy:SrcQ os a p B B0 w0 af y (FitV gs))
  (hC:∀ v w',(p.c i).P v w') (h2:∀ n∈p.new,n.i≠i∧n.k≠i):zAf os Q a p B B0 w0 i { dst:=none,op:=.store T x y,type:=ty,pos:=ps,after:=af,guard:=none }:=by
 subst hki
 intro hio L vs w hG hL hd hc
 have hv:=hy L vs w hG hd
 obtain ⟨us,g1,g2,g3,g4,g5⟩:=hG.old _ hi
 rw [hL] at g5
 simp only [Bool.false_eq_true,if_false] at g5
 rw [hf0] at g5
 obtain ⟨us2,e2,hfit⟩:=g5
 have e3:us=us2:=zFh e2
 subst e3
 obtain ⟨us',hl',hfit',hrun⟩:=st_run (d:=none) (ty:=ty) (ps:=ps) (af:=af) (hx L vs w hG hd) hv g3 hfit hT hput
 refine wpOp_step hio fun K' hK=>?_
 have hwn:Region.wanted ({ dst:=none,op:=.store T x y,type:=ty,pos:=ps,after:=af,guard:=none }:Oper) (yielded os.toArray (lay os.toArray L vs os.toArray.size a).tmps)=true:=rfl
 rw [if_pos hwn]
 unfold Oper.wp
 rw [hrun]
 exact hK _ _ ⟨undef,rfl,hG.storeOld hp hi (us:=us') zm hfit'.tame (by rw [hf1];exact ⟨_,rfl,hfit'⟩) hC h2 _⟩

theorem zXd {n0:Nb} {T:Nat} {x y:Operand} {fs gs:List Fd} (hp:p.Ok B B0) (hi:n0∈p.new) (hki:n0.k=i) (hsl:n0.s=none) (hf0:n0.F0=Fq.st fs) (hf1:n0.F1=Fq.st gs) (hT:zDa T (sz gs)=true) (hput:putF 0 gs fs=some gs)
  (hx:∀ L vs w,p.G B B0 w0 L vs w→(∀ e∈af,Region.binds .any e=true→L e.on=true)→L n0.i=true∧(lay os.toArray L vs os.toArray.size a).eval x=vs n0.i) (hy:SrcQ os a p B B0 w0 af y (FitV gs))
  (hC:∀ v w',(p.c i).P v w') (h1:∀ o∈p.old,o.k≠i) (h2:∀ n∈p.new,n.i≠i):zAf os Q a p B B0 w0 i { dst:=none,op:=.store T x y,type:=ty,pos:=ps,after:=af,guard:=none }:=by
 subst hki
 intro hio L vs w hG hL hd hc
 obtain ⟨hLi,hxe⟩:=hx L vs w hG hd
 have hv:=hy L vs w hG hd
 obtain ⟨b,e1',e2,us,g1,g2,g3,g4,g5⟩:=hG.new _ hi hLi
 rw [Nb.now_off hsl hL,hf0] at g5
 obtain ⟨us2,e4,hfit⟩:=g5
 have e3:us=us2:=zFh e4
 subst e3
 have e1:vs n0.i=.pointer (some ⟨b,0,none⟩):=by rw [e1'];unfold Nb.ptr;rw [hsl]
 obtain ⟨us',hl',hfit',hrun⟩:=st_run (d:=none) (ty:=ty) (ps:=ps) (af:=af) (hxe.trans e1) hv g3 hfit hT hput
 refine wpOp_step hio fun K' hK=>?_
 have hwn:Region.wanted ({ dst:=none,op:=.store T x y,type:=ty,pos:=ps,after:=af,guard:=none }:Oper) (yielded os.toArray (lay os.toArray L vs os.toArray.size a).tmps)=true:=rfl
 rw [if_pos hwn]
 unfold Oper.wp
 rw [hrun]
 exact hK _ _ ⟨undef,rfl,hG.storeNew hp hi hLi (us:=us') zm hfit'.tame (by rw [hf1];exact ⟨_,rfl,hfit'⟩) hC h1 h2 e1' _⟩

theorem q_allocSt {n0:Nb} {T:Nat} {us:List Value} {fs:List Fd} (hp:p.Ok B B0) (hi:n0∈p.new) (hii:n0.i=i) (hsl:n0.s=none) (hm:n0.m=us.length) (h0:0<us.length) (hf0:n0.F0=Fq.st fs) (hz:∀ w,Fits w fs us)
  (hT:∀ (ρ:Operand→Value) (w:World),(execOp ρ { dst:=d,op:=.alloc T,type:=ty,pos:=ps,after:=af,guard:=none }).run Tryz.prog w=.ok (.value (.pointer (some ⟨w.heap.size,0,none⟩))) (w.alloc (.cells us.toArray T)))
  (hk:zBo os 9 n0.k i=true) (hki:n0.k≠i) (hC:∀ v w',(p.c i).P v w') (h1:∀ o∈p.old,o.k≠i) (h2:∀ n∈p.new,n.k≠i) :
  zAf os Q a p B B0 w0 i { dst:=d,op:=.alloc T,type:=ty,pos:=ps,after:=af,guard:=none }:=by
 subst hii
 intro hio L vs w hG hL hd hc
 refine wpOp_step hio fun K' hK=>?_
 have hwn:Region.wanted ({ dst:=d,op:=.alloc T,type:=ty,pos:=ps,after:=af,guard:=none }:Oper) (yielded os.toArray (lay os.toArray L vs os.toArray.size a).tmps)=true:=rfl
 rw [if_pos hwn]
 unfold Oper.wp
 rw [hT]
 exact hK _ _ ⟨_,rfl,hG.alloc hp hi hsl (zFm hc hk hL) hki hC h1 h2 _ (us:=us) hm.symm zm (hz w).tame (fun w'=>by rw [hf0];exact ⟨_,rfl,hz w'⟩)⟩
end
theorem zAv {w:World} {b m:Nat} {fs:List Fd} (h:Bq w b m (Fq.st fs)):∃ us,us.length=m∧(∀ j,j<us.length→w.cell? ⟨b,j,none⟩=some (us.getD j undef))∧Fits w fs us:=by
 obtain ⟨us,h1,_,h3,_,us',e,h5⟩:=h
 have e2:us=us':=zFh e
 subst e2
 exact ⟨us,h1,fun j hj=>(h3 j hj).1,h5⟩
section
variable {os : List Oper} {Q : Exit → Act → World → Prop} {a : Act} {p : Pq} {B B0 : Nat} {w0 : World}
variable {i s : Nat} {d : Option Tmp} {ty : TypeId} {ps : String} {af : Array Edge} {gd : Option (Nat × Bool)}
theorem wXc (off:Nat) {o:Ob} {T:Nat} {fs:List Fd} {u:Value} {x:Operand} (hp:p.Ok B B0) (ho:o∈p.old) (hx:SrcQ os a p B B0 w0 af x fun u _=>u=.pointer (some ⟨o.b,off,none⟩)) (hf:o.F0=Fq.st fs:=by exact rfl) (hs:subF off 1 fs=some [.v u]:=by exact rfl)
  (hT:∀ (ρ:Operand→Value) (w:World) (b:Nat),ρ x=.pointer (some ⟨b,off,none⟩)→w.cell? ⟨b,off,none⟩=some u→(execOp ρ { dst:=d,op:=.load T x,type:=ty,pos:=ps,after:=af,guard:=none }).run Tryz.prog w=.ok (.value u) w:=by intro ρ w b h1 h2;simp [execOp,go_sem,h1,h2])
  (hC:∀ w,(p.c i).P u w:=by exact fun _=>rfl) (hk:o.F1=o.F0∨zBo os 9 o.k i=true:=by exact .inl rfl) (hF:p.Free i:=by exact zBn rfl):zAf os Q a p B B0 w0 i { dst:=d,op:=.load T x,type:=ty,pos:=ps,after:=af,guard:=none }:=zIi hp hF trivial ho hk hf hs hT hx hC
theorem sO (off j:Nat) {o0:Ob} {T l:Nat} {x:Operand} {fs gs fs':List Fd} (hp:p.Ok B B0) (hi:o0∈p.old) (hT:zDa T l=true) (hx:SrcQ os a p B B0 w0 af x fun u _=>u=.pointer (some ⟨o0.b,off,none⟩)) (hc:p.c j=Fq.st gs:=by exact rfl) (hl:sz gs=l:=by exact rfl) (hki:o0.k=i:=by exact rfl) (hf0:o0.F0=Fq.st fs:=by exact rfl) (hput:putF off gs fs=some fs':=by exact rfl) (hf1:o0.F1=Fq.st fs':=by exact rfl) (ha:zAy (os.map (·.dst))=true:=by exact rfl) (hj:(os.map (·.dst))[j]?=some (some s):=by exact rfl) (hs:s<a.tmps.size:=by simp) (hdep:depA af j=true:=by exact rfl)
  (hC:∀ v w',(p.c i).P v w':=by exact fun _ _=>trivial) (h2:∀ n∈p.new,n.i≠i∧n.k≠i:=by exact zBj rfl):zAf os Q a p B B0 w0 i { dst:=none,op:=.store T x (.tmp s),type:=ty,pos:=ps,after:=af,guard:=none }:=zEw hp hi hki hf0 hf1 (by rw [hl];exact hT) hput hx (zA9 j ha hj hs hdep fun v w h=>zGg (by rw [← hc];exact h)) hC h2
theorem sS (j:Nat) {n0:Nb} {T l s':Nat} {fs gs:List Fd} (hp:p.Ok B B0) (hi:n0∈p.new) (hT:zDa T l=true) (hc:p.c j=Fq.st gs:=by exact rfl) (hl:sz gs=l:=by exact rfl) (hki:n0.k=i:=by exact rfl) (hsl:n0.s=none:=by exact rfl) (hf0:n0.F0=Fq.st fs:=by exact rfl) (hf1:n0.F1=Fq.st gs:=by exact rfl) (hput:putF 0 gs fs=some gs:=by exact rfl) (ha:zAy (os.map (·.dst))=true:=by exact rfl) (hj0:(os.map (·.dst))[n0.i]?=some (some s'):=by exact rfl) (hs0:s'<a.tmps.size:=by simp) (hd0:depA af n0.i=true:=by exact rfl) (hj:(os.map (·.dst))[j]?=some (some s):=by exact rfl) (hs:s<a.tmps.size:=by simp) (hdep:depA af j=true:=by exact rfl)
  (hC:∀ v w',(p.c i).P v w':=by exact fun _ _=>trivial) (h1:∀ o∈p.old,o.k≠i:=by exact zCh rfl) (h2:∀ n∈p.new,n.i≠i:=by exact zMg rfl):zAf os Q a p B B0 w0 i { dst:=none,op:=.store T (.tmp s') (.tmp s),type:=ty,pos:=ps,after:=af,guard:=none }:=zXd hp hi hki hsl hf0 hf1 (by rw [hl];exact hT) hput (zEg ha hj0 hs0 hd0) (zA9 j ha hj hs hdep fun v w h=>zGg (by rw [← hc];exact h)) hC h1 h2
theorem aS {n0:Nb} {T:Nat} {us:List Value} {fs:List Fd} (hp:p.Ok B B0) (hi:n0∈p.new) (hz:∀ w,Fits w fs us) (hT:∀ (ρ:Operand→Value) (w:World),(execOp ρ { dst:=d,op:=.alloc T,type:=ty,pos:=ps,after:=af,guard:=none }).run Tryz.prog w=.ok (.value (.pointer (some ⟨w.heap.size,0,none⟩))) (w.alloc (.cells us.toArray T))) (hii:n0.i=i:=by exact rfl) (hsl:n0.s=none:=by exact rfl) (hm:n0.m=us.length:=by exact rfl) (h0:0<us.length:=by exact Nat.lt_of_sub_eq_succ rfl) (hf0:n0.F0=Fq.st fs:=by exact rfl)
  (hk:zBo os 9 n0.k i=true:=by exact rfl) (hki:n0.k≠i:=by exact Nat.ne_of_beq_eq_false rfl) (hC:∀ v w',(p.c i).P v w':=by exact fun _ _=>trivial) (h1:∀ o∈p.old,o.k≠i:=by exact zCh rfl) (h2:∀ n∈p.new,n.k≠i:=by exact zMh rfl):zAf os Q a p B B0 w0 i { dst:=d,op:=.alloc T,type:=ty,pos:=ps,after:=af,guard:=none }:=q_allocSt hp hi hii hsl hm h0 hf0 hz hT hk hki hC h1 h2
theorem lG (off l:Nat) {o:Ob} {T:Nat} {fs gs:List Fd} {x:Operand} (hp:p.Ok B B0) (hg:GdQ os a p B B0 w0 af gd) (ho:o∈p.old) (hT:rowB T l=true) (hx:SrcQ os a p B B0 w0 af x fun u _=>u=.pointer (some ⟨o.b,off,none⟩)) (hC:∀ v w,(Fq.st gs).P v w→(p.c i).P v w) (hf:o.F0=Fq.st fs:=by exact rfl) (hs:subF off l fs=some gs:=by exact rfl)
  (hk:o.F1=o.F0∨zBo os 9 o.k i=true:=by exact .inl rfl) (hF:p.Free i:=by exact zBn rfl):zAf os Q a p B B0 w0 i { dst:=d,op:=.load T x,type:=ty,pos:=ps,after:=af,guard:=gd }:=zCz hp hF hg ho hk hf hT hs hx hC
theorem lS (off l:Nat) {o:Ob} {T:Nat} {fs gs:List Fd} {x:Operand} (hp:p.Ok B B0) (ho:o∈p.old) (hT:rowB T l=true) (hx:SrcQ os a p B B0 w0 af x fun u _=>u=.pointer (some ⟨o.b,off,none⟩)) (hf:o.F0=Fq.st fs:=by exact rfl) (hs:subF off l fs=some gs:=by exact rfl) (hC:∀ v w,(Fq.st gs).P v w→(p.c i).P v w:=by exact fun v w h=>h)
  (hk:o.F1=o.F0∨zBo os 9 o.k i=true:=by exact .inl rfl) (hF:p.Free i:=by exact zBn rfl):zAf os Q a p B B0 w0 i { dst:=d,op:=.load T x,type:=ty,pos:=ps,after:=af,guard:=none }:=zCz hp hF trivial ho hk hf hT hs hx hC
theorem lN (off l:Nat) {o:Ob} {T:Nat} {fs:List Fd} {z:Int} {x:Operand} (hp:p.Ok B B0) (ho:o∈p.old) (hT:rowB T l=true) (hx:SrcQ os a p B B0 w0 af x fun u _=>u=.pointer (some ⟨o.b,off,none⟩)) (hf:o.F0=Fq.st fs:=by exact rfl) (hs:subF off l fs=some [.n z]:=by exact rfl) (hC:∀ v w,Num w v z→(p.c i).P v w:=by exact fun v w h=>h)
  (hk:o.F1=o.F0∨zBo os 9 o.k i=true:=by exact .inl rfl) (hF:p.Free i:=by exact zBn rfl):zAf os Q a p B B0 w0 i { dst:=d,op:=.load T x,type:=ty,pos:=ps,after:=af,guard:=none }:=zCz hp hF trivial ho hk hf hT hs hx fun v w h=>hC v w (zAe h)
end
theorem fS {w W:World} {bs:List (Nat × Nat × Fq)} (E:Fr w bs W) {k:Nat} (hk:W.heap.size=k) (t:TypeId) {fs:List Fd} {us:List Value} (h:Fits w fs us) (h0:0<us.length:=by simp):∃ w' b,w'=W.alloc (.cells us.toArray t)∧b=k∧w'.heap.size=k+1∧Fr w ((b,us.length,Fq.st fs)::bs) w':=zDm E hk (F:=Fq.st fs) (us:=us) t rfl h0 h.tame ((Fq.st fs).mono (show (Fq.st fs).P _ w from ⟨_,rfl,h⟩) E.below)
theorem gS (w:World) (t:TypeId) {fs:List Fd} {us:List Value} (h:Fits w fs us) (h0:0<us.length:=by simp):∃ w' b,w'=w.alloc (.cells us.toArray t)∧b=w.heap.size∧w'.heap.size=w.heap.size+1∧Fr w [(b,us.length,Fq.st fs)] w':=zEb w (F:=Fq.st fs) (us:=us) t rfl h0 h.tame (show (Fq.st fs).P _ w from ⟨_,rfl,h⟩)
theorem fO {w W:World} {bs:List (Nat × Nat × Fq)} (E:Fr w bs W) {k:Nat} (hk:W.heap.size=k) (t:TypeId) {fs:List Fd} {us:List Value} (h:∀ w,Fits w fs us) (h0:0<us.length:=by simp):∃ w' b,w'=W.alloc (.cells us.toArray t)∧b=k∧w'.heap.size=k+1∧Fr w ((b,us.length,Fq.st fs)::bs) w':=zDm E hk (F:=Fq.st fs) (us:=us) t rfl h0 (h w).tame ⟨_,rfl,h _⟩

inductive Cq where
 | a | k | t | o
 | i (z:Int)
 | p (b off:Nat)
 | u (v:Value)
 | n (z:Int)
 | w (F:Fq)
def Cq.q:Cq→Fq
 | .a=>Fq.any
 | .k=>Fq.any
 | .t=>Fq.is (.bool true)
 | .o=>Fq.is (.bool false)
 | .i z=>Fq.is (.int .i64 z)
 | .p b off=>Fq.is (.pointer (some ⟨b,off,none⟩))
 | .u v=>Fq.is v
 | .n z=>Fq.num z
 | .w F=>F
def Cq.v?:Cq→Option Value
 | .t=>some (.bool true)
 | .o=>some (.bool false)
 | .i z=>some (.int .i64 z)
 | .p b off=>some (.pointer (some ⟨b,off,none⟩))
 | .u v=>some v
 | _=>none
def Cq.k?:Cq→Bool
 | .k=>true
 | _=>false
theorem Cq.is {c:Cq} {v u:Value} {w:World} (h:c.v?=some v) (hP:c.q.P u w):u=v:=by
 cases c <;> simp only [Cq.v?,reduceCtorEq,Option.some.injEq] at h <;> subst h <;> exact hP

def HB:List Nb→(List Nat→Prop)→Prop
 | [],K=>K []
 | _::N,K=>∀ b,HB N fun bl=>K (b::bl)
def HV (f:Nat→Value):List Cq→List Nb→List Nat→Nat→(List Value→Prop)→Prop
 | [],_,_,_,K=>Unit→K []
 | c::C,N,bl,i,K=>match c.v? with
  | some v=>HV f C N bl (i+1) fun vl=>K (v::vl)
  | none=>match c.k?,N,bl with
   | true,n::N',b::bl'=>HV f C N' bl' (i+1) fun vl=>K (n.ptr b::vl)
   | _,_,_=>HV f C N bl (i+1) fun vl=>K (f i::vl)
def okK:List Cq→List Nb→Nat→Bool
 | [],_,_=>true
 | c::C,N,i=>match c.v? with
  | some _=>okK C N (i+1)
  | none=>match c.k?,N with
   | true,n::N'=>n.i == i && okK C N' (i+1)
   | _,_=>okK C N (i+1)
def nbs:List Nb→List Nat→List (Nat × Nat × Fq)
 | n::N,b::bl=>(b,n.m,n.F1)::nbs N bl
 | _,_=>[]
def pas:List Oper→List Value→Act→Act
 | x::os,v::vl,a=>pas os vl (a.put x.dst v)
 | _,_,a=>a

theorem HB.of {nb:Nat→Nat}:∀ {N:List Nb} {K:List Nat→Prop},HB N K→K (N.map fun n=>nb n.i)
 | [],_,h=>h
 | n::N,K,h=>HB.of (N:=N) (h (nb n.i))
theorem HV.of {vs:Nat→Value} {nb:Nat→Nat} {W:World}:∀ (C:List Cq) (N:List Nb) (i:Nat) (K:List Value→Prop),okK C N i=true→(∀ n∈N,vs n.i=n.ptr (nb n.i))→(∀ (j:Nat) (c:Cq),C[j]?=some c→c.q.P (vs (i+j)) W) →
  HV vs C N (N.map fun n=>nb n.i) i K→K ((List.range' i C.length).map vs)
 | [],_,_,_,_,_,_,h=>h ()
 | c::C,N,i,K,hk,hn,hC,h=>by
  have h0:=hC 0 c rfl
  have hC':∀ (j:Nat) (c:Cq),C[j]?=some c→c.q.P (vs (i+1+j)) W:=fun j c hj=>by have:=hC (j+1) c (by simpa using hj);rw [show i+(j+1)=i+1+j by omega] at this;exact this
  rw [List.length_cons,List.range'_succ,List.map_cons]
  unfold HV at h
  unfold okK at hk
  cases hv:c.v? with
  | some v=>
   simp only [hv] at h hk
   have e:vs i=v:=Cq.is hv h0
   rw [e]
   exact HV.of C N (i+1) (fun vl=>K (v::vl)) hk hn hC' h
  | none=>
   simp only [hv] at h hk
   cases hq:c.k? with
   | false=>
    simp only [hq] at h hk
    exact HV.of C N (i+1) (fun vl=>K (vs i::vl)) hk hn hC' h
   | true=>
    cases N with
    | nil=>
     simp only [hq,List.map_nil] at h hk
     exact HV.of C [] (i+1) (fun vl=>K (vs i::vl)) hk hn hC' h
    | cons n N=>
     simp only [hq,List.map_cons,Bool.and_eq_true,beq_iff_eq] at h hk
     have e:vs i=n.ptr (nb n.i):=by have:=hn n (List.mem_cons_self ..);rw [hk.1] at this ⊢;exact this
     rw [e]
     exact HV.of C N (i+1) (fun vl=>K (n.ptr (nb n.i)::vl)) hk.2 (fun m hm=>hn m (List.mem_cons_of_mem _ hm)) hC' h
theorem nbs_map {nb:Nat→Nat}:∀ N:List Nb,nbs N (N.map fun n=>nb n.i)=N.map fun n=>(nb n.i,n.m,n.F1)
 | []=>rfl
 | n::N=>by simp only [List.map_cons,nbs];rw [nbs_map N]
theorem zQ1 (x:Oper) (v:Value):∀ (os:List Oper) (vl:List Value) (a:Act),os.length=vl.length→pas (os ++ [x]) (vl ++ [v]) a=(pas os vl a).put x.dst v
 | [],[],_,_=>rfl
 | y::os,u::vl,a,h=>by simp only [List.cons_append,pas];exact zQ1 x v os vl _ (by simpa using h)
theorem zQ2 {os:List Oper} {vs:Nat→Value} {a:Act}:∀ k,k≤os.length→zCt os.toArray vs k a=pas (os.take k) ((List.range' 0 k).map vs) a
 | 0,_=>by simp [zCt,pas]
 | k+1,h=>by
  have hk:k<os.length:=zm
  simp only [zCt]
  rw [zQ2 k zm,List.take_succ_eq_append_getElem hk,List.range'_concat,List.map_append,List.map_cons,List.map_nil,zQ1 _ _ _ _ _ (by simp;omega)]
  simp [zBq,hk]
theorem pas_all {os:List Oper} {vs:Nat→Value} {a:Act}:zCt os.toArray vs os.length a=pas os ((List.range' 0 os.length).map vs) a:=by
 have:=zQ2 (os:=os) (vs:=vs) (a:=a) os.length zm
 rwa [List.take_length] at this

section
variable {os : List Oper} {Q : Exit → Act → World → Prop} {a : Act} {w0 : World}
theorem rz {id:Nat} {dr:Bool} (C:List Cq) {bs:List (Nat × Nat × Fq)} (ks:List (Option (Nat × Fq))) (new:List Nb) {W:World} (E:Fr w0 bs W)
  (hs:(plq (C.map Cq.q) bs ks new os.length).Ok w0.heap.size W.heap.size→AllOps (zAf os Q a (plq (C.map Cq.q) bs ks new os.length) w0.heap.size W.heap.size w0) os 0)
  (hf:∀ W',HB new fun bl=>Fr w0 (nbs new bl++zAj bs ks) W'→∀ f,HV f C new bl 0 fun vl=>Q .normal (pas os vl a) W')
  (hok:okB os.length bs.length ks new=true:=by exact rfl) (hk:(C.length == os.length && okK C new 0)=true:=by exact rfl) (hm:Tryz.prog.follows .mixedOrders=true:=by kernel_rfl) (ha:zAy (os.map (·.dst))=true:=by exact rfl) (hb:zDr os 0=true:=by exact rfl):(Code.region id os.toArray dr).wp Tryz.prog Q a W:=by
 simp only [Bool.and_eq_true,beq_iff_eq] at hk
 refine zRx E hok hm ha hb hs fun L vs W' nb hL hC hn E'=>?_
 rw [zAo hL,pas_all]
 have hh:=HB.of (nb:=nb) (hf W')
 rw [nbs_map] at hh
 have:=HV.of (vs:=vs) (W:=W') C new 0 _ hk.2 hn (fun j c hj=>by
  have hjl:j<C.length:=by rw [List.getElem?_eq_some_iff] at hj;exact hj.1
  have:=hC j zm
  rw [List.getElem?_map,hj] at this
  rw [Nat.zero_add];exact this) (hh E' vs)
 rw [hk.1] at this
 exact this
end
theorem rzE:(∀ (n:Nb) N b bl,nbs (n::N) (b::bl)=(b,n.m,n.F1)::nbs N bl)∧(nbs [] []=[])∧(∀ l:List (Nat × Nat × Fq),[] ++ l=l)∧(∀ (x:Nat × Nat × Fq) (l m:List (Nat × Nat × Fq)),x::l++m=x::(l++m)) ∧
  (∀ b m F r ks,zAj ((b,m,F)::r) (none::ks)=(b,m,F)::zAj r ks)∧(∀ b m F r k F1 ks,zAj ((b,m,F)::r) (some (k,F1)::ks)=(b,m,F1)::zAj r ks)∧(zAj [] []=[]) ∧
  (∀ d op ty ps af gd os v vl a,pas (⟨some d,op,ty,ps,af,gd⟩ :: os) (v::vl) a=pas os vl { a with tmps:=a.tmps.setIfInBounds d v })∧(∀ op ty ps af gd os v vl a,pas (⟨none,op,ty,ps,af,gd⟩ :: os) (v::vl) a=pas os vl a)∧(∀ a,pas [] [] a=a) ∧
  (∀ (l:List Value) (i:Nat) (v:Value),l.toArray.setIfInBounds i v=(l.set i v).toArray)∧(∀ (x v:Value) (l:List Value) (i:Nat),(x::l).set (i+1) v=x::l.set i v)∧(∀ (x v:Value) (l:List Value),(x::l).set 0 v=v::l) ∧
  (∀ i k m F0 F1 b,Nb.ptr ⟨i,k,m,F0,F1,none⟩ b=.pointer (some ⟨b,0,none⟩))∧(∀ i k m F0 F1 l b,Nb.ptr ⟨i,k,m,F0,F1,some (.sl l)⟩ b=.slice (some ⟨b,0,none⟩) l l)∧(∀ i k m F0 F1 f b,Nb.ptr ⟨i,k,m,F0,F1,some (.clo f)⟩ b=cloV f b):=
 ⟨fun _ _ _ _=>rfl,rfl,fun _=>rfl,fun _ _ _=>rfl,fun _ _ _ _ _=>rfl,fun _ _ _ _ _ _ _=>rfl,rfl,fun _ _ _ _ _ _ _ _ _ _=>rfl,fun _ _ _ _ _ _ _ _ _=>rfl,fun _=>rfl,fun _ _ _=>by simp,fun _ _ _ _=>rfl,fun _ _ _=>rfl,fun _ _ _ _ _ _=>rfl,fun _ _ _ _ _ _ _=>rfl,fun _ _ _ _ _ _ _=>rfl⟩
section
variable {os : List Oper} {Q : Exit → Act → World → Prop} {a : Act} {p : Pq} {B B0 : Nat} {w0 : World}
variable {i s : Nat} {d : Option Tmp} {ty : TypeId} {ps : String} {af : Array Edge} {gd : Option (Nat × Bool)}
def ix:List Oper→Nat→Nat
 | [],_=>0
 | x::os,s=>match x.dst with
  | some d=>bif d.beq s then 0 else ix os s+1
  | none=>ix os s+1
theorem zi {F:Value→World→Prop} (ha:zAy (os.map (·.dst))=true:=by exact rfl) (hj:(os.map (·.dst))[ix os s]?=some (some s):=by exact rfl) (hs:s<a.tmps.size:=by simp) (hdep:depA af (ix os s)=true:=by exact rfl) (hF:∀ v w,(p.c (ix os s)).P v w→F v w:=by exact fun v w h=>h):SrcQ os a p B B0 w0 af (.tmp s) F:=zA9 _ ha hj hs hdep hF
theorem zw {u:Value} (ho:(os.map (·.dst)).contains (some s)=false:=by exact rfl) (hx:a.eval (.tmp s)=u:=by exact rfl):SrcQ os a p B B0 w0 af (.tmp s) fun v _=>v=u:=zAp ho hx fun _ _=>rfl
theorem zk (c:Value):SrcQ os a p B B0 w0 af (.const c) fun v _=>v=c:=zAk fun _=>rfl
theorem zt {o:Oper} {x y:Operand} {u v r:Value} (hp:p.Ok B B0) (hx:SrcQ os a p B B0 w0 o.after x fun t _=>t=u) (hy:SrcQ os a p B B0 w0 o.after y fun t _=>t=v) (hg:GdQ os a p B B0 w0 o.after o.guard:=by exact tv) (hC:∀ w,(p.c i).P r w:=by exact fun _=>rfl)
  (hr:∀ (ρ:Operand→Value) (w:World),(∀ c,ρ (.const c)=c)→ρ x=u→ρ y=v→(execOp ρ o).run Tryz.prog w=.ok (.value r) w:=by intro ρ w hc h h';simp [execOp,go_sem,h,h']) (hF:p.Free i:=by exact zBn rfl):zAf os Q a p B B0 w0 i o:=zAs hp hF hg hx hy fun ρ w hc h h'=>⟨r,hr ρ w hc h h',hC w⟩
theorem zT {o:Oper} {x y:Operand} {u v r:Value} {T:Prop} (hp:p.Ok B B0) (hx:SrcQ os a p B B0 w0 o.after x fun t _=>t=u) (hy:SrcQ os a p B B0 w0 o.after y fun t _=>t=v) (hT:T) (hg:GdQ os a p B B0 w0 o.after o.guard:=by exact tv) (hC:∀ w,(p.c i).P r w:=by exact fun _=>rfl)
  (hr:∀ (ρ:Operand→Value) (w:World),(∀ c,ρ (.const c)=c)→ρ x=u→ρ y=v→T→(execOp ρ o).run Tryz.prog w=.ok (.value r) w:=by intro ρ w hc h h' hT;simp [execOp,go_sem,h,h',hT]) (hF:p.Free i:=by exact zBn rfl):zAf os Q a p B B0 w0 i o:=zAs hp hF hg hx hy fun ρ w hc h h'=>⟨r,hr ρ w hc h h' hT,hC w⟩
theorem zo {o:Oper} {x:Operand} {u r:Value} (hp:p.Ok B B0) (hx:SrcQ os a p B B0 w0 o.after x fun t _=>t=u) (hg:GdQ os a p B B0 w0 o.after o.guard:=by first | exact tv | exact gqi) (hC:∀ w,(p.c i).P r w:=by exact fun _=>rfl)
  (hr:∀ (ρ:Operand→Value) (w:World),(∀ c,ρ (.const c)=c)→ρ x=u→(execOp ρ o).run Tryz.prog w=.ok (.value r) w:=by intro ρ w hc h;simp [execOp,go_sem,h,hc]) (hF:p.Free i:=by exact zBn rfl):zAf os Q a p B B0 w0 i o:=zAu hp hF hg hx fun ρ w hc h=>⟨r,hr ρ w hc h,hC w⟩
theorem zO {o:Oper} {x:Operand} {u r:Value} {T:Prop} (hp:p.Ok B B0) (hx:SrcQ os a p B B0 w0 o.after x fun t _=>t=u) (hT:T) (hg:GdQ os a p B B0 w0 o.after o.guard:=by first | exact tv | exact gqi) (hC:∀ w,(p.c i).P r w:=by exact fun _=>rfl)
  (hr:∀ (ρ:Operand→Value) (w:World),(∀ c,ρ (.const c)=c)→ρ x=u→T→(execOp ρ o).run Tryz.prog w=.ok (.value r) w:=by intro ρ w hc h hT;simp [execOp,go_sem,h,hc,hT]) (hF:p.Free i:=by exact zBn rfl):zAf os Q a p B B0 w0 i o:=zAu hp hF hg hx fun ρ w hc h=>⟨r,hr ρ w hc h hT,hC w⟩
theorem zg (b off off':Nat) {T k:Nat} {x:Operand} (hp:p.Ok B B0) (hx:SrcQ os a p B B0 w0 af x fun u _=>u=.pointer (some ⟨b,off,none⟩)) (hg:GdQ os a p B B0 w0 af gd:=by exact gqi) (hF:p.Free i:=by exact zBn rfl)
  (hr:∀ (ρ:Operand→Value) (w:World),ρ x=.pointer (some ⟨b,off,none⟩)→(execOp ρ { dst:=d,op:=.fieldAddr T x k,type:=ty,pos:=ps,after:=af,guard:=gd }).run Tryz.prog w=.ok (.value (.pointer (some ⟨b,off',none⟩))) w:=by intro ρ w h;simp [execOp,go_sem,h])
  (hC:∀ w,(p.c i).P (.pointer (some ⟨b,off',none⟩)) w:=by exact fun _=>rfl):zAf os Q a p B B0 w0 i { dst:=d,op:=.fieldAddr T x k,type:=ty,pos:=ps,after:=af,guard:=gd }:=q_addr hp hF hg hx hr hC
theorem zc {F:Fq} {x:Operand} {f:FuncId} {ts:Array TypeId} (hp:p.Ok B B0) (hen:∀ args w,(callFunc f args).run Tryz.prog w=.ok (.enter f args) w)
  (hx:SrcQ os a p B B0 w0 af x F.P) (hC:∀ v w,F.P v w→Calls Tryz.prog f #[v] w fun e w'=>∃ v',e=.returned v'∧Below w.heap.size w w'∧(p.c i).P v' w') (hg:GdQ os a p B B0 w0 af gd:=by first | exact tv | exact gqi) (hF:p.Free i:=by exact zBn rfl) :
  zAf os Q a p B B0 w0 i { dst:=d,op:=.call { callee:=.value (.func f),args:=#[x],argTypes:=ts },type:=ty,pos:=ps,after:=af,guard:=gd }:=zBp hp hF hg hen hx hC
theorem zC {F G:Fq} {x y:Operand} {f:FuncId} {ts:Array TypeId} (hp:p.Ok B B0) (hen:∀ args w,(callFunc f args).run Tryz.prog w=.ok (.enter f args) w)
  (hx:SrcQ os a p B B0 w0 af x F.P) (hy:SrcQ os a p B B0 w0 af y G.P) (hC:∀ v v' w,F.P v w→G.P v' w→Calls Tryz.prog f #[v,v'] w fun e w'=>∃ v',e=.returned v'∧Below w.heap.size w w'∧(p.c i).P v' w') (hg:GdQ os a p B B0 w0 af gd:=by first | exact tv | exact gqi) (hF:p.Free i:=by exact zBn rfl) :
  zAf os Q a p B B0 w0 i { dst:=d,op:=.call { callee:=.value (.func f),args:=#[x,y],argTypes:=ts },type:=ty,pos:=ps,after:=af,guard:=gd }:=zEt hp hF hg hen hx hy hC
theorem zS {P:Prop} (h:P:=by first
 | exact zAi (by assumption) (zBn rfl) tv zi
 | exact zFr (by assumption) (zBn rfl) rfl gqi (fun _=>rfl)
 | exact zCu (by assumption) (zBn rfl) tv zi
 | exact zHb (by assumption) (zBn rfl) tv zi fun _ _ _ _ h1 _ _=>⟨_,rfl,h1⟩
 | exact zHb (by assumption) (zBn rfl) tv zi fun _ _ _ _ _ h1 _=>⟨_,rfl,h1⟩
 | exact zHb (by assumption) (zBn rfl) tv zi fun _ _ _ _ _ _ h1=>⟨_,rfl,h1⟩
 | exact zFp (by assumption) (zBn rfl) tv zi fun _ _ _ h1 _=>⟨_,rfl,h1⟩
 | exact zFp (by assumption) (zBn rfl) tv zi fun _ _ _ _ h1=>⟨_,rfl,h1⟩
 | exact zAi (by assumption) (zBn rfl) gqi zi
 | exact zCu (by assumption) (zBn rfl) gqi zi
 | exact zCu (by assumption) (zBn rfl) tv (zAk fun _=>rfl)
 | exact zAi (by assumption) (zBn rfl) tv (zAp rfl rfl fun _ _=>rfl)):P:=h
end
abbrev f3 (a b c:Int):Fq:=Fq.st [.n a,.n b,.n c]
abbrev Rt (f:FuncId) (args:Array Value) (w:World) (P:Value→World→Prop):Prop:=Calls Tryz.prog f args w fun e w'=>∃ v',e=.returned v'∧Below w.heap.size w w'∧P v' w'
theorem o3 {v:Value} {w:World} {a b c:Int} (h:(Fq.st [.n a,.n b,.n c]).P v w):∃ p0 q0 p1 q1 p2 q2,v=.agg #[p0,q0,p1,q1,p2,q2]∧Fits w [.n a,.n b,.n c] [p0,q0,p1,q1,p2,q2]:=by
 obtain ⟨_,rfl,hf⟩:=h
 have hF:=hf
 obtain ⟨p0,q0,_,rfl,_,p1,q1,_,rfl,_,p2,q2,_,rfl,_,rfl⟩:=hf
 exact ⟨_,_,_,_,_,_,rfl,hF⟩
theorem zR {P:Program} {fn:Func} {G:Value→World→Prop} {a:Act} {w w':World} {v:Value} (hr:(results fn a.tmps).run P w'=.ok v w') (hb:Below w.heap.size w w') (hG:G v w') (hd:a.defers=[]:=by exact rfl):bodyPost P fn (fun e w'=>∃ v',e=.returned v'∧Below w.heap.size w w'∧G v' w') .ret a w':=bodyPost_ret hr hd ⟨_,rfl,hb,hG⟩
theorem c6 {P:Nat→Prop} (h:∀ j,j<6→P j):P 0∧P 1∧P 2∧P 3∧P 4∧P 5:=⟨h 0 zd,h 1 zd,h 2 zd,h 3 zd,h 4 zd,h 5 zd⟩
theorem gN (w:World) (t:TypeId) {n:Bool} {ao:Option Addr} {l c:Nat} {z:Int} (h:Num w (.agg #[.bool n,.slice ao l c]) z):∃ w' b,w'=w.alloc (.cells ([.bool n,.slice ao l c]:List Value).toArray t)∧b=w.heap.size∧w'.heap.size=w.heap.size+1∧Fr w [(b,([.bool n,.slice ao l c]:List Value).length,Fq.num z)] w':=zEb w (F:=Fq.num z) (us:=[.bool n,.slice ao l c]) t rfl (by simp) (zCk _ _ _ _) h
theorem J0 {α:Type} {x:α} {l:List α}:x∈x::l:=.head _
theorem J1 {α:Type} {a0 x:α} {l:List α}:x∈a0::x::l:=.tail _ (.head _)
theorem J2 {α:Type} {a0 a1 x:α} {l:List α}:x∈a0::a1::x::l:=.tail _ (.tail _ (.head _))
theorem J3 {α:Type} {a0 a1 a2 x:α} {l:List α}:x∈a0::a1::a2::x::l:=.tail _ (.tail _ (.tail _ (.head _)))
theorem J4 {α:Type} {a0 a1 a2 a3 x:α} {l:List α}:x∈a0::a1::a2::a3::x::l:=.tail _ (.tail _ (.tail _ (.tail _ (.head _))))
theorem J5 {α:Type} {a0 a1 a2 a3 a4 x:α} {l:List α}:x∈a0::a1::a2::a3::a4::x::l:=.tail _ (.tail _ (.tail _ (.tail _ (.tail _ (.head _)))))
theorem J6 {α:Type} {a0 a1 a2 a3 a4 a5 x:α} {l:List α}:x∈a0::a1::a2::a3::a4::a5::x::l:=.tail _ (.tail _ (.tail _ (.tail _ (.tail _ (.tail _ (.head _))))))
theorem J7 {α:Type} {a0 a1 a2 a3 a4 a5 a6 x:α} {l:List α}:x∈a0::a1::a2::a3::a4::a5::a6::x::l:=.tail _ (.tail _ (.tail _ (.tail _ (.tail _ (.tail _ (.tail _ (.head _)))))))
theorem J8 {α:Type} {a0 a1 a2 a3 a4 a5 a6 a7 x:α} {l:List α}:x∈a0::a1::a2::a3::a4::a5::a6::a7::x::l:=.tail _ (.tail _ (.tail _ (.tail _ (.tail _ (.tail _ (.tail _ (.tail _ (.head _))))))))
theorem J9 {α:Type} {a0 a1 a2 a3 a4 a5 a6 a7 a8 x:α} {l:List α}:x∈a0::a1::a2::a3::a4::a5::a6::a7::a8::x::l:=.tail _ (.tail _ (.tail _ (.tail _ (.tail _ (.tail _ (.tail _ (.tail _ (.tail _ (.head _)))))))))
theorem J10 {α:Type} {a0 a1 a2 a3 a4 a5 a6 a7 a8 a9 x:α} {l:List α}:x∈a0::a1::a2::a3::a4::a5::a6::a7::a8::a9::x::l:=.tail _ (.tail _ (.tail _ (.tail _ (.tail _ (.tail _ (.tail _ (.tail _ (.tail _ (.tail _ (.head _))))))))))
theorem J11 {α:Type} {a0 a1 a2 a3 a4 a5 a6 a7 a8 a9 a10 x:α} {l:List α}:x∈a0::a1::a2::a3::a4::a5::a6::a7::a8::a9::a10::x::l:=.tail _ (.tail _ (.tail _ (.tail _ (.tail _ (.tail _ (.tail _ (.tail _ (.tail _ (.tail _ (.tail _ (.head _)))))))))))
theorem J12 {α:Type} {a0 a1 a2 a3 a4 a5 a6 a7 a8 a9 a10 a11 x:α} {l:List α}:x∈a0::a1::a2::a3::a4::a5::a6::a7::a8::a9::a10::a11::x::l:=.tail _ (.tail _ (.tail _ (.tail _ (.tail _ (.tail _ (.tail _ (.tail _ (.tail _ (.tail _ (.tail _ (.tail _ (.head _))))))))))))
theorem J13 {α:Type} {a0 a1 a2 a3 a4 a5 a6 a7 a8 a9 a10 a11 a12 x:α} {l:List α}:x∈a0::a1::a2::a3::a4::a5::a6::a7::a8::a9::a10::a11::a12::x::l:=.tail _ (.tail _ (.tail _ (.tail _ (.tail _ (.tail _ (.tail _ (.tail _ (.tail _ (.tail _ (.tail _ (.tail _ (.tail _ (.head _)))))))))))))
theorem J14 {α:Type} {a0 a1 a2 a3 a4 a5 a6 a7 a8 a9 a10 a11 a12 a13 x:α} {l:List α}:x∈a0::a1::a2::a3::a4::a5::a6::a7::a8::a9::a10::a11::a12::a13::x::l:=.tail _ (.tail _ (.tail _ (.tail _ (.tail _ (.tail _ (.tail _ (.tail _ (.tail _ (.tail _ (.tail _ (.tail _ (.tail _ (.tail _ (.head _))))))))))))))
theorem J15 {α:Type} {a0 a1 a2 a3 a4 a5 a6 a7 a8 a9 a10 a11 a12 a13 a14 x:α} {l:List α}:x∈a0::a1::a2::a3::a4::a5::a6::a7::a8::a9::a10::a11::a12::a13::a14::x::l:=.tail _ (.tail _ (.tail _ (.tail _ (.tail _ (.tail _ (.tail _ (.tail _ (.tail _ (.tail _ (.tail _ (.tail _ (.tail _ (.tail _ (.tail _ (.head _)))))))))))))))
theorem J16 {α:Type} {a0 a1 a2 a3 a4 a5 a6 a7 a8 a9 a10 a11 a12 a13 a14 a15 x:α} {l:List α}:x∈a0::a1::a2::a3::a4::a5::a6::a7::a8::a9::a10::a11::a12::a13::a14::a15::x::l:=.tail _ (.tail _ (.tail _ (.tail _ (.tail _ (.tail _ (.tail _ (.tail _ (.tail _ (.tail _ (.tail _ (.tail _ (.tail _ (.tail _ (.tail _ (.tail _ (.head _))))))))))))))))
theorem J17 {α:Type} {a0 a1 a2 a3 a4 a5 a6 a7 a8 a9 a10 a11 a12 a13 a14 a15 a16 x:α} {l:List α}:x∈a0::a1::a2::a3::a4::a5::a6::a7::a8::a9::a10::a11::a12::a13::a14::a15::a16::x::l:=.tail _ (.tail _ (.tail _ (.tail _ (.tail _ (.tail _ (.tail _ (.tail _ (.tail _ (.tail _ (.tail _ (.tail _ (.tail _ (.tail _ (.tail _ (.tail _ (.tail _ (.head _)))))))))))))))))
theorem J18 {α:Type} {a0 a1 a2 a3 a4 a5 a6 a7 a8 a9 a10 a11 a12 a13 a14 a15 a16 a17 x:α} {l:List α}:x∈a0::a1::a2::a3::a4::a5::a6::a7::a8::a9::a10::a11::a12::a13::a14::a15::a16::a17::x::l:=.tail _ (.tail _ (.tail _ (.tail _ (.tail _ (.tail _ (.tail _ (.tail _ (.tail _ (.tail _ (.tail _ (.tail _ (.tail _ (.tail _ (.tail _ (.tail _ (.tail _ (.tail _ (.head _))))))))))))))))))
theorem J19 {α:Type} {a0 a1 a2 a3 a4 a5 a6 a7 a8 a9 a10 a11 a12 a13 a14 a15 a16 a17 a18 x:α} {l:List α}:x∈a0::a1::a2::a3::a4::a5::a6::a7::a8::a9::a10::a11::a12::a13::a14::a15::a16::a17::a18::x::l:=.tail _ (.tail _ (.tail _ (.tail _ (.tail _ (.tail _ (.tail _ (.tail _ (.tail _ (.tail _ (.tail _ (.tail _ (.tail _ (.tail _ (.tail _ (.tail _ (.tail _ (.tail _ (.tail _ (.head _)))))))))))))))))))

theorem zIm:zDa 36 2=true:=by kernel_rfl
theorem zAa:rowB 36 2=true:=by kernel_rfl
section
variable {os : List Oper} {Q : Exit → Act → World → Prop} {a : Act} {p : Pq} {B B0 : Nat} {w0 : World}
variable {i s : Nat} {d : Option Tmp} {ty : TypeId} {ps : String} {af : Array Edge} {gd : Option (Nat × Bool)}
end
inductive PE where
 | c (k:Int)
 | v (i:Nat)
 | a (x y:PE)
 | m (x y:PE)
 | n (x:PE)
def PE.den (ρ:List Int):PE→Int
 | .c k=>k
 | .v i=>ρ.getD i 0
 | .a x y=>x.den ρ+y.den ρ
 | .m x y=>x.den ρ*y.den ρ
 | .n x=>- x.den ρ
def insV (i:Nat):List Nat→List Nat
 | []=>[i]
 | j::r=>if i≤j then i::j::r else j::insV i r
def monD (ρ:List Int):List Nat→Int
 | []=>1
 | i::r=>ρ.getD i 0*monD ρ r
def polD (ρ:List Int):List (Int × List Nat)→Int
 | []=>0
 | t::r=>t.1*monD ρ t.2+polD ρ r
theorem zPy (ρ:List Int) (i:Nat):∀ l,monD ρ (insV i l)=ρ.getD i 0*monD ρ l
 | []=>rfl
 | j::r=>by
  unfold insV
  split
  ·rfl
  ·show _*monD ρ (insV i r)=_*(_*monD ρ r)
   rw [zPy ρ i r,Int.mul_left_comm]
def mulM:List Nat→List Nat→List Nat
 | [],l=>l
 | i::r,l=>insV i (mulM r l)
theorem zQl (ρ:List Int):∀ a b,monD ρ (mulM a b)=monD ρ a*monD ρ b
 | [],b=>by show monD ρ b=1*_;rw [Int.one_mul]
 | i::r,b=>by
  show monD ρ (insV i (mulM r b))=_*monD ρ r*_
  rw [zPy,zQl ρ r b,Int.mul_assoc]
def addT (k:Int) (mo:List Nat):List (Int × List Nat)→List (Int × List Nat)
 | []=>[(k,mo)]
 | t::p=>if t.2=mo then (k+t.1,mo)::p else t::addT k mo p
theorem zNz (ρ:List Int) (k:Int) (mo:List Nat):∀ p,polD ρ (addT k mo p)=k*monD ρ mo+polD ρ p
 | []=>rfl
 | t::p=>by
  unfold addT
  split
  ·rename_i h
   show (k+t.1)*monD ρ mo+polD ρ p=_+(t.1*monD ρ t.2+polD ρ p)
   rw [Int.add_mul,h]
   omega
  ·show t.1*monD ρ t.2+polD ρ (addT k mo p)=_+(t.1*monD ρ t.2+polD ρ p)
   rw [zNz ρ k mo p]
   omega
def addQ:List (Int × List Nat)→List (Int × List Nat)→List (Int × List Nat)
 | [],q=>q
 | t::p,q=>addT t.1 t.2 (addQ p q)
theorem zK0 (ρ:List Int):∀ p q,polD ρ (addQ p q)=polD ρ p+polD ρ q
 | [],q=>by show polD ρ q=0+_;omega
 | t::p,q=>by
  show polD ρ (addT t.1 t.2 (addQ p q))=t.1*monD ρ t.2+polD ρ p+polD ρ q
  rw [zNz,zK0 ρ p q]
  omega
def mulT (k:Int) (mo:List Nat):List (Int × List Nat)→List (Int × List Nat)
 | []=>[]
 | t::p=>(k*t.1,mulM mo t.2)::mulT k mo p
theorem zMe (ρ:List Int) (k:Int) (mo:List Nat):∀ p,polD ρ (mulT k mo p)=k*monD ρ mo*polD ρ p
 | []=>by show (0:Int)=_*0;omega
 | t::p=>by
  show k*t.1*monD ρ (mulM mo t.2)+polD ρ (mulT k mo p)=k*monD ρ mo*(t.1*monD ρ t.2+polD ρ p)
  rw [zQl,zMe ρ k mo p,Int.mul_add]
  congr 1
  simp only [Int.mul_assoc,Int.mul_left_comm]
def mulQ:List (Int × List Nat)→List (Int × List Nat)→List (Int × List Nat)
 | [],_=>[]
 | t::p,q=>addQ (mulT t.1 t.2 q) (mulQ p q)
theorem zQm (ρ:List Int):∀ p q,polD ρ (mulQ p q)=polD ρ p*polD ρ q
 | [],q=>by show (0:Int)=0*_;omega
 | t::p,q=>by
  show polD ρ (addQ (mulT t.1 t.2 q) (mulQ p q))=(t.1*monD ρ t.2+polD ρ p)*polD ρ q
  rw [zK0,zMe,zQm ρ p q,Int.add_mul]
def PE.norm:PE→List (Int × List Nat)
 | .c k=>[(k,[])]
 | .v i=>[(1,[i])]
 | .a x y=>addQ x.norm y.norm
 | .m x y=>mulQ x.norm y.norm
 | .n x=>mulT (-1) [] x.norm
theorem PE.norm_den (ρ:List Int):∀ e:PE,polD ρ e.norm=e.den ρ
 | .c k=>by show k*1+0=k;omega
 | .v i=>by show 1*(ρ.getD i 0*1)+0=ρ.getD i 0;omega
 | .a x y=>by show polD ρ (addQ _ _)=_+_;rw [zK0,PE.norm_den ρ x,PE.norm_den ρ y]
 | .m x y=>by show polD ρ (mulQ _ _)=_*_;rw [zQm,PE.norm_den ρ x,PE.norm_den ρ y]
 | .n x=>by show polD ρ (mulT _ _ _)=- _;rw [zMe,PE.norm_den ρ x];show -1*1*_=_;omega
theorem zQ4 (ρ:List Int):∀ p:List (Int × List Nat),p.all (fun t=>t.1 == 0)=true→polD ρ p=0
 | [],_=>rfl
 | t::p,h=>by
  simp only [List.all_cons,Bool.and_eq_true,beq_iff_eq] at h
  show t.1*_+polD ρ p=0
  rw [h.1,zQ4 ρ p h.2]
  omega
theorem PE.same (ρ:List Int) (x y:PE) (h:((PE.a x (.n y)).norm.all fun t=>t.1 == 0)=true):x.den ρ=y.den ρ:=by
 have h1:=zQ4 ρ _ h
 rw [PE.norm_den] at h1
 have h2:x.den ρ+- y.den ρ=0:=h1
 omega
theorem zAr {x:Int} (h0:-9223372036854775808≤x) (h1:x≤9223372036854775807):ab x<pw 3:=by
 have hp:pw 3=79228162514264337593543950336:=by decide
 rw [hp]
 unfold ab
 omega

theorem zM3 (a b c p q r s:Int):(2*(a*(p*q)+c*(r*s))+b*(p*s+q*r))*(2*(a*(p*q)+c*(r*s))+b*(p*s+q*r))-4*((a*(p*p)+b*(p*r)+c*(r*r))*(a*(q*q)+b*(q*s)+c*(s*s)))=(b*b-4*(a*c))*((p*s-q*r)*(p*s-q*r)):=by
 have h:=PE.same [a,b,c,p,q,r,s] (.a (.m (.a (.m (.c 2) (.a (.m (.v 0) (.m (.v 3) (.v 4))) (.m (.v 2) (.m (.v 5) (.v 6))))) (.m (.v 1) (.a (.m (.v 3) (.v 6)) (.m (.v 4) (.v 5))))) (.a (.m (.c 2) (.a (.m (.v 0) (.m (.v 3) (.v 4))) (.m (.v 2) (.m (.v 5) (.v 6))))) (.m (.v 1) (.a (.m (.v 3) (.v 6)) (.m (.v 4) (.v 5)))))) (.n (.m (.c 4) (.m (.a (.a (.m (.v 0) (.m (.v 3) (.v 3))) (.m (.v 1) (.m (.v 3) (.v 5)))) (.m (.v 2) (.m (.v 5) (.v 5)))) (.a (.a (.m (.v 0) (.m (.v 4) (.v 4))) (.m (.v 1) (.m (.v 4) (.v 6)))) (.m (.v 2) (.m (.v 6) (.v 6)))))))) (.m (.a (.m (.v 1) (.v 1)) (.n (.m (.c 4) (.m (.v 0) (.v 2))))) (.m (.a (.m (.v 3) (.v 6)) (.n (.m (.v 4) (.v 5)))) (.a (.m (.v 3) (.v 6)) (.n (.m (.v 4) (.v 5)))))) (by decide +kernel)
 simp only [PE.den,List.getD_cons_zero,List.getD_cons_succ] at h
 try simp only [Int.sub_eq_add_neg]
 exact h

theorem zRp (a b c p q r s:Int):(a*(p*p)+b*(p*r)+c*(r*r))*(s*s)+(2*(a*(p*q)+c*(r*s))+b*(p*s+q*r))*(s*(-r))+(a*(q*q)+b*(q*s)+c*(s*s))*((-r)*(-r))=a*((p*s-q*r)*(p*s-q*r)):=by
 have h:=PE.same [a,b,c,p,q,r,s] (.a (.a (.m (.a (.a (.m (.v 0) (.m (.v 3) (.v 3))) (.m (.v 1) (.m (.v 3) (.v 5)))) (.m (.v 2) (.m (.v 5) (.v 5)))) (.m (.v 6) (.v 6))) (.m (.a (.m (.c 2) (.a (.m (.v 0) (.m (.v 3) (.v 4))) (.m (.v 2) (.m (.v 5) (.v 6))))) (.m (.v 1) (.a (.m (.v 3) (.v 6)) (.m (.v 4) (.v 5))))) (.m (.v 6) (.n (.v 5))))) (.m (.a (.a (.m (.v 0) (.m (.v 4) (.v 4))) (.m (.v 1) (.m (.v 4) (.v 6)))) (.m (.v 2) (.m (.v 6) (.v 6)))) (.m (.n (.v 5)) (.n (.v 5))))) (.m (.v 0) (.m (.a (.m (.v 3) (.v 6)) (.n (.m (.v 4) (.v 5)))) (.a (.m (.v 3) (.v 6)) (.n (.m (.v 4) (.v 5)))))) (by decide +kernel)
 simp only [PE.den,List.getD_cons_zero,List.getD_cons_succ] at h
 try simp only [Int.sub_eq_add_neg]
 exact h

theorem qf_inv_b (a b c p q r s:Int):2*((a*(p*p)+b*(p*r)+c*(r*r))*(s*(-q))+(a*(q*q)+b*(q*s)+c*(s*s))*((-r)*p))+(2*(a*(p*q)+c*(r*s))+b*(p*s+q*r))*(s*p+(-q)*(-r))=b*((p*s-q*r)*(p*s-q*r)):=by
 have h:=PE.same [a,b,c,p,q,r,s] (.a (.m (.c 2) (.a (.m (.a (.a (.m (.v 0) (.m (.v 3) (.v 3))) (.m (.v 1) (.m (.v 3) (.v 5)))) (.m (.v 2) (.m (.v 5) (.v 5)))) (.m (.v 6) (.n (.v 4)))) (.m (.a (.a (.m (.v 0) (.m (.v 4) (.v 4))) (.m (.v 1) (.m (.v 4) (.v 6)))) (.m (.v 2) (.m (.v 6) (.v 6)))) (.m (.n (.v 5)) (.v 3))))) (.m (.a (.m (.c 2) (.a (.m (.v 0) (.m (.v 3) (.v 4))) (.m (.v 2) (.m (.v 5) (.v 6))))) (.m (.v 1) (.a (.m (.v 3) (.v 6)) (.m (.v 4) (.v 5))))) (.a (.m (.v 6) (.v 3)) (.m (.n (.v 4)) (.n (.v 5)))))) (.m (.v 1) (.m (.a (.m (.v 3) (.v 6)) (.n (.m (.v 4) (.v 5)))) (.a (.m (.v 3) (.v 6)) (.n (.m (.v 4) (.v 5)))))) (by decide +kernel)
 simp only [PE.den,List.getD_cons_zero,List.getD_cons_succ] at h
 try simp only [Int.sub_eq_add_neg]
 exact h

theorem qf_inv_c (a b c p q r s:Int):(a*(p*p)+b*(p*r)+c*(r*r))*((-q)*(-q))+(2*(a*(p*q)+c*(r*s))+b*(p*s+q*r))*((-q)*p)+(a*(q*q)+b*(q*s)+c*(s*s))*(p*p)=c*((p*s-q*r)*(p*s-q*r)):=by
 have h:=PE.same [a,b,c,p,q,r,s] (.a (.a (.m (.a (.a (.m (.v 0) (.m (.v 3) (.v 3))) (.m (.v 1) (.m (.v 3) (.v 5)))) (.m (.v 2) (.m (.v 5) (.v 5)))) (.m (.n (.v 4)) (.n (.v 4)))) (.m (.a (.m (.c 2) (.a (.m (.v 0) (.m (.v 3) (.v 4))) (.m (.v 2) (.m (.v 5) (.v 6))))) (.m (.v 1) (.a (.m (.v 3) (.v 6)) (.m (.v 4) (.v 5))))) (.m (.n (.v 4)) (.v 3)))) (.m (.a (.a (.m (.v 0) (.m (.v 4) (.v 4))) (.m (.v 1) (.m (.v 4) (.v 6)))) (.m (.v 2) (.m (.v 6) (.v 6)))) (.m (.v 3) (.v 3)))) (.m (.v 2) (.m (.a (.m (.v 3) (.v 6)) (.n (.m (.v 4) (.v 5)))) (.a (.m (.v 3) (.v 6)) (.n (.m (.v 4) (.v 5)))))) (by decide +kernel)
 simp only [PE.den,List.getD_cons_zero,List.getD_cons_succ] at h
 try simp only [Int.sub_eq_add_neg]
 exact h

theorem qf_mul_a (a b c p q r s t v:Int):(a*(p*p)+b*(p*r)+c*(r*r))*(t*t)+(2*(a*(p*q)+c*(r*s))+b*(p*s+q*r))*(t*v)+(a*(q*q)+b*(q*s)+c*(s*s))*(v*v)=a*((p*t+q*v)*(p*t+q*v))+b*((p*t+q*v)*(r*t+s*v))+c*((r*t+s*v)*(r*t+s*v)):=by
 have h:=PE.same [a,b,c,p,q,r,s,t,v] (.a (.a (.m (.a (.a (.m (.v 0) (.m (.v 3) (.v 3))) (.m (.v 1) (.m (.v 3) (.v 5)))) (.m (.v 2) (.m (.v 5) (.v 5)))) (.m (.v 7) (.v 7))) (.m (.a (.m (.c 2) (.a (.m (.v 0) (.m (.v 3) (.v 4))) (.m (.v 2) (.m (.v 5) (.v 6))))) (.m (.v 1) (.a (.m (.v 3) (.v 6)) (.m (.v 4) (.v 5))))) (.m (.v 7) (.v 8)))) (.m (.a (.a (.m (.v 0) (.m (.v 4) (.v 4))) (.m (.v 1) (.m (.v 4) (.v 6)))) (.m (.v 2) (.m (.v 6) (.v 6)))) (.m (.v 8) (.v 8)))) (.a (.a (.m (.v 0) (.m (.a (.m (.v 3) (.v 7)) (.m (.v 4) (.v 8))) (.a (.m (.v 3) (.v 7)) (.m (.v 4) (.v 8))))) (.m (.v 1) (.m (.a (.m (.v 3) (.v 7)) (.m (.v 4) (.v 8))) (.a (.m (.v 5) (.v 7)) (.m (.v 6) (.v 8)))))) (.m (.v 2) (.m (.a (.m (.v 5) (.v 7)) (.m (.v 6) (.v 8))) (.a (.m (.v 5) (.v 7)) (.m (.v 6) (.v 8)))))) (by decide +kernel)
 simp only [PE.den,List.getD_cons_zero,List.getD_cons_succ] at h
 try simp only [Int.sub_eq_add_neg]
 exact h

theorem qf_mul_b (a b c p q r s t u v w:Int):2*((a*(p*p)+b*(p*r)+c*(r*r))*(t*u)+(a*(q*q)+b*(q*s)+c*(s*s))*(v*w))+(2*(a*(p*q)+c*(r*s))+b*(p*s+q*r))*(t*w+u*v)=2*(a*((p*t+q*v)*(p*u+q*w))+c*((r*t+s*v)*(r*u+s*w)))+b*((p*t+q*v)*(r*u+s*w)+(p*u+q*w)*(r*t+s*v)):=by
 have h:=PE.same [a,b,c,p,q,r,s,t,u,v,w] (.a (.m (.c 2) (.a (.m (.a (.a (.m (.v 0) (.m (.v 3) (.v 3))) (.m (.v 1) (.m (.v 3) (.v 5)))) (.m (.v 2) (.m (.v 5) (.v 5)))) (.m (.v 7) (.v 8))) (.m (.a (.a (.m (.v 0) (.m (.v 4) (.v 4))) (.m (.v 1) (.m (.v 4) (.v 6)))) (.m (.v 2) (.m (.v 6) (.v 6)))) (.m (.v 9) (.v 10))))) (.m (.a (.m (.c 2) (.a (.m (.v 0) (.m (.v 3) (.v 4))) (.m (.v 2) (.m (.v 5) (.v 6))))) (.m (.v 1) (.a (.m (.v 3) (.v 6)) (.m (.v 4) (.v 5))))) (.a (.m (.v 7) (.v 10)) (.m (.v 8) (.v 9))))) (.a (.m (.c 2) (.a (.m (.v 0) (.m (.a (.m (.v 3) (.v 7)) (.m (.v 4) (.v 9))) (.a (.m (.v 3) (.v 8)) (.m (.v 4) (.v 10))))) (.m (.v 2) (.m (.a (.m (.v 5) (.v 7)) (.m (.v 6) (.v 9))) (.a (.m (.v 5) (.v 8)) (.m (.v 6) (.v 10))))))) (.m (.v 1) (.a (.m (.a (.m (.v 3) (.v 7)) (.m (.v 4) (.v 9))) (.a (.m (.v 5) (.v 8)) (.m (.v 6) (.v 10)))) (.m (.a (.m (.v 3) (.v 8)) (.m (.v 4) (.v 10))) (.a (.m (.v 5) (.v 7)) (.m (.v 6) (.v 9))))))) (by decide +kernel)
 simp only [PE.den,List.getD_cons_zero,List.getD_cons_succ] at h
 try simp only [Int.sub_eq_add_neg]
 exact h

theorem qf_mul_c (a b c p q r s u w:Int):(a*(p*p)+b*(p*r)+c*(r*r))*(u*u)+(2*(a*(p*q)+c*(r*s))+b*(p*s+q*r))*(u*w)+(a*(q*q)+b*(q*s)+c*(s*s))*(w*w)=a*((p*u+q*w)*(p*u+q*w))+b*((p*u+q*w)*(r*u+s*w))+c*((r*u+s*w)*(r*u+s*w)):=by
 have h:=PE.same [a,b,c,p,q,r,s,u,w] (.a (.a (.m (.a (.a (.m (.v 0) (.m (.v 3) (.v 3))) (.m (.v 1) (.m (.v 3) (.v 5)))) (.m (.v 2) (.m (.v 5) (.v 5)))) (.m (.v 7) (.v 7))) (.m (.a (.m (.c 2) (.a (.m (.v 0) (.m (.v 3) (.v 4))) (.m (.v 2) (.m (.v 5) (.v 6))))) (.m (.v 1) (.a (.m (.v 3) (.v 6)) (.m (.v 4) (.v 5))))) (.m (.v 7) (.v 8)))) (.m (.a (.a (.m (.v 0) (.m (.v 4) (.v 4))) (.m (.v 1) (.m (.v 4) (.v 6)))) (.m (.v 2) (.m (.v 6) (.v 6)))) (.m (.v 8) (.v 8)))) (.a (.a (.m (.v 0) (.m (.a (.m (.v 3) (.v 7)) (.m (.v 4) (.v 8))) (.a (.m (.v 3) (.v 7)) (.m (.v 4) (.v 8))))) (.m (.v 1) (.m (.a (.m (.v 3) (.v 7)) (.m (.v 4) (.v 8))) (.a (.m (.v 5) (.v 7)) (.m (.v 6) (.v 8)))))) (.m (.v 2) (.m (.a (.m (.v 5) (.v 7)) (.m (.v 6) (.v 8))) (.a (.m (.v 5) (.v 7)) (.m (.v 6) (.v 8)))))) (by decide +kernel)
 simp only [PE.den,List.getD_cons_zero,List.getD_cons_succ] at h
 try simp only [Int.sub_eq_add_neg]
 exact h

theorem qf_det (p q r s t u v w:Int):(p*t+q*v)*(r*u+s*w)-(p*u+q*w)*(r*t+s*v)=(p*s-q*r)*(t*w-u*v):=by
 have h:=PE.same [p,q,r,s,t,u,v,w] (.a (.m (.a (.m (.v 0) (.v 4)) (.m (.v 1) (.v 6))) (.a (.m (.v 2) (.v 5)) (.m (.v 3) (.v 7)))) (.n (.m (.a (.m (.v 0) (.v 5)) (.m (.v 1) (.v 7))) (.a (.m (.v 2) (.v 4)) (.m (.v 3) (.v 6)))))) (.m (.a (.m (.v 0) (.v 3)) (.n (.m (.v 1) (.v 2)))) (.a (.m (.v 4) (.v 7)) (.n (.m (.v 5) (.v 6))))) (by decide +kernel)
 simp only [PE.den,List.getD_cons_zero,List.getD_cons_succ] at h
 try simp only [Int.sub_eq_add_neg]
 exact h

theorem qf_four (a b c x y:Int):4*(a*(a*(x*x)+b*(x*y)+c*(y*y)))=(2*(a*x)+b*y)*(2*(a*x)+b*y)-(b*b-4*(a*c))*(y*y):=by
 have h:=PE.same [a,b,c,x,y] (.m (.c 4) (.m (.v 0) (.a (.a (.m (.v 0) (.m (.v 3) (.v 3))) (.m (.v 1) (.m (.v 3) (.v 4)))) (.m (.v 2) (.m (.v 4) (.v 4)))))) (.a (.m (.a (.m (.c 2) (.m (.v 0) (.v 3))) (.m (.v 1) (.v 4))) (.a (.m (.c 2) (.m (.v 0) (.v 3))) (.m (.v 1) (.v 4)))) (.n (.m (.a (.m (.v 1) (.v 1)) (.n (.m (.c 4) (.m (.v 0) (.v 2))))) (.m (.v 4) (.v 4))))) (by decide +kernel)
 simp only [PE.den,List.getD_cons_zero,List.getD_cons_succ] at h
 try simp only [Int.sub_eq_add_neg]
 exact h

theorem qf_four2 (a b c x y:Int):4*(c*(a*(x*x)+b*(x*y)+c*(y*y)))=(2*(c*y)+b*x)*(2*(c*y)+b*x)-(b*b-4*(a*c))*(x*x):=by
 have h:=PE.same [a,b,c,x,y] (.m (.c 4) (.m (.v 2) (.a (.a (.m (.v 0) (.m (.v 3) (.v 3))) (.m (.v 1) (.m (.v 3) (.v 4)))) (.m (.v 2) (.m (.v 4) (.v 4)))))) (.a (.m (.a (.m (.c 2) (.m (.v 2) (.v 4))) (.m (.v 1) (.v 3))) (.a (.m (.c 2) (.m (.v 2) (.v 4))) (.m (.v 1) (.v 3)))) (.n (.m (.a (.m (.v 1) (.v 1)) (.n (.m (.c 4) (.m (.v 0) (.v 2))))) (.m (.v 3) (.v 3))))) (by decide +kernel)
 simp only [PE.den,List.getD_cons_zero,List.getD_cons_succ] at h
 try simp only [Int.sub_eq_add_neg]
 exact h

def qv (a b c x y:Int):Int:=a*(x*x)+b*(x*y)+c*(y*y)
def qm (a b c p q r s:Int):Int:=2*(a*(p*q)+c*(r*s))+b*(p*s+q*r)
structure Rdf (a b c:Int):Prop where
 pos:0<a
 lo:-a<b
 hi:b≤a
 ac:a≤c
 eq:a=c→0≤b
theorem zWi {a b z:Int} (h1:-a≤b) (h2:b≤a):-(a*(z.natAbs:Int))≤b*z:=by
 rcases Int.le_total 0 z with hz | hz
 ·have e:(z.natAbs:Int)=z:=zm
  rw [e]
  have:=Int.mul_le_mul_of_nonneg_right h1 hz
  rw [Int.neg_mul] at this
  exact this
 ·have e:(z.natAbs:Int)=-z:=zm
  rw [e,Int.mul_neg,Int.neg_neg]
  exact Int.mul_le_mul_of_nonpos_right h2 hz
theorem zD2 (x:Int):(x.natAbs:Int)*(x.natAbs:Int)=x*x:=by
 rcases Int.le_total 0 x with h | h
 ·have e:(x.natAbs:Int)=x:=zm
  rw [e]
 ·have e:(x.natAbs:Int)=-x:=zm
  rw [e,Int.neg_mul_neg]
theorem zM4 {a b c x y:Int} (h1:-a≤b) (h2:b≤a) (h3:a≤c) (h0:0<a) (hy:y≠0):c≤qv a b c x y:=by
 have k1:=zWi (z:=x*y) h1 h2
 rw [Int.natAbs_mul,Int.natCast_mul] at k1
 have kx:=zD2 x
 have ky:=zD2 y
 unfold qv
 rw [← kx,← ky]
 obtain ⟨X,hX⟩:∃ X:Int,X=(x.natAbs:Int):=⟨_,rfl⟩
 obtain ⟨Y,hY⟩:∃ Y:Int,Y=(y.natAbs:Int):=⟨_,rfl⟩
 rw [← hX,← hY] at k1 ⊢
 have hX0:0≤X:=zm
 have hY1:1≤Y:=zm
 clear kx ky hX hY
 generalize b*(x*y)=t at k1 ⊢
 rcases Int.lt_or_le X Y with hl | hl
 ·-- X<Y
  have e1:a*(X*(Y-X))≤c*(X*(Y-X)):=Int.mul_le_mul_of_nonneg_right h3 (Int.mul_nonneg hX0 zm)
  have e2:c*1≤c*((Y-X)*Y+X*X):=by
   refine Int.mul_le_mul_of_nonneg_left ?_ zm
   have g1:1*1≤(Y-X)*Y:=Int.mul_le_mul zm hY1 zm zm
   have g2:0≤X*X:=Int.mul_nonneg hX0 hX0
   omega
  have e3:c*((Y-X)*Y+X*X)+c*(X*(Y-X))=c*(Y*Y):=by
   rw [← Int.mul_add]
   congr 1
   rw [Int.sub_mul,Int.mul_sub]
   omega
  have e4:a*(X*(Y-X))=a*(X*Y)-a*(X*X):=by rw [Int.mul_sub,Int.mul_sub]
  omega
 ·have e1:0≤a*(X*(X-Y)):=Int.mul_nonneg zm (Int.mul_nonneg hX0 zm)
  have e2:c*(1*1)≤c*(Y*Y):=Int.mul_le_mul_of_nonneg_left (Int.mul_le_mul hY1 hY1 zm zm) zm
  have e4:a*(X*(X-Y))=a*(X*X)-a*(X*Y):=by rw [Int.mul_sub,Int.mul_sub]
  omega
theorem zRq {a b c x y:Int} (h1:-a≤b) (h2:b≤a) (h3:a≤c) (h0:0<a) (hxy:¬ (x=0∧y=0)):a≤qv a b c x y:=by
 by_cases hy:y=0
 ·subst hy
  have hx:x≠0:=fun e=>hxy ⟨e,rfl⟩
  have k:=zD2 x
  unfold qv
  rw [Int.mul_zero,Int.mul_zero,Int.mul_zero,Int.mul_zero,← k]
  have e2:a*(1*1)≤a*((x.natAbs:Int)*(x.natAbs:Int)):=Int.mul_le_mul_of_nonneg_left (Int.mul_le_mul zm zm zm zm) zm
  omega
 ·exact Int.le_trans h3 (zM4 h1 h2 h3 h0 hy)
theorem zI9 {p q r s:Int} (hd:p*s-q*r=1):¬ (p=0∧r=0):=by
 rintro ⟨rfl,rfl⟩
 rw [Int.zero_mul,Int.mul_zero] at hd
 omega
theorem zWj {p s:Int} (h:p*s=1):(p=1∧s=1)∨(p=-1∧s=-1):=by
 have h1:p.natAbs*s.natAbs=1:=by rw [← Int.natAbs_mul,h];rfl
 have h2:=Nat.eq_one_of_mul_eq_one_right h1
 have h3:=Nat.eq_one_of_mul_eq_one_left h1
 rcases Int.natAbs_eq_iff.1 h2 with e | e <;> rcases Int.natAbs_eq_iff.1 h3 with g | g <;> subst e g
 ·exact .inl ⟨rfl,rfl⟩
 ·exact absurd h zd
 ·exact absurd h zd
 ·exact .inr ⟨rfl,rfl⟩
theorem zXg {a b c p q r s a' b' c':Int} (hf:Rdf a b c) (hg:Rdf a' b' c') (hd:p*s-q*r=1) (ea:a'=qv a b c p r) (eb:b'=qm a b c p q r s) (ec:c'=qv a b c q s):a'=a∧b'=b∧c'=c:=by
 have f1:-a≤b:=by have:=hf.lo;omega
 have g1:-a'≤b':=by have:=hg.lo;omega
 have ia:qv a' b' c' s (-r)=a:=by
  rw [ea,eb,ec]
  have:=zRp a b c p q r s
  rw [hd] at this
  simpa [qv,qm] using this
 have ha1:a≤a':=by rw [ea];exact zRq f1 hf.hi hf.ac hf.pos (zI9 hd)
 have ha2:a'≤a:=by
  have hn:¬ (s=0∧-r=0):=by
   rintro ⟨rfl,h2⟩
   have:r=0:=zm
   subst this
   rw [Int.mul_zero,Int.mul_zero] at hd
   omega
  have:=zRq g1 hg.hi hg.ac hg.pos hn
  omega
 have haa:a'=a:=zm
 have dg:b'*b'-4*(a'*c')=b*b-4*(a*c):=by
  have:=zM3 a b c p q r s
  rw [hd,Int.one_mul,Int.mul_one] at this
  rw [ea,eb,ec]
  exact this
 by_cases hr:r=0
 ·subst hr
  rw [Int.mul_zero,Int.sub_zero] at hd
  have hb:b'=b+2*(a*(p*q)):=by
   rw [eb]
   unfold qm
   rw [Int.zero_mul,Int.mul_zero,Int.mul_zero,hd]
   omega
  have hq:q=0:=by
   have hlo:=hf.lo;have hhi:=hf.hi;have hlo':=hg.lo;have hhi':=hg.hi;have hp:=hf.pos
   rcases zWj hd with ⟨rfl,_⟩ | ⟨rfl,_⟩
   ·rw [Int.one_mul] at hb
    rcases Int.lt_trichotomy q 0 with h | h | h
    ·have:=Int.mul_le_mul_of_nonneg_left (show q≤-1 by omega) (show 0≤a by omega);omega
    ·exact h
    ·have:=Int.mul_le_mul_of_nonneg_left (show 1≤q by omega) (show 0≤a by omega);omega
   ·rw [Int.neg_mul,Int.one_mul,Int.mul_neg] at hb
    rcases Int.lt_trichotomy q 0 with h | h | h
    ·have:=Int.mul_le_mul_of_nonneg_left (show q≤-1 by omega) (show 0≤a by omega);omega
    ·exact h
    ·have:=Int.mul_le_mul_of_nonneg_left (show 1≤q by omega) (show 0≤a by omega);omega
  subst hq
  rw [Int.mul_zero,Int.mul_zero,Int.mul_zero,Int.add_zero] at hb
  refine ⟨haa,hb,?_⟩
  rw [haa,hb] at dg
  have h4:a*c'=a*c:=zm
  exact Int.eq_of_mul_eq_mul_left (by have:=hf.pos;omega) h4
 ·have hc1:c≤a:=by
   have:=zM4 (x:=p) f1 hf.hi hf.ac hf.pos hr
   rw [← ea] at this
   omega
  have hc2:c'≤a:=by
   have:=zM4 (x:=s) (y:=-r) g1 hg.hi hg.ac hg.pos zm
   omega
  have h1:=hf.ac
  have h2:=hg.ac
  have hca:c=a:=zm
  have hca':c'=a:=zm
  have hb0:=hf.eq hca.symm
  have hb0':=hg.eq zm
  rw [haa,hca,hca'] at dg
  have hbb:b'*b'=b*b:=zm
  have hb:b'=b:=by
   rcases Int.lt_trichotomy b' b with h | h | h
   ·have k1:=Int.mul_le_mul_of_nonneg_left (show b'≤b by omega) hb0';have k2:=Int.mul_lt_mul_of_pos_right h (show 0<b by omega);omega
   ·exact h
   ·have k1:=Int.mul_le_mul_of_nonneg_left (show b≤b' by omega) hb0;have k2:=Int.mul_lt_mul_of_pos_right h (show 0<b' by omega);omega
  exact ⟨haa,hb,zm⟩
structure Und (a b c p q r s a' b' c':Int):Prop where
 d:p*s-q*r=1
 ea:a'=qv a b c p r
 eb:b'=qm a b c p q r s
 ec:c'=qv a b c q s
theorem Und.one (a b c:Int):Und a b c 1 0 0 1 a b c:=by
 refine ⟨zd,?_,?_,?_⟩ <;> simp [qv,qm]
theorem Und.mul {a b c p q r s a' b' c' t u v w a'' b'' c'':Int} (h:Und a b c p q r s a' b' c') (g:Und a' b' c' t u v w a'' b'' c''):Und a b c (p*t+q*v) (p*u+q*w) (r*t+s*v) (r*u+s*w) a'' b'' c'':=by
 refine ⟨?_,?_,?_,?_⟩
 ·have:=qf_det p q r s t u v w
  rw [h.d,g.d] at this
  exact this
 ·rw [g.ea,h.ea,h.eb,h.ec];exact qf_mul_a a b c p q r s t v
 ·rw [g.eb,h.ea,h.eb,h.ec];exact qf_mul_b a b c p q r s t u v w
 ·rw [g.ec,h.ea,h.eb,h.ec];exact qf_mul_c a b c p q r s u w
theorem Und.disc {a b c p q r s a' b' c':Int} (h:Und a b c p q r s a' b' c'):b'*b'-4*(a'*c')=b*b-4*(a*c):=by
 have:=zM3 a b c p q r s
 rw [h.d,Int.one_mul,Int.mul_one] at this
 rw [h.ea,h.eb,h.ec]
 exact this
theorem Und.back {a b c p q r s a' b' c':Int} (h:Und a b c p q r s a' b' c'):Und a' b' c' s (-q) (-r) p a b c:=by
 have d2:=h.d
 refine ⟨?_,?_,?_,?_⟩
 ·rw [Int.neg_mul_neg,Int.mul_comm s p];exact d2
 ·have:=zRp a b c p q r s
  rw [d2] at this
  rw [h.ea,h.eb,h.ec]
  simpa [qv,qm] using this.symm
 ·have:=qf_inv_b a b c p q r s
  rw [d2] at this
  rw [h.ea,h.eb,h.ec]
  simpa [qv,qm] using this.symm
 ·have:=qf_inv_c a b c p q r s
  rw [d2] at this
  rw [h.ea,h.eb,h.ec]
  simpa [qv,qm] using this.symm
theorem Und.uniq {a b c p q r s a' b' c':Int} (h:Und a b c p q r s a' b' c') (hf:Rdf a b c) (hg:Rdf a' b' c'):a'=a∧b'=b∧c'=c:=zXg hf hg h.d h.ea h.eb h.ec
theorem Und.same {a b c p q r s a1 b1 c1 t u v w a2 b2 c2:Int} (h:Und a b c p q r s a1 b1 c1) (g:Und a b c t u v w a2 b2 c2) (h1:Rdf a1 b1 c1) (h2:Rdf a2 b2 c2):a2=a1∧b2=b1∧c2=c1:=(h.back.mul g).uniq h1 h2
theorem Und.shift (a b c k:Int):Und a b c 1 k 0 1 a (b+2*(a*k)) (a*(k*k)+b*k+c):=by
 refine ⟨by simp,?_,?_,?_⟩ <;> simp [qv,qm]
 omega
theorem Und.swap (a b c:Int):Und a b c 0 (-1) 1 0 c (-b) a:=by
 refine ⟨zd,?_,?_,?_⟩ <;> simp [qv,qm]
def redB (a b c:Int):Bool:=decide (((b.natAbs:Int)≤a∧a≤c)∧(((b.natAbs:Int)=a∨a=c)→0≤b))
theorem zEx {a b c:Int} (h0:0<a):redB a b c=true ↔ Rdf a b c:=by
 simp only [redB,decide_eq_true_eq]
 constructor
 ·rintro ⟨⟨h1,h2⟩,h3⟩
  refine ⟨h0,?_,zm,h2,fun e=>h3 (.inr e)⟩
  by_cases hb:0≤b
  ·omega
  ·have:¬ (b.natAbs:Int)=a:=fun e=>hb (h3 (.inl e))
   omega
 ·intro h
  have:=h.lo;have:=h.hi
  refine ⟨⟨zm,h.ac⟩,?_⟩
  rintro (e | e)
  ·omega
  ·exact h.eq e
theorem zR9 {a b:Int} (h0:0<a):-a<b+2*(a*((a-b)/(2*a)))∧b+2*(a*((a-b)/(2*a)))≤a:=by
 have h1:=Int.mul_ediv_add_emod (a-b) (2*a)
 have h2:=Int.emod_nonneg (a-b) (show 2*a≠0 by omega)
 have h3:=Int.emod_lt_of_pos (a-b) (show 0<2*a by omega)
 rw [Int.mul_assoc] at h1
 omega
theorem zNo {a b c:Int} (h0:0<a) (h1:-a<b) (h2:b≤a) (hr:¬ Rdf a b c):c<a∨(c=a∧b<0∧Rdf c (-b) a):=by
 by_cases hc:c<a
 ·exact .inl hc
 ·right
  by_cases he:a=c
  ·by_cases hb:0≤b
   ·exact absurd ⟨h0,h1,h2,zm,fun _=>hb⟩ hr
   ·exact ⟨he.symm,zm,zm,zm,zm,zm,fun _=>zm⟩
  ·exact absurd ⟨h0,h1,h2,zm,fun e=>absurd e he⟩ hr
theorem zJ0 {a b c:Int} (h0:0<a) (hd:b*b-4*(a*c)<0):0<c:=by
 have hb:0≤b*b:=by rw [← zD2 b];exact Int.mul_nonneg zm zm
 rcases Int.lt_or_le 0 c with h | h
 ·exact h
 ·have:=Int.mul_nonneg_of_nonpos_of_nonpos (show -a≤0 by omega) h
  rw [Int.neg_mul] at this
  omega
theorem zE1 (x:Int):0≤x*x:=by rw [← zD2 x];exact Int.mul_nonneg zm zm
theorem four_y {a b c x y:Int} (hd:b*b-4*(a*c)<0):y*y≤4*(a*qv a b c x y):=by
 unfold qv
 rw [qf_four]
 have h1:=zE1 (2*(a*x)+b*y)
 have h2:=Int.mul_le_mul_of_nonneg_right (show 1≤-(b*b-4*(a*c)) by omega) (zE1 y)
 rw [Int.one_mul,Int.neg_mul] at h2
 omega
theorem four_x {a b c x y:Int} (hd:b*b-4*(a*c)<0):x*x≤4*(c*qv a b c x y):=by
 unfold qv
 rw [qf_four2]
 have h1:=zE1 (2*(c*y)+b*x)
 have h2:=Int.mul_le_mul_of_nonneg_right (show 1≤-(b*b-4*(a*c)) by omega) (zE1 x)
 rw [Int.one_mul,Int.neg_mul] at h2
 omega
theorem Und.bds {a b c p q r s a' b' c':Int} (h:Und a b c p q r s a' b' c') (hd:b*b-4*(a*c)<0):p*p≤4*(c*a')∧q*q≤4*(c*c')∧r*r≤4*(a*a')∧s*s≤4*(a*c'):=by
 rw [h.ea,h.ec]
 exact ⟨four_x hd,four_x hd,four_y hd,four_y hd⟩
theorem qv_pos {a b c x y:Int} (h0:0<a) (hd:b*b-4*(a*c)<0) (hn:¬ (x=0∧y=0)):0<qv a b c x y:=by
 have hy:=four_y (x:=x) (y:=y) hd
 have hx:=four_x (x:=x) (y:=y) hd
 have hc:=zJ0 h0 hd
 rcases Int.lt_or_le 0 (qv a b c x y) with h | h
 ·exact h
 ·exfalso
  have e1:=Int.mul_nonneg_of_nonpos_of_nonpos (show -a≤0 by omega) h
  have e2:=Int.mul_nonneg_of_nonpos_of_nonpos (show -c≤0 by omega) h
  rw [Int.neg_mul] at e1 e2
  have sx:=zE1 x
  have sy:=zE1 y
  refine hn ⟨?_,?_⟩
  ·exact (Int.mul_eq_zero.1 (show x*x=0 by omega)).elim id id
  ·exact (Int.mul_eq_zero.1 (show y*y=0 by omega)).elim id id
theorem Und.pos {a b c p q r s a' b' c':Int} (h:Und a b c p q r s a' b' c') (h0:0<a) (hd:b*b-4*(a*c)<0):0<a':=by
 rw [h.ea]
 exact qv_pos h0 hd (zI9 h.d)
theorem last_le {a b c:Int} (h0:0<a) (h1:-a≤b) (h2:b≤a) (hd:b*b-4*(a*c)<0):c≤a*a-(b*b-4*(a*c)):=by
 have hb:b*b≤a*a:=by
  rw [← zD2 b]
  exact Int.mul_le_mul zm zm zm zm
 have hc:=zJ0 h0 hd
 have h3:=Int.mul_le_mul_of_nonneg_right (show 1≤a by omega) (show 0≤c by omega)
 omega

section
variable {w : World} {v : Value} {n : Bool} {a : Option Addr} {k c : Nat} {xs : List Int} {m : Bool} {r : Option Addr} {l q : Nat} {ys : List Int}

end

theorem zJg:En 100:=zAd Tryz.func100 (by kernel_rfl) rfl
theorem zOj:En 25:=zAd Tryz.func25 (by kernel_rfl) rfl
theorem zGu:En 50:=zAd Tryz.func50 (by kernel_rfl) rfl
theorem zOk:En 92:=zAd Tryz.func92 (by kernel_rfl) rfl
theorem zLe:En 94:=zAd Tryz.func94 (by kernel_rfl) rfl
theorem zOm:En 98:=zAd Tryz.func98 (by kernel_rfl) rfl
theorem zTl:En 46:=zAd Tryz.func46 (by kernel_rfl) rfl
theorem zOl:En 77:=zAd Tryz.func77 (by kernel_rfl) rfl
theorem zTo:En 10:=zAd Tryz.func10 (by kernel_rfl) rfl
theorem zTq:En 31:=zAd Tryz.func31 (by kernel_rfl) rfl
theorem zTp:En 39:=zAd Tryz.func39 (by kernel_rfl) rfl
theorem zGv:En 45:=zAd Tryz.func45 (by kernel_rfl) rfl
theorem zLd:En 76:=zAd Tryz.func76 (by kernel_rfl) rfl
theorem zJh:En 126:=zAd Tryz.func126 (by kernel_rfl) rfl
theorem zF7:En 97:=zAd Tryz.func97 (by kernel_rfl) rfl
theorem zTm:En 128:=zAd Tryz.func128 (by kernel_rfl) rfl
theorem zD8:En 130:=zAd Tryz.func130 (by kernel_rfl) rfl
theorem zTn:En 44:=zAd Tryz.func44 (by kernel_rfl) rfl
theorem zAc:rowB 38 6=true:=by kernel_rfl
theorem zAn:zDa 38 6=true:=by kernel_rfl
theorem zAt (w:World):Fits w [.n 0,.n 0,.n 0] [.bool false,.slice none 0 0,.bool false,.slice none 0 0,.bool false,.slice none 0 0]:=⟨_,_,_,rfl,Num.zero w,_,_,_,rfl,Num.zero w,_,_,_,rfl,Num.zero w,rfl⟩
theorem zV8 (w:World):(f3 0 0 0).P (.agg ([.bool false,.slice none 0 0,.bool false,.slice none 0 0,.bool false,.slice none 0 0]:List Value).toArray) w:=⟨_,rfl,zAt w⟩
theorem zB1 {d:Option Tmp} {ty:TypeId} {ps:String} {af:Array Edge} (ρ:Operand→Value) (w:World):(execOp ρ { dst:=d,op:=.alloc 38,type:=ty,pos:=ps,after:=af,guard:=none }).run Tryz.prog w=.ok (.value (.pointer (some ⟨w.heap.size,0,none⟩))) (w.alloc (.cells [.bool false,.slice none 0 0,.bool false,.slice none 0 0,.bool false,.slice none 0 0].toArray 38)):=by
 simp [execOp,go_sem]
theorem zEz:rowB 67 8=true:=by kernel_rfl
theorem zEh:zDa 67 8=true:=by kernel_rfl
theorem zEo (w:World):Fits w [.n 0,.n 0,.n 0,.n 0] [.bool false,.slice none 0 0,.bool false,.slice none 0 0,.bool false,.slice none 0 0,.bool false,.slice none 0 0]:=⟨_,_,_,rfl,Num.zero w,_,_,_,rfl,Num.zero w,_,_,_,rfl,Num.zero w,_,_,_,rfl,Num.zero w,rfl⟩
theorem zPp (w:World):(Fq.st [.n 0,.n 0,.n 0,.n 0]).P (.agg ([.bool false,.slice none 0 0,.bool false,.slice none 0 0,.bool false,.slice none 0 0,.bool false,.slice none 0 0]:List Value).toArray) w:=⟨_,rfl,zEo w⟩
theorem zM7 {d:Option Tmp} {ty:TypeId} {ps:String} {af:Array Edge} (ρ:Operand→Value) (w:World):(execOp ρ { dst:=d,op:=.alloc 67,type:=ty,pos:=ps,after:=af,guard:=none }).run Tryz.prog w=.ok (.value (.pointer (some ⟨w.heap.size,0,none⟩))) (w.alloc (.cells [.bool false,.slice none 0 0,.bool false,.slice none 0 0,.bool false,.slice none 0 0,.bool false,.slice none 0 0].toArray 67)):=by
 simp [execOp,go_sem]
def eqF (a b c x y z:Int):Bool:=decide (a=x) && (decide (b=y) && decide (c=z))
def cont (a b c:Int):Int:=(Int.gcd (Int.gcd a b:Int) c:Int)
section
variable {os : List Oper} {Q : Exit → Act → World → Prop} {a : Act} {p : Pq} {B B0 : Nat} {w0 : World}
variable {i s : Nat} {d : Option Tmp} {ty : TypeId} {ps : String} {af : Array Edge} {gd : Option (Nat × Bool)}
theorem zFo {x0:Operand} {z0:Int} {x1:Operand} {z1:Int} {x2:Operand} {z2:Int} (hp:p.Ok B B0) (hF:p.Free i) (hg:GdQ os a p B B0 w0 af gd) (h0:SrcQ os a p B B0 w0 af x0 fun v w=>Num w v z0) (h1:SrcQ os a p B B0 w0 af x1 fun v w=>Num w v z1) (h2:SrcQ os a p B B0 w0 af x2 fun v w=>Num w v z2) (hC:∀ v w,(f3 z0 z1 z2).P v w→(p.c i).P v w) :
  zAf os Q a p B B0 w0 i { dst:=d,op:=.build 38 #[(0,x0),(1,x1),(2,x2)],type:=ty,pos:=ps,after:=af,guard:=gd }:=by
 refine zBf hp hF hg fun L vs w hG hL hc hd=>?_
 have g0:=h0 L vs w hG hd
 obtain ⟨n0,ao0,k0,c0,e0⟩:=g0.parts
 have m0:Num w (.agg #[.bool n0,.slice ao0 k0 c0]) z0:=by rw [← e0];exact g0
 have g1:=h1 L vs w hG hd
 obtain ⟨n1,ao1,k1,c1,e1⟩:=g1.parts
 have m1:Num w (.agg #[.bool n1,.slice ao1 k1 c1]) z1:=by rw [← e1];exact g1
 have g2:=h2 L vs w hG hd
 obtain ⟨n2,ao2,k2,c2,e2⟩:=g2.parts
 have m2:Num w (.agg #[.bool n2,.slice ao2 k2 c2]) z2:=by rw [← e2];exact g2
 refine ⟨.agg #[.bool n0,.slice ao0 k0 c0,.bool n1,.slice ao1 k1 c1,.bool n2,.slice ao2 k2 c2],?_,hC _ _ ⟨_,rfl,_,_,_,rfl,m0,_,_,_,rfl,m1,_,_,_,rfl,m2,rfl⟩⟩
 generalize (lay os.toArray L vs os.toArray.size a).eval=ρ at e0 e1 e2
 simp [execOp,go_sem,e0,e1,e2]
theorem zM0 {x0:Operand} {z0:Int} {x1:Operand} {z1:Int} {x2:Operand} {z2:Int} {x3:Operand} {z3:Int} (hp:p.Ok B B0) (hF:p.Free i) (hg:GdQ os a p B B0 w0 af gd) (h0:SrcQ os a p B B0 w0 af x0 fun v w=>Num w v z0) (h1:SrcQ os a p B B0 w0 af x1 fun v w=>Num w v z1) (h2:SrcQ os a p B B0 w0 af x2 fun v w=>Num w v z2) (h3:SrcQ os a p B B0 w0 af x3 fun v w=>Num w v z3) (hC:∀ v w,(Fq.st [.n z0,.n z1,.n z2,.n z3]).P v w→(p.c i).P v w) :
  zAf os Q a p B B0 w0 i { dst:=d,op:=.build 67 #[(0,x0),(1,x1),(2,x2),(3,x3)],type:=ty,pos:=ps,after:=af,guard:=gd }:=by
 refine zBf hp hF hg fun L vs w hG hL hc hd=>?_
 have g0:=h0 L vs w hG hd
 obtain ⟨n0,ao0,k0,c0,e0⟩:=g0.parts
 have m0:Num w (.agg #[.bool n0,.slice ao0 k0 c0]) z0:=by rw [← e0];exact g0
 have g1:=h1 L vs w hG hd
 obtain ⟨n1,ao1,k1,c1,e1⟩:=g1.parts
 have m1:Num w (.agg #[.bool n1,.slice ao1 k1 c1]) z1:=by rw [← e1];exact g1
 have g2:=h2 L vs w hG hd
 obtain ⟨n2,ao2,k2,c2,e2⟩:=g2.parts
 have m2:Num w (.agg #[.bool n2,.slice ao2 k2 c2]) z2:=by rw [← e2];exact g2
 have g3:=h3 L vs w hG hd
 obtain ⟨n3,ao3,k3,c3,e3⟩:=g3.parts
 have m3:Num w (.agg #[.bool n3,.slice ao3 k3 c3]) z3:=by rw [← e3];exact g3
 refine ⟨.agg #[.bool n0,.slice ao0 k0 c0,.bool n1,.slice ao1 k1 c1,.bool n2,.slice ao2 k2 c2,.bool n3,.slice ao3 k3 c3],?_,hC _ _ ⟨_,rfl,_,_,_,rfl,m0,_,_,_,rfl,m1,_,_,_,rfl,m2,_,_,_,rfl,m3,rfl⟩⟩
 generalize (lay os.toArray L vs os.toArray.size a).eval=ρ at e0 e1 e2 e3
 simp [execOp,go_sem,e0,e1,e2,e3]
end
theorem zGc {w:World} {v v' u u':Value} {a b c d:Int} (h:Num w v a) (h':Num w v' b) (g:Num w u c) (g':Num w u' d) (ha:ab a<pw 200) (hb:ab b<pw 200) (hc:ab c<pw 200) (hd:ab d<pw 200) :
  Rt 97 #[v,v',u,u'] w fun v' w'=>Num w' v' ((a*b)+(c*d)):=by
 replace ha:=hidd ha
 replace hb:=hidd hb
 replace hc:=hidd hc
 replace hd:=hidd hd
 obtain ⟨n0,ao0,k0,c0,rfl⟩:=h.parts
 obtain ⟨n1,ao1,k1,c1,rfl⟩:=h'.parts
 obtain ⟨n2,ao2,k2,c2,rfl⟩:=g.parts
 obtain ⟨n3,ao3,k3,c3,rfl⟩:=g'.parts
 obtain ⟨w1,b1,hw1,hb1,hs1,E⟩:=gN w 36 h
 obtain ⟨w2,b2,hw2,hb2,hs2,E⟩:=fN E hs1 36 h'
 obtain ⟨w3,b3,hw3,hb3,hs3,E⟩:=zDm E hs2 (F:=Fq.num c) (us:=[.bool n2,.slice ao2 k2 c2]) 36 rfl (by simp) (zCk _ _ _ _) (g.mono E.below)
 obtain ⟨w4,b4,hw4,hb4,hs4,E⟩:=zDm E hs3 (F:=Fq.num d) (us:=[.bool n3,.slice ao3 k3 c3]) 36 rfl (by simp) (zCk _ _ _ _) (g'.mono E.below)
 obtain ⟨w5,b5,hw5,hb5,hs5,E⟩:=fZ E hs4 36
 go_enter Tryz.func97,Tryz.ntmps97
 go_upto_region 1 with (fail)
 rw [← hw1,← hw2]
 rw [← hw3,← hw4]
 rw [← hw5,← hb5]
 rw [← hb4,← hb3]
 rw [← hb2,← hb1]
 clear hw1 hw2 hw3 hw4 hw5 hb1 hb2 hb3 hb4 hb5 hs5 hs1 hs2 hs3 hs4
 have B6:Hid (ab ((a*b))<pw 400):=zAl ha.out hb.out zm
 have B7:Hid (ab ((c*d))<pw 400):=zAl hc.out hd.out zm
 have B8:Hid (ab (((a*b)+(c*d)))<pw 401):=zBd B6.out B7.out zm zm
 refine rz [.n a,.n b,.n (a*b),.n c,.n d,.n (c*d),.n ((a*b)+(c*d)),.a] [some (7,Fq.num ((a*b)+(c*d))),none,none,none,none] [] E (fun hp=>⟨lI 0 hp J4 zw,lI 0 hp J3 zw,zC hp zDk zi zi fun v v' w h h'=>exK (zDc h h') B6.out zm,lI 0 hp J2 zw,lI 0 hp J1 zw,zC hp zDk zi zi fun v v' w h h'=>exK (zDc h h') B7.out zm,zC hp zJe zi zi fun v v' w h h'=>exK (zFg h h') B8.out zm,sP 6 hp J0 zw,tv⟩) ?_
 intro w9 E _ _
 simp only [rzE] at E ⊢
 obtain ⟨p0_0,p0_1,c0_0,c0_1,hP0⟩:=zCg (E.box 0 rfl)
 clear B6 B7 B8 ha hb hc hd
 go_wp2
 exact zR (v:=.agg #[p0_0,p0_1]) (by simp [results,Tryz.results97,go_sem,c0_0,c0_1]) E.below hP0

theorem exQDisc0 {w:World} {v:Value} {a b c:Int} (h:(f3 a b c).P v w) (ha:ab a<pw 60) (hb:ab b<pw 60) (hc:ab c<pw 60) :
  Rt 50 #[v] w fun v' w'=>Num w' v' (((b*b)+(((-4)*a)*c))):=by
 replace ha:=hidd ha
 replace hb:=hidd hb
 replace hc:=hidd hc
 obtain ⟨y0_p0,y0_q0,y0_p1,y0_q1,y0_p2,y0_q2,rfl,hF0⟩:=o3 h
 obtain ⟨w1,b1,hw1,hb1,hs1,E⟩:=gS w 38 hF0
 obtain ⟨w2,b2,hw2,hb2,hs2,E⟩:=fZ E hs1 36
 go_enter Tryz.func50,Tryz.ntmps50
 go_upto_region 1 with (fail)
 rw [← hw1,← hw2]
 rw [← hb2,← hb1]
 clear hw1 hw2 hb1 hb2 hs2 hs1
 have B3:Hid (ab ((-4))<pw 3):=zB5 zd
 have B4:Hid (ab (((-4)*a))<pw 63):=zAl B3.out ha.out zm
 have B5:Hid (ab ((b*b))<pw 120):=zAl hb.out hb.out zm
 have B6:Hid (ab ((((-4)*a)*c))<pw 123):=zAl B4.out hc.out zm
 have B7:Hid (ab (((b*b)+(((-4)*a)*c)))<pw 124):=zBd B5.out B6.out zm zm
 refine rz [.p b1 2,.n b,.p b1 2,.n b,.n (-4),.p b1 0,.n a,.n ((-4)*a),.p b1 4,.n c,.n ((b*b)+(((-4)*a)*c)),.a] [some (11,Fq.num ((b*b)+(((-4)*a)*c))),none] [] E (fun hp=>⟨qa b1 0 2 hp zw,lN 2 2 hp J1 zAa zi,qa b1 0 2 hp zw,lN 2 2 hp J1 zAa zi,zBp (F:=(Fq.is (.int .i64 (-4))).P) hp fo tv (zDl) (zAk (fun _=>rfl)) (fun v w h=>(by subst h;exact rOfK w (-4) zm zm)),qa b1 0 0 hp zw,lN 0 2 hp J1 zAa zi,zC hp zDk zi zi fun v v' w h h'=>exK (zDc h h') B4.out zm,qa b1 0 4 hp zw,lN 4 2 hp J1 zAa zi,zD1 (F:=(Fq.num b).P) (G:=(Fq.num b).P) (F3:=(Fq.num ((-4)*a)).P) (F4:=(Fq.num c).P) hp fo tv (zF7) (sqi 1) (sqi 3) (sqi 7) (sqi 9) (fun v v' u u' w h h' g g'=>zGc h h' g g' (zu hb.out) (zu hb.out) (zu B4.out) (zu hc.out)),sP 10 hp J0 zw,tv⟩) ?_
 intro w8 E _ _
 simp only [rzE] at E ⊢
 obtain ⟨p0_0,p0_1,c0_0,c0_1,hP0⟩:=zCg (E.box 0 rfl)
 clear B3 B4 B5 B6 B7 ha hb hc
 go_wp2
 exact zR (v:=.agg #[p0_0,p0_1]) (by simp [results,Tryz.results50,go_sem,c0_0,c0_1]) E.below hP0

theorem zG1 {w:World} {v:Value} {a b c:Int} (h:(f3 a b c).P v w) (ha:ab a<pw 60) (hb:ab b<pw 60) (hc:ab c<pw 60) :
  Rt 50 #[v] w fun v' w'=>Num w' v' (b*b-4*(a*c)):=by
 have e:b*b-4*(a*c)=((b*b)+(((-4)*a)*c)):=by rw [Int.mul_assoc,Int.neg_mul];omega
 rw [e]
 exact exQDisc0 h ha hb hc

theorem exQValue0 {w:World} {v v' u:Value} {a b c x y:Int} (h:(f3 a b c).P v w) (h':Num w v' x) (g:Num w u y) (ha:ab a<pw 60) (hb:ab b<pw 60) (hc:ab c<pw 60) (hx:ab x<pw 60) (hy:ab y<pw 60) :
  Rt 98 #[v,v',u] w fun v' w'=>Num w' v' (((x*((a*x)+(b*y)))+(c*(y*y)))):=by
 replace ha:=hidd ha
 replace hb:=hidd hb
 replace hc:=hidd hc
 replace hx:=hidd hx
 replace hy:=hidd hy
 obtain ⟨y0_p0,y0_q0,y0_p1,y0_q1,y0_p2,y0_q2,rfl,hF0⟩:=o3 h
 obtain ⟨n1,ao1,k1,c1,rfl⟩:=h'.parts
 obtain ⟨n2,ao2,k2,c2,rfl⟩:=g.parts
 obtain ⟨w1,b1,hw1,hb1,hs1,E⟩:=gS w 38 hF0
 obtain ⟨w2,b2,hw2,hb2,hs2,E⟩:=fN E hs1 36 h'
 obtain ⟨w3,b3,hw3,hb3,hs3,E⟩:=zDm E hs2 (F:=Fq.num y) (us:=[.bool n2,.slice ao2 k2 c2]) 36 rfl (by simp) (zCk _ _ _ _) (g.mono E.below)
 obtain ⟨w4,b4,hw4,hb4,hs4,E⟩:=fZ E hs3 36
 go_enter Tryz.func98,Tryz.ntmps98
 go_upto_region 1 with (fail)
 rw [← hw1,← hw2]
 rw [← hw3,← hw4]
 rw [← hb4,← hb3]
 rw [← hb2,← hb1]
 clear hw1 hw2 hw3 hw4 hb1 hb2 hb3 hb4 hs4 hs1 hs2 hs3
 have B5:Hid (ab ((a*x))<pw 120):=zAl ha.out hx.out zm
 have B6:Hid (ab ((b*y))<pw 120):=zAl hb.out hy.out zm
 have B7:Hid (ab (((a*x)+(b*y)))<pw 121):=zBd B5.out B6.out zm zm
 have B8:Hid (ab ((x*((a*x)+(b*y))))<pw 181):=zAl hx.out B7.out zm
 have B9:Hid (ab ((y*y))<pw 120):=zAl hy.out hy.out zm
 have B10:Hid (ab ((c*(y*y)))<pw 180):=zAl hc.out B9.out zm
 have B11:Hid (ab (((x*((a*x)+(b*y)))+(c*(y*y))))<pw 182):=zBd B8.out B10.out zm zm
 refine rz [.n x,.p b1 0,.n a,.n x,.p b1 2,.n b,.n y,.n ((a*x)+(b*y)),.n (x*((a*x)+(b*y))),.p b1 4,.n c,.n y,.n y,.n (y*y),.n (c*(y*y)),.n ((x*((a*x)+(b*y)))+(c*(y*y))),.a] [some (16,Fq.num ((x*((a*x)+(b*y)))+(c*(y*y)))),none,none,none] [] E (fun hp=>⟨lI 0 hp J2 zw,qa b1 0 0 hp zw,lN 0 2 hp J3 zAa zi,lI 0 hp J2 zw,qa b1 0 2 hp zw,lN 2 2 hp J3 zAa zi,lI 0 hp J1 zw,zD1 (F:=(Fq.num a).P) (G:=(Fq.num x).P) (F3:=(Fq.num b).P) (F4:=(Fq.num y).P) hp fo tv (zF7) (sqi 2) (sqi 3) (sqi 5) (sqi 6) (fun v v' u u' w h h' g g'=>zGc h h' g g' (zu ha.out) (zu hx.out) (zu hb.out) (zu hy.out)),zC hp zDk zi zi fun v v' w h h'=>exK (zDc h h') B8.out zm,qa b1 0 4 hp zw,lN 4 2 hp J3 zAa zi,lI 0 hp J1 zw,lI 0 hp J1 zw,zC hp zDk zi zi fun v v' w h h'=>exK (zDc h h') B9.out zm,zC hp zDk zi zi fun v v' w h h'=>exK (zDc h h') B10.out zm,zC hp zJe zi zi fun v v' w h h'=>exK (zFg h h') B11.out zm,sP 15 hp J0 zw,tv⟩) ?_
 intro w12 E _ _
 simp only [rzE] at E ⊢
 obtain ⟨p0_0,p0_1,c0_0,c0_1,hP0⟩:=zCg (E.box 0 rfl)
 clear B5 B6 B7 B8 B9 B10 B11 ha hb hc hx hy
 go_wp2
 exact zR (v:=.agg #[p0_0,p0_1]) (by simp [results,Tryz.results98,go_sem,c0_0,c0_1]) E.below hP0

theorem qv_eq (a b c x y:Int):qv a b c x y=((x*((a*x)+(b*y)))+(c*(y*y))):=by
 unfold qv
 have e1:x*((a*x)+(b*y))=a*(x*x)+b*(x*y):=by rw [Int.mul_add,Int.mul_left_comm,Int.mul_left_comm x b]
 rw [e1]
theorem zPo {w:World} {v v' u:Value} {a b c x y:Int} (h:(f3 a b c).P v w) (h':Num w v' x) (g:Num w u y) (ha:ab a<pw 60) (hb:ab b<pw 60) (hc:ab c<pw 60) (hx:ab x<pw 60) (hy:ab y<pw 60) :
  Rt 98 #[v,v',u] w fun v' w'=>Num w' v' (qv a b c x y):=by
 rw [qv_eq]
 exact exQValue0 h h' g ha hb hc hx hy

theorem exQApply0 {w:World} {v v':Value} {a b c x1 x2 x3 x4:Int} (h:(f3 a b c).P v w) (h':(Fq.st [.n x1,.n x2,.n x3,.n x4]).P v' w) (ha:ab a<pw 60) (hb:ab b<pw 60) (hc:ab c<pw 60) (hx1:ab x1<pw 60) (hx2:ab x2<pw 60) (hx3:ab x3<pw 60) (hx4:ab x4<pw 60) :
  Rt 46 #[v,v'] w fun v' w'=>(Fq.st [.n (qv a b c x1 x3),.n ((((2)*(a*(x1*x2)))+((b*((x1*x4)+(x2*x3)))+((2)*(c*(x3*x4)))))),.n (qv a b c x2 x4)]).P v' w':=by
 replace ha:=hidd ha
 replace hb:=hidd hb
 replace hc:=hidd hc
 replace hx1:=hidd hx1
 replace hx2:=hidd hx2
 replace hx3:=hidd hx3
 replace hx4:=hidd hx4
 obtain ⟨y0_p0,y0_q0,y0_p1,y0_q1,y0_p2,y0_q2,rfl,hF0⟩:=o3 h
 obtain ⟨_,rfl,hf1⟩:=h'
 have hF1:=hf1
 obtain ⟨y1_p0,y1_q0,_,rfl,_y1_n0,y1_p1,y1_q1,_,rfl,_y1_n1,y1_p2,y1_q2,_,rfl,_y1_n2,y1_p3,y1_q3,_,rfl,_y1_n3,rfl⟩:=hf1
 obtain ⟨w1,b1,hw1,hb1,hs1,E⟩:=gS w 38 hF0
 obtain ⟨w2,b2,hw2,hb2,hs2,E⟩:=fS E hs1 67 hF1
 obtain ⟨w3,b3,hw3,hb3,hs3,E⟩:=fO E hs2 38 zAt
 go_enter Tryz.func46,Tryz.ntmps46
 go_upto_region 1 with (fail)
 rw [← hw1,← hw2]
 rw [← hw3,← hb3]
 rw [← hb2,← hb1]
 clear hw1 hw2 hw3 hb1 hb2 hb3 hs3 hs1 hs2
 have B4:Hid (ab ((2))<pw 3):=zB5 zd
 refine rz [.n (2),.k,.a] N3 [⟨1,2,2,Fq.num 0,Fq.num (2),none⟩] E (fun hp=>⟨zBp (F:=(Fq.is (.int .i64 2)).P) hp fo tv (zDl) (zAk (fun _=>rfl)) (fun v w h=>(by subst h;exact rOfK w (2) zm zm)),aN hp J0,sN 0 hp J0,tv⟩) ?_
 intro w5 b5_1 E _ _
 simp only [rzE] at E ⊢
 go_upto_region 2 with (fail)
 have B6:Hid (ab ((x1*x2))<pw 120):=zAl hx1.out hx2.out zm
 have B7:Hid (ab ((a*(x1*x2)))<pw 180):=zAl ha.out B6.out zm
 have B8:Hid (ab (((2)*(a*(x1*x2))))<pw 183):=zAl B4.out B7.out zm
 have B9:Hid (ab ((x1*x4))<pw 120):=zAl hx1.out hx4.out zm
 have B10:Hid (ab ((x2*x3))<pw 120):=zAl hx2.out hx3.out zm
 have B11:Hid (ab (((x1*x4)+(x2*x3)))<pw 121):=zBd B9.out B10.out zm zm
 have B12:Hid (ab ((b*((x1*x4)+(x2*x3))))<pw 181):=zAl hb.out B11.out zm
 have B13:Hid (ab ((x3*x4))<pw 120):=zAl hx3.out hx4.out zm
 have B14:Hid (ab ((c*(x3*x4)))<pw 180):=zAl hc.out B13.out zm
 have B15:Hid (ab (((2)*(c*(x3*x4))))<pw 183):=zAl B4.out B14.out zm
 have B16:Hid (ab (((b*((x1*x4)+(x2*x3)))+((2)*(c*(x3*x4)))))<pw 184):=zBd B12.out B15.out zm zm
 have B17:Hid (ab ((((2)*(a*(x1*x2)))+((b*((x1*x4)+(x2*x3)))+((2)*(c*(x3*x4))))))<pw 185):=zBd B8.out B16.out zm zm
 refine rz [.n (2),.p b1 0,.n a,.p b2 0,.n x1,.p b2 2,.n x2,.n (x1*x2),.n (a*(x1*x2)),.n ((2)*(a*(x1*x2))),.p b1 2,.n b,.p b2 0,.n x1,.p b2 6,.n x4,.p b2 2,.n x2,.p b2 4,.n x3,.n ((x1*x4)+(x2*x3)),.n (b*((x1*x4)+(x2*x3))),.n (2),.p b1 4,.n c,.p b2 4,.n x3,.p b2 6,.n x4,.n (x3*x4),.n (c*(x3*x4)),.n ((2)*(c*(x3*x4))),.n ((b*((x1*x4)+(x2*x3)))+((2)*(c*(x3*x4)))),.n (((2)*(a*(x1*x2)))+((b*((x1*x4)+(x2*x3)))+((2)*(c*(x3*x4))))),.k,.a] N4 [⟨34,35,2,Fq.num 0,Fq.num (((2)*(a*(x1*x2)))+((b*((x1*x4)+(x2*x3)))+((2)*(c*(x3*x4))))),none⟩] E (fun hp=>⟨lI 0 hp J0 zw,qa b1 0 0 hp zw,lN 0 2 hp J3 zAa zi,qa b2 0 0 hp zw,lN 0 2 hp J2 zAa zi,qa b2 0 2 hp zw,lN 2 2 hp J2 zAa zi,zC hp zDk zi zi fun v v' w h h'=>exK (zDc h h') B6.out zm,zC hp zDk zi zi fun v v' w h h'=>exK (zDc h h') B7.out zm,zC hp zDk zi zi fun v v' w h h'=>exK (zDc h h') B8.out zm,qa b1 0 2 hp zw,lN 2 2 hp J3 zAa zi,qa b2 0 0 hp zw,lN 0 2 hp J2 zAa zi,qa b2 0 6 hp zw,lN 6 2 hp J2 zAa zi,qa b2 0 2 hp zw,lN 2 2 hp J2 zAa zi,qa b2 0 4 hp zw,lN 4 2 hp J2 zAa zi,zD1 (F:=(Fq.num x1).P) (G:=(Fq.num x4).P) (F3:=(Fq.num x2).P) (F4:=(Fq.num x3).P) hp fo tv (zF7) (sqi 13) (sqi 15) (sqi 17) (sqi 19) (fun v v' u u' w h h' g g'=>zGc h h' g g' (zu hx1.out) (zu hx4.out) (zu hx2.out) (zu hx3.out)),zC hp zDk zi zi fun v v' w h h'=>exK (zDc h h') B12.out zm,lI 0 hp J0 zw,qa b1 0 4 hp zw,lN 4 2 hp J3 zAa zi,qa b2 0 4 hp zw,lN 4 2 hp J2 zAa zi,qa b2 0 6 hp zw,lN 6 2 hp J2 zAa zi,zC hp zDk zi zi fun v v' w h h'=>exK (zDc h h') B13.out zm,zC hp zDk zi zi fun v v' w h h'=>exK (zDc h h') B14.out zm,zC hp zDk zi zi fun v v' w h h'=>exK (zDc h h') B15.out zm,zC hp zJe zi zi fun v v' w h h'=>exK (zFg h h') B16.out zm,zC hp zJe zi zi fun v v' w h h'=>exK (zFg h h') B17.out zm,aN hp J0,sN 33 hp J0,tv⟩) ?_
 intro w18 b18_34 E _ _
 simp only [rzE] at E ⊢
 go_upto_region 3 with (fail)
 refine rz [.w (f3 a b c),.p b2 0,.n x1,.p b2 4,.n x3,.n (qv a b c x1 x3),.n (((2)*(a*(x1*x2)))+((b*((x1*x4)+(x2*x3)))+((2)*(c*(x3*x4))))),.w (f3 a b c),.p b2 2,.n x2,.p b2 6,.n x4,.n (qv a b c x2 x4),.w (Fq.st [.n (qv a b c x1 x3),.n (((2)*(a*(x1*x2)))+((b*((x1*x4)+(x2*x3)))+((2)*(c*(x3*x4))))),.n (qv a b c x2 x4)]),.a] [none,none,some (14,Fq.st [.n (qv a b c x1 x3),.n (((2)*(a*(x1*x2)))+((b*((x1*x4)+(x2*x3)))+((2)*(c*(x3*x4))))),.n (qv a b c x2 x4)]),none,none] [] E (fun hp=>⟨lS 0 6 hp J4 zAc zw,qa b2 0 0 hp zw,lN 0 2 hp J3 zAa zi,qa b2 0 4 hp zw,lN 4 2 hp J3 zAa zi,zEu (F:=(f3 a b c).P) (G:=(Fq.num x1).P) (F3:=(Fq.num x3).P) hp fo tv (zOm) (sqi 0) (sqi 2) (sqi 4) (fun v v' u w h h' g=>zPo h h' g ha.out hb.out hc.out hx1.out hx3.out),lI 0 hp J0 zw,lS 0 6 hp J4 zAc zw,qa b2 0 2 hp zw,lN 2 2 hp J3 zAa zi,qa b2 0 6 hp zw,lN 6 2 hp J3 zAa zi,zEu (F:=(f3 a b c).P) (G:=(Fq.num x2).P) (F3:=(Fq.num x4).P) hp fo tv (zOm) (sqi 7) (sqi 9) (sqi 11) (fun v v' u w h h' g=>zPo h h' g ha.out hb.out hc.out hx2.out hx4.out),zFo (z0:=(qv a b c x1 x3)) (z1:=(((2)*(a*(x1*x2)))+((b*((x1*x4)+(x2*x3)))+((2)*(c*(x3*x4)))))) (z2:=(qv a b c x2 x4)) hp fo tv (sqi 5) (sqi 6) (sqi 12) (fun v w h=>h),sO 0 13 hp J2 zAn zw,tv⟩) ?_
 intro w19 E _ _
 simp only [rzE] at E ⊢
 obtain ⟨_,_,hc0,hf0⟩:=zAv (E.box 2 rfl)
 have hP0:=hf0
 obtain ⟨r0_p0,r0_q0,_,rfl,_r0_n0,r0_p1,r0_q1,_,rfl,_r0_n1,r0_p2,r0_q2,_,rfl,_r0_n2,rfl⟩:=hf0
 have c0_z:=c6 hc0
 simp only [List.getD_cons_zero,List.getD_cons_succ] at c0_z
 clear hc0
 clear B4 B6 B7 B8 B9 B10 B11 B12 B13 B14 B15 B16 B17 ha hb hc hx1 hx2 hx3 hx4
 go_wp2
 exact zR (v:=.agg #[r0_p0,r0_q0,r0_p1,r0_q1,r0_p2,r0_q2]) (by simp [results,Tryz.results46,go_sem,c0_z]) E.below ⟨_,rfl,hP0⟩

theorem exQApply {w:World} {v v':Value} {a b c x1 x2 x3 x4:Int} (h:(f3 a b c).P v w) (h':(Fq.st [.n x1,.n x2,.n x3,.n x4]).P v' w) (ha:ab a<pw 60) (hb:ab b<pw 60) (hc:ab c<pw 60) (hx1:ab x1<pw 60) (hx2:ab x2<pw 60) (hx3:ab x3<pw 60) (hx4:ab x4<pw 60) :
  Rt 46 #[v,v'] w fun v' w'=>(f3 (qv a b c x1 x3) (qm a b c x1 x2 x3 x4) (qv a b c x2 x4)).P v' w':=by
 have e:qm a b c x1 x2 x3 x4=(((2)*(a*(x1*x2)))+((b*((x1*x4)+(x2*x3)))+((2)*(c*(x3*x4))))):=by
  unfold qm
  rw [Int.mul_add]
  omega
 rw [e]
 exact exQApply0 h h' ha hb hc hx1 hx2 hx3 hx4

theorem zPn {w:World} {v v':Value} {x1 x2 x3 x4 y1 y2 y3 y4:Int} (h:(Fq.st [.n x1,.n x2,.n x3,.n x4]).P v w) (h':(Fq.st [.n y1,.n y2,.n y3,.n y4]).P v' w) (hx1:ab x1<pw 60) (hx2:ab x2<pw 60) (hx3:ab x3<pw 60) (hx4:ab x4<pw 60) (hy1:ab y1<pw 60) (hy2:ab y2<pw 60) (hy3:ab y3<pw 60) (hy4:ab y4<pw 60) :
  Rt 77 #[v,v'] w fun v' w'=>(Fq.st [.n ((x1*y1)+(x2*y3)),.n ((x1*y2)+(x2*y4)),.n ((x3*y1)+(x4*y3)),.n ((x3*y2)+(x4*y4))]).P v' w':=by
 replace hx1:=hidd hx1
 replace hx2:=hidd hx2
 replace hx3:=hidd hx3
 replace hx4:=hidd hx4
 replace hy1:=hidd hy1
 replace hy2:=hidd hy2
 replace hy3:=hidd hy3
 replace hy4:=hidd hy4
 obtain ⟨_,rfl,hf0⟩:=h
 have hF0:=hf0
 obtain ⟨y0_p0,y0_q0,_,rfl,_y0_n0,y0_p1,y0_q1,_,rfl,_y0_n1,y0_p2,y0_q2,_,rfl,_y0_n2,y0_p3,y0_q3,_,rfl,_y0_n3,rfl⟩:=hf0
 obtain ⟨_,rfl,hf1⟩:=h'
 have hF1:=hf1
 obtain ⟨y1_p0,y1_q0,_,rfl,_y1_n0,y1_p1,y1_q1,_,rfl,_y1_n1,y1_p2,y1_q2,_,rfl,_y1_n2,y1_p3,y1_q3,_,rfl,_y1_n3,rfl⟩:=hf1
 obtain ⟨w1,b1,hw1,hb1,hs1,E⟩:=gS w 67 hF0
 obtain ⟨w2,b2,hw2,hb2,hs2,E⟩:=fS E hs1 67 hF1
 obtain ⟨w3,b3,hw3,hb3,hs3,E⟩:=fO E hs2 67 zEo
 go_enter Tryz.func77,Tryz.ntmps77
 go_upto_region 1 with (fail)
 rw [← hw1,← hw2]
 rw [← hw3,← hb3]
 rw [← hb2,← hb1]
 clear hw1 hw2 hw3 hb1 hb2 hb3 hs3 hs1 hs2
 have B4:Hid (ab ((x1*y1))<pw 120):=zAl hx1.out hy1.out zm
 have B5:Hid (ab ((x2*y3))<pw 120):=zAl hx2.out hy3.out zm
 have B6:Hid (ab (((x1*y1)+(x2*y3)))<pw 121):=zBd B4.out B5.out zm zm
 have B7:Hid (ab ((x1*y2))<pw 120):=zAl hx1.out hy2.out zm
 have B8:Hid (ab ((x2*y4))<pw 120):=zAl hx2.out hy4.out zm
 have B9:Hid (ab (((x1*y2)+(x2*y4)))<pw 121):=zBd B7.out B8.out zm zm
 have B10:Hid (ab ((x3*y1))<pw 120):=zAl hx3.out hy1.out zm
 have B11:Hid (ab ((x4*y3))<pw 120):=zAl hx4.out hy3.out zm
 have B12:Hid (ab (((x3*y1)+(x4*y3)))<pw 121):=zBd B10.out B11.out zm zm
 have B13:Hid (ab ((x3*y2))<pw 120):=zAl hx3.out hy2.out zm
 have B14:Hid (ab ((x4*y4))<pw 120):=zAl hx4.out hy4.out zm
 have B15:Hid (ab (((x3*y2)+(x4*y4)))<pw 121):=zBd B13.out B14.out zm zm
 refine rz [.p b1 0,.n x1,.p b2 0,.n y1,.p b1 2,.n x2,.p b2 4,.n y3,.n ((x1*y1)+(x2*y3)),.p b1 0,.n x1,.p b2 2,.n y2,.p b1 2,.n x2,.p b2 6,.n y4,.n ((x1*y2)+(x2*y4)),.p b1 4,.n x3,.p b2 0,.n y1,.p b1 6,.n x4,.p b2 4,.n y3,.n ((x3*y1)+(x4*y3)),.p b1 4,.n x3,.p b2 2,.n y2,.p b1 6,.n x4,.p b2 6,.n y4,.n ((x3*y2)+(x4*y4)),.w (Fq.st [.n ((x1*y1)+(x2*y3)),.n ((x1*y2)+(x2*y4)),.n ((x3*y1)+(x4*y3)),.n ((x3*y2)+(x4*y4))]),.a] [some (37,Fq.st [.n ((x1*y1)+(x2*y3)),.n ((x1*y2)+(x2*y4)),.n ((x3*y1)+(x4*y3)),.n ((x3*y2)+(x4*y4))]),none,none] [] E (fun hp=>⟨qa b1 0 0 hp zw,lN 0 2 hp J2 zAa zi,qa b2 0 0 hp zw,lN 0 2 hp J1 zAa zi,qa b1 0 2 hp zw,lN 2 2 hp J2 zAa zi,qa b2 0 4 hp zw,lN 4 2 hp J1 zAa zi,zD1 (F:=(Fq.num x1).P) (G:=(Fq.num y1).P) (F3:=(Fq.num x2).P) (F4:=(Fq.num y3).P) hp fo tv (zF7) (sqi 1) (sqi 3) (sqi 5) (sqi 7) (fun v v' u u' w h h' g g'=>zGc h h' g g' (zu hx1.out) (zu hy1.out) (zu hx2.out) (zu hy3.out)),qa b1 0 0 hp zw,lN 0 2 hp J2 zAa zi,qa b2 0 2 hp zw,lN 2 2 hp J1 zAa zi,qa b1 0 2 hp zw,lN 2 2 hp J2 zAa zi,qa b2 0 6 hp zw,lN 6 2 hp J1 zAa zi,zD1 (F:=(Fq.num x1).P) (G:=(Fq.num y2).P) (F3:=(Fq.num x2).P) (F4:=(Fq.num y4).P) hp fo tv (zF7) (sqi 10) (sqi 12) (sqi 14) (sqi 16) (fun v v' u u' w h h' g g'=>zGc h h' g g' (zu hx1.out) (zu hy2.out) (zu hx2.out) (zu hy4.out)),qa b1 0 4 hp zw,lN 4 2 hp J2 zAa zi,qa b2 0 0 hp zw,lN 0 2 hp J1 zAa zi,qa b1 0 6 hp zw,lN 6 2 hp J2 zAa zi,qa b2 0 4 hp zw,lN 4 2 hp J1 zAa zi,zD1 (F:=(Fq.num x3).P) (G:=(Fq.num y1).P) (F3:=(Fq.num x4).P) (F4:=(Fq.num y3).P) hp fo tv (zF7) (sqi 19) (sqi 21) (sqi 23) (sqi 25) (fun v v' u u' w h h' g g'=>zGc h h' g g' (zu hx3.out) (zu hy1.out) (zu hx4.out) (zu hy3.out)),qa b1 0 4 hp zw,lN 4 2 hp J2 zAa zi,qa b2 0 2 hp zw,lN 2 2 hp J1 zAa zi,qa b1 0 6 hp zw,lN 6 2 hp J2 zAa zi,qa b2 0 6 hp zw,lN 6 2 hp J1 zAa zi,zD1 (F:=(Fq.num x3).P) (G:=(Fq.num y2).P) (F3:=(Fq.num x4).P) (F4:=(Fq.num y4).P) hp fo tv (zF7) (sqi 28) (sqi 30) (sqi 32) (sqi 34) (fun v v' u u' w h h' g g'=>zGc h h' g g' (zu hx3.out) (zu hy2.out) (zu hx4.out) (zu hy4.out)),zM0 (z0:=((x1*y1)+(x2*y3))) (z1:=((x1*y2)+(x2*y4))) (z2:=((x3*y1)+(x4*y3))) (z3:=((x3*y2)+(x4*y4))) hp fo tv (sqi 8) (sqi 17) (sqi 26) (sqi 35) (fun v w h=>h),sO 0 36 hp J0 zEh zw,tv⟩) ?_
 intro w16 E _ _
 simp only [rzE] at E ⊢
 obtain ⟨_,_,hc0,hf0⟩:=zAv (E.box 0 rfl)
 have hP0:=hf0
 obtain ⟨r0_p0,r0_q0,_,rfl,_r0_n0,r0_p1,r0_q1,_,rfl,_r0_n1,r0_p2,r0_q2,_,rfl,_r0_n2,r0_p3,r0_q3,_,rfl,_r0_n3,rfl⟩:=hf0
 have c0_0:=hc0 0 (by simp)
 have c0_1:=hc0 1 (by simp)
 have c0_2:=hc0 2 (by simp)
 have c0_3:=hc0 3 (by simp)
 have c0_4:=hc0 4 (by simp)
 have c0_5:=hc0 5 (by simp)
 have c0_6:=hc0 6 (by simp)
 have c0_7:=hc0 7 (by simp)
 simp only [List.getD_cons_zero,List.getD_cons_succ] at c0_0 c0_1 c0_2 c0_3 c0_4 c0_5 c0_6 c0_7
 clear hc0
 clear B4 B5 B6 B7 B8 B9 B10 B11 B12 B13 B14 B15 hx1 hx2 hx3 hx4 hy1 hy2 hy3 hy4
 go_wp2
 exact zR (v:=.agg #[r0_p0,r0_q0,r0_p1,r0_q1,r0_p2,r0_q2,r0_p3,r0_q3]) (by simp [results,Tryz.results77,go_sem,c0_0,c0_1,c0_2,c0_3,c0_4,c0_5,c0_6,c0_7]) E.below ⟨_,rfl,hP0⟩

theorem exQEqual0 {w:World} {v v':Value} {a b c x y z:Int} (h:(f3 a b c).P v w) (h':(f3 x y z).P v' w) (e0:¬ a=x) {t:Bool} (ht:eqF a b c x y z=t) :
  Rt 25 #[v,v'] w fun v' w'=>v'=.bool t:=by
 have ht2:t=false:=ht.symm.trans (by unfold eqF;simp [e0])
 subst ht2
 clear ht
 have T0:=hidd (decide_eq_false e0)
 clear e0
 obtain ⟨y0_p0,y0_q0,y0_p1,y0_q1,y0_p2,y0_q2,rfl,hF0⟩:=o3 h
 obtain ⟨y1_p0,y1_q0,y1_p1,y1_q1,y1_p2,y1_q2,rfl,hF1⟩:=o3 h'
 obtain ⟨w1,b1,hw1,hb1,hs1,E⟩:=gS w 38 hF0
 obtain ⟨w2,b2,hw2,hb2,hs2,E⟩:=fS E hs1 38 hF1
 go_enter Tryz.func25,Tryz.ntmps25
 go_upto_region 1 with (fail)
 rw [← hw1,← hw2]
 rw [← hb2,← hb1]
 clear hw1 hw2 hb1 hb2 hs2 hs1
 refine rz [.p b1 0,.n a,.p b2 0,.n x,.o,.o,.u (undef),.u (undef),.u (undef),.u (undef),.u (undef),.o,.o,.u (undef),.u (undef),.u (undef),.u (undef),.u (undef),.o,.o] N2 [] E (fun hp=>⟨qa b1 0 0 hp zw,lN 0 2 hp J1 zAa zi,qa b2 0 0 hp zw,lN 0 2 hp J0 zAa zi,zC hp zEm zi zi fun v v' w h h'=>zEn h h' T0.out,zS,zS,zS,zS,zS,zS,zt hp (sqi 5) (zk (.bool false)),zS,zS,zS,zS,zS,zS,zt hp (sqi 12) (zk (.bool false)),zS,tv⟩) ?_
 intro w3 E _ _
 simp only [rzE] at E ⊢
 clear T0
 go_wp2
 exact zR (v:=.bool false) (by simp [results,Tryz.results25,go_sem]) E.below rfl

theorem exQEqual1 {w:World} {v v':Value} {a b c x y z:Int} (h:(f3 a b c).P v w) (h':(f3 x y z).P v' w) (e0:a=x) (e1:¬ b=y) {t:Bool} (ht:eqF a b c x y z=t) :
  Rt 25 #[v,v'] w fun v' w'=>v'=.bool t:=by
 have ht2:t=false:=ht.symm.trans (by unfold eqF;simp [e0,e1])
 subst ht2
 clear ht
 have T0:=hidd (decide_eq_true e0)
 have T1:=hidd (decide_eq_false e1)
 clear e0 e1
 obtain ⟨y0_p0,y0_q0,y0_p1,y0_q1,y0_p2,y0_q2,rfl,hF0⟩:=o3 h
 obtain ⟨y1_p0,y1_q0,y1_p1,y1_q1,y1_p2,y1_q2,rfl,hF1⟩:=o3 h'
 obtain ⟨w1,b1,hw1,hb1,hs1,E⟩:=gS w 38 hF0
 obtain ⟨w2,b2,hw2,hb2,hs2,E⟩:=fS E hs1 38 hF1
 go_enter Tryz.func25,Tryz.ntmps25
 go_upto_region 1 with (fail)
 rw [← hw1,← hw2]
 rw [← hb2,← hb1]
 clear hw1 hw2 hb1 hb2 hs2 hs1
 refine rz [.p b1 0,.n a,.p b2 0,.n x,.t,.t,.p b1 2,.n b,.p b2 2,.n y,.o,.o,.o,.u (undef),.u (undef),.u (undef),.u (undef),.u (undef),.o,.o] N2 [] E (fun hp=>⟨qa b1 0 0 hp zw,lN 0 2 hp J1 zAa zi,qa b2 0 0 hp zw,lN 0 2 hp J0 zAa zi,zC hp zEm zi zi fun v v' w h h'=>zEn h h' T0.out,zS,zg b1 0 2 hp zw,lG 2 2 hp gqi J1 zAa zi fun v w h=>zAe h,zg b2 0 2 hp zw,lG 2 2 hp gqi J0 zAa zi fun v w h=>zAe h,zC hp zEm zi zi (fun v v' w h h'=>zEn h h' T1.out),zt hp (sqi 5) (sqi 10),zS,zS,zS,zS,zS,zS,zt hp (sqi 12) (zk (.bool false)),zS,tv⟩) ?_
 intro w3 E _ _
 simp only [rzE] at E ⊢
 clear T0 T1
 go_wp2
 exact zR (v:=.bool false) (by simp [results,Tryz.results25,go_sem]) E.below rfl

theorem exQEqual2 {w:World} {v v':Value} {a b c x y z:Int} (h:(f3 a b c).P v w) (h':(f3 x y z).P v' w) (e0:a=x) (e1:b=y) (e2:¬ c=z) {t:Bool} (ht:eqF a b c x y z=t) :
  Rt 25 #[v,v'] w fun v' w'=>v'=.bool t:=by
 have ht2:t=false:=ht.symm.trans (by unfold eqF;simp [e0,e1,e2])
 subst ht2
 clear ht
 have T0:=hidd (decide_eq_true e0)
 have T1:=hidd (decide_eq_true e1)
 have T2:=hidd (decide_eq_false e2)
 clear e0 e1 e2
 obtain ⟨y0_p0,y0_q0,y0_p1,y0_q1,y0_p2,y0_q2,rfl,hF0⟩:=o3 h
 obtain ⟨y1_p0,y1_q0,y1_p1,y1_q1,y1_p2,y1_q2,rfl,hF1⟩:=o3 h'
 obtain ⟨w1,b1,hw1,hb1,hs1,E⟩:=gS w 38 hF0
 obtain ⟨w2,b2,hw2,hb2,hs2,E⟩:=fS E hs1 38 hF1
 go_enter Tryz.func25,Tryz.ntmps25
 go_upto_region 1 with (fail)
 rw [← hw1,← hw2]
 rw [← hb2,← hb1]
 clear hw1 hw2 hb1 hb2 hs2 hs1
 refine rz [.p b1 0,.n a,.p b2 0,.n x,.t,.t,.p b1 2,.n b,.p b2 2,.n y,.t,.t,.t,.p b1 4,.n c,.p b2 4,.n z,.o,.o,.o] N2 [] E (fun hp=>⟨qa b1 0 0 hp zw,lN 0 2 hp J1 zAa zi,qa b2 0 0 hp zw,lN 0 2 hp J0 zAa zi,zC hp zEm zi zi fun v v' w h h'=>zEn h h' T0.out,zS,zg b1 0 2 hp zw,lG 2 2 hp gqi J1 zAa zi fun v w h=>zAe h,zg b2 0 2 hp zw,lG 2 2 hp gqi J0 zAa zi fun v w h=>zAe h,zC hp zEm zi zi (fun v v' w h h'=>zEn h h' T1.out),zt hp (sqi 5) (sqi 10),zS,zg b1 0 4 hp zw,lG 4 2 hp gqi J1 zAa zi fun v w h=>zAe h,zg b2 0 4 hp zw,lG 4 2 hp gqi J0 zAa zi fun v w h=>zAe h,zC hp zEm zi zi (fun v v' w h h'=>zEn h h' T2.out),zt hp (sqi 12) (sqi 17),zS,tv⟩) ?_
 intro w3 E _ _
 simp only [rzE] at E ⊢
 clear T0 T1 T2
 go_wp2
 exact zR (v:=.bool false) (by simp [results,Tryz.results25,go_sem]) E.below rfl

theorem exQEqual3 {w:World} {v v':Value} {a b c x y z:Int} (h:(f3 a b c).P v w) (h':(f3 x y z).P v' w) (e0:a=x) (e1:b=y) (e2:c=z) {t:Bool} (ht:eqF a b c x y z=t) :
  Rt 25 #[v,v'] w fun v' w'=>v'=.bool t:=by
 have ht2:t=true:=ht.symm.trans (by unfold eqF;simp [e0,e1,e2])
 subst ht2
 clear ht
 have T0:=hidd (decide_eq_true e0)
 have T1:=hidd (decide_eq_true e1)
 have T2:=hidd (decide_eq_true e2)
 clear e0 e1 e2
 obtain ⟨y0_p0,y0_q0,y0_p1,y0_q1,y0_p2,y0_q2,rfl,hF0⟩:=o3 h
 obtain ⟨y1_p0,y1_q0,y1_p1,y1_q1,y1_p2,y1_q2,rfl,hF1⟩:=o3 h'
 obtain ⟨w1,b1,hw1,hb1,hs1,E⟩:=gS w 38 hF0
 obtain ⟨w2,b2,hw2,hb2,hs2,E⟩:=fS E hs1 38 hF1
 go_enter Tryz.func25,Tryz.ntmps25
 go_upto_region 1 with (fail)
 rw [← hw1,← hw2]
 rw [← hb2,← hb1]
 clear hw1 hw2 hb1 hb2 hs2 hs1
 refine rz [.p b1 0,.n a,.p b2 0,.n x,.t,.t,.p b1 2,.n b,.p b2 2,.n y,.t,.t,.t,.p b1 4,.n c,.p b2 4,.n z,.t,.t,.t] N2 [] E (fun hp=>⟨qa b1 0 0 hp zw,lN 0 2 hp J1 zAa zi,qa b2 0 0 hp zw,lN 0 2 hp J0 zAa zi,zC hp zEm zi zi fun v v' w h h'=>zEn h h' T0.out,zS,zg b1 0 2 hp zw,lG 2 2 hp gqi J1 zAa zi fun v w h=>zAe h,zg b2 0 2 hp zw,lG 2 2 hp gqi J0 zAa zi fun v w h=>zAe h,zC hp zEm zi zi (fun v v' w h h'=>zEn h h' T1.out),zt hp (sqi 5) (sqi 10),zS,zg b1 0 4 hp zw,lG 4 2 hp gqi J1 zAa zi fun v w h=>zAe h,zg b2 0 4 hp zw,lG 4 2 hp gqi J0 zAa zi fun v w h=>zAe h,zC hp zEm zi zi (fun v v' w h h'=>zEn h h' T2.out),zt hp (sqi 12) (sqi 17),zS,tv⟩) ?_
 intro w3 E _ _
 simp only [rzE] at E ⊢
 clear T0 T1 T2
 go_wp2
 exact zR (v:=.bool true) (by simp [results,Tryz.results25,go_sem]) E.below rfl

theorem zPk {w:World} {v v':Value} {a b c x y z:Int} (h:(f3 a b c).P v w) (h':(f3 x y z).P v' w) {t:Bool} (ht:eqF a b c x y z=t) :
  Rt 25 #[v,v'] w fun v' w'=>v'=.bool t:=by
 by_cases e0:a=x
 ·by_cases e1:b=y
  ·by_cases e2:c=z
   ·exact exQEqual3 h h' e0 e1 e2 ht
   ·exact exQEqual2 h h' e0 e1 e2 ht
  ·exact exQEqual1 h h' e0 e1 ht
 ·exact exQEqual0 h h' e0 ht

theorem zVp {w:World} {v:Value} {a b c:Int} (h:(f3 a b c).P v w) (ha:ab a<pw 60) (hb:ab b<pw 60) (hc:ab c<pw 60) :
  Rt 128 #[v] w fun v' w'=>Num w' v' ((Int.gcd (Int.gcd a b:Int) c:Int)):=by
 replace ha:=hidd ha
 replace hb:=hidd hb
 replace hc:=hidd hc
 obtain ⟨y0_p0,y0_q0,y0_p1,y0_q1,y0_p2,y0_q2,rfl,hF0⟩:=o3 h
 obtain ⟨w1,b1,hw1,hb1,hs1,E⟩:=gS w 38 hF0
 obtain ⟨w2,b2,hw2,hb2,hs2,E⟩:=fZ E hs1 36
 go_enter Tryz.func128,Tryz.ntmps128
 go_upto_region 1 with (fail)
 rw [← hw1,← hw2]
 rw [← hb2,← hb1]
 clear hw1 hw2 hb1 hb2 hs2 hs1
 have B3:Hid (ab ((Int.gcd a b:Int))<pw 60):=zIu ha.out hb.out zm zm
 have B4:Hid (ab ((Int.gcd (Int.gcd a b:Int) c:Int))<pw 60):=zIu B3.out hc.out zm zm
 refine rz [.p b1 0,.n a,.p b1 2,.n b,.n (Int.gcd a b:Int),.p b1 4,.n c,.n (Int.gcd (Int.gcd a b:Int) c:Int),.a] [some (8,Fq.num (Int.gcd (Int.gcd a b:Int) c:Int)),none] [] E (fun hp=>⟨qa b1 0 0 hp zw,lN 0 2 hp J1 zAa zi,qa b1 0 2 hp zw,lN 2 2 hp J1 zAa zi,zC hp zOg zi zi fun v v' w h h'=>exRGcd h h' (zu ha.out) (zu hb.out),qa b1 0 4 hp zw,lN 4 2 hp J1 zAa zi,zC hp zOg zi zi fun v v' w h h'=>exRGcd h h' (zu B3.out) (zu hc.out),sP 7 hp J0 zw,tv⟩) ?_
 intro w5 E _ _
 simp only [rzE] at E ⊢
 obtain ⟨p0_0,p0_1,c0_0,c0_1,hP0⟩:=zCg (E.box 0 rfl)
 clear B3 B4 ha hb hc
 go_wp2
 exact zR (v:=.agg #[p0_0,p0_1]) (by simp [results,Tryz.results128,go_sem,c0_0,c0_1]) E.below hP0

theorem zPl {w:World} {v:Value} {a b c:Int} (h:(f3 a b c).P v w) (ha:ab a<pw 60) (hb:ab b<pw 60) (hc:ab c<pw 60) {t:Bool} (ht:decide (cont a b c=1)=t) :
  Rt 92 #[v] w fun v' w'=>v'=.bool t:=by
 replace ha:=hidd ha
 replace hb:=hidd hb
 replace hc:=hidd hc
 have HT:=hidd ht
 clear ht
 obtain ⟨y0_p0,y0_q0,y0_p1,y0_q1,y0_p2,y0_q2,rfl,hF0⟩:=o3 h
 obtain ⟨w1,b1,hw1,hb1,hs1,E⟩:=gS w 38 hF0
 go_enter Tryz.func92,Tryz.ntmps92
 go_upto_region 1 with (fail)
 rw [← hw1,← hb1]
 clear hw1 hb1 hs1
 have B2:Hid (ab ((1))<pw 3):=zB5 zd
 refine rz [.w (f3 a b c),.n (cont a b c),.n (1),.u (.bool t),.u (.bool t)] [none] [] E (fun hp=>⟨lS 0 6 hp J0 zAc zw,zc hp zTm zi fun v w h=>zVp h ha.out hb.out hc.out,zBp (F:=(Fq.is (.int .i64 1)).P) hp fo tv (zDl) (zAk (fun _=>rfl)) (fun v w h=>(by subst h;exact rOfK w (1) zm zm)),zC hp zEm zi zi fun v v' w h h'=>zEn h h' HT.out,zS,tv⟩) ?_
 intro w3 E _ _
 simp only [rzE] at E ⊢
 clear HT
 clear B2 ha hb hc
 go_wp2
 exact zR (v:=.bool t) (by simp [results,Tryz.results92,go_sem]) E.below rfl

theorem zG2 {w:World} {a b c:Int} (ha:-9223372036854775808≤a∧a≤9223372036854775807) (hb:-9223372036854775808≤b∧b≤9223372036854775807) (hc:-9223372036854775808≤c∧c≤9223372036854775807) :
  Rt 45 #[.int .i64 a,.int .i64 b,.int .i64 c] w fun v' w'=>(f3 a b c).P v' w':=by
 have Ha:=hidd ha
 have Ba:Hid (ab a<pw 3):=zAr ha.1 ha.2
 have Hb:=hidd hb
 have Bb:Hid (ab b<pw 3):=zAr hb.1 hb.2
 have Hc:=hidd hc
 have Bc:Hid (ab c<pw 3):=zAr hc.1 hc.2
 clear ha hb hc
 obtain ⟨w1,b1,hw1,hb1,hs1,E⟩:=zEb w (F:=f3 0 0 0) (us:=[.bool false,.slice none 0 0,.bool false,.slice none 0 0,.bool false,.slice none 0 0]) 38 rfl (by simp) ((Fits.tame (zAt w))) (zV8 _)
 go_enter Tryz.func45,Tryz.ntmps45
 go_upto_region 1 with (fail)
 rw [← hw1,← hb1]
 clear hw1 hb1 hs1
 refine rz [.i a,.n a,.i b,.n b,.i c,.n c,.w (f3 a b c),.a] [some (7,f3 a b c)] [] E (fun hp=>⟨zS,wXa (Fq.is (.int .i64 a)) hp zDl (sqi 0) fun v w h=>(by subst h;exact rOfK w a Ha.out.1 Ha.out.2),zS,wXa (Fq.is (.int .i64 b)) hp zDl (sqi 2) fun v w h=>(by subst h;exact rOfK w b Hb.out.1 Hb.out.2),zS,wXa (Fq.is (.int .i64 c)) hp zDl (sqi 4) fun v w h=>(by subst h;exact rOfK w c Hc.out.1 Hc.out.2),zFo (z0:=a) (z1:=b) (z2:=c) hp fo tv (sqi 1) (sqi 3) (sqi 5) (fun v w h=>h),sO 0 6 hp J0 zAn zw,tv⟩) ?_
 intro w2 E _ _
 simp only [rzE] at E ⊢
 clear Ha Hb Hc
 obtain ⟨_,_,hc0,hf0⟩:=zAv (E.box 0 rfl)
 have hP0:=hf0
 obtain ⟨r0_p0,r0_q0,_,rfl,_r0_n0,r0_p1,r0_q1,_,rfl,_r0_n1,r0_p2,r0_q2,_,rfl,_r0_n2,rfl⟩:=hf0
 have c0_z:=c6 hc0
 simp only [List.getD_cons_zero,List.getD_cons_succ] at c0_z
 clear hc0
 clear Ba Bb Bc
 go_wp2
 exact zR (v:=.agg #[r0_p0,r0_q0,r0_p1,r0_q1,r0_p2,r0_q2]) (by simp [results,Tryz.results45,go_sem,c0_z]) E.below ⟨_,rfl,hP0⟩

theorem zLu {w:World} {x1 x2 x3 x4:Int} (hx1:-9223372036854775808≤x1∧x1≤9223372036854775807) (hx2:-9223372036854775808≤x2∧x2≤9223372036854775807) (hx3:-9223372036854775808≤x3∧x3≤9223372036854775807) (hx4:-9223372036854775808≤x4∧x4≤9223372036854775807) :
  Rt 76 #[.int .i64 x1,.int .i64 x2,.int .i64 x3,.int .i64 x4] w fun v' w'=>(Fq.st [.n x1,.n x2,.n x3,.n x4]).P v' w':=by
 have Hx1:=hidd hx1
 have Bx1:Hid (ab x1<pw 3):=zAr hx1.1 hx1.2
 have Hx2:=hidd hx2
 have Bx2:Hid (ab x2<pw 3):=zAr hx2.1 hx2.2
 have Hx3:=hidd hx3
 have Bx3:Hid (ab x3<pw 3):=zAr hx3.1 hx3.2
 have Hx4:=hidd hx4
 have Bx4:Hid (ab x4<pw 3):=zAr hx4.1 hx4.2
 clear hx1 hx2 hx3 hx4
 obtain ⟨w1,b1,hw1,hb1,hs1,E⟩:=zEb w (F:=Fq.st [.n 0,.n 0,.n 0,.n 0]) (us:=[.bool false,.slice none 0 0,.bool false,.slice none 0 0,.bool false,.slice none 0 0,.bool false,.slice none 0 0]) 67 rfl (by simp) ((Fits.tame (zEo w))) (zPp _)
 go_enter Tryz.func76,Tryz.ntmps76
 go_upto_region 1 with (fail)
 rw [← hw1,← hb1]
 clear hw1 hb1 hs1
 refine rz [.i x1,.n x1,.i x2,.n x2,.i x3,.n x3,.i x4,.n x4,.w (Fq.st [.n x1,.n x2,.n x3,.n x4]),.a] [some (9,Fq.st [.n x1,.n x2,.n x3,.n x4])] [] E (fun hp=>⟨zS,wXa (Fq.is (.int .i64 x1)) hp zDl (sqi 0) fun v w h=>(by subst h;exact rOfK w x1 Hx1.out.1 Hx1.out.2),zS,wXa (Fq.is (.int .i64 x2)) hp zDl (sqi 2) fun v w h=>(by subst h;exact rOfK w x2 Hx2.out.1 Hx2.out.2),zS,wXa (Fq.is (.int .i64 x3)) hp zDl (sqi 4) fun v w h=>(by subst h;exact rOfK w x3 Hx3.out.1 Hx3.out.2),zS,wXa (Fq.is (.int .i64 x4)) hp zDl (sqi 6) fun v w h=>(by subst h;exact rOfK w x4 Hx4.out.1 Hx4.out.2),zM0 (z0:=x1) (z1:=x2) (z2:=x3) (z3:=x4) hp fo tv (sqi 1) (sqi 3) (sqi 5) (sqi 7) (fun v w h=>h),sO 0 8 hp J0 zEh zw,tv⟩) ?_
 intro w2 E _ _
 simp only [rzE] at E ⊢
 clear Hx1 Hx2 Hx3 Hx4
 obtain ⟨_,_,hc0,hf0⟩:=zAv (E.box 0 rfl)
 have hP0:=hf0
 obtain ⟨r0_p0,r0_q0,_,rfl,_r0_n0,r0_p1,r0_q1,_,rfl,_r0_n1,r0_p2,r0_q2,_,rfl,_r0_n2,r0_p3,r0_q3,_,rfl,_r0_n3,rfl⟩:=hf0
 have c0_0:=hc0 0 (by simp)
 have c0_1:=hc0 1 (by simp)
 have c0_2:=hc0 2 (by simp)
 have c0_3:=hc0 3 (by simp)
 have c0_4:=hc0 4 (by simp)
 have c0_5:=hc0 5 (by simp)
 have c0_6:=hc0 6 (by simp)
 have c0_7:=hc0 7 (by simp)
 simp only [List.getD_cons_zero,List.getD_cons_succ] at c0_0 c0_1 c0_2 c0_3 c0_4 c0_5 c0_6 c0_7
 clear hc0
 clear Bx1 Bx2 Bx3 Bx4
 go_wp2
 exact zR (v:=.agg #[r0_p0,r0_q0,r0_p1,r0_q1,r0_p2,r0_q2,r0_p3,r0_q3]) (by simp [results,Tryz.results76,go_sem,c0_0,c0_1,c0_2,c0_3,c0_4,c0_5,c0_6,c0_7]) E.below ⟨_,rfl,hP0⟩

def FiveAt (zs:List Int) (g:Nat) (w:World):Prop:=
 g<w.heap.size∧∀ j,j<5→∃ (n:Bool) (ao:Option Addr) (k c:Nat),w.cell? ⟨g,2*j,none⟩=some (.bool n)∧w.cell? ⟨g,2*j+1,none⟩=some (.slice ao k c)∧Num w (.agg #[.bool n,.slice ao k c]) (zs.getD j 0)

theorem FiveAt.mono {zs:List Int} {g:Nat} {w w':World} (h:FiveAt zs g w) (hb:Below w.heap.size w w'):FiveAt zs g w':=by
 refine ⟨Nat.lt_of_lt_of_le h.1 hb.size,fun j hj=>?_⟩
 obtain ⟨n,ao,k,c,h1,h2,h3⟩:=h.2 j hj
 exact ⟨n,ao,k,c,(hb.cell (p:=⟨g,2*j,none⟩) h.1).trans h1,(hb.cell (p:=⟨g,2*j+1,none⟩) h.1).trans h2,h3.mono hb⟩

section
variable {os : List Oper} {Q : Exit → Act → World → Prop} {a : Act} {p : Plan} {B B0 : Nat} {w0 : World}
variable {i s : Nat} {d : Option Tmp} {ty : TypeId} {ps : String} {af : Array Edge} {gd : Option (Nat × Bool)}

end

theorem cmp_lt {x y:Int} (h:x<y):cmpI x y=-1:=by unfold cmpI;rw [if_pos h]
theorem cmp_gt {x y:Int} (h:y<x):cmpI x y=1:=by unfold cmpI;rw [if_neg zm,if_neg zm]
theorem zSq {neg:Bool} {xs:List Int} (hc:Canon xs) (hn:neg=true→xs.length≠0):zFw neg xs=true:=by
 unfold zFw
 by_cases h:xs.length=0
 ·rw [if_pos h]
  cases neg with
  | false=>rfl
  | true=>exact absurd h (hn rfl)
 ·rw [if_neg h]
  have h1:pw (xs.length-1)≤val xs:=hc.2.resolve_left h
  have h2:=zAq xs (xs.length-1)
  rw [show xs.length-1+1=xs.length by omega,List.take_length] at h2
  have h3:=zBa (hc.1.take (xs.length-1))
  rw [List.length_take,Nat.min_eq_left zm] at h3
  simp only [bne_iff_ne,ne_eq]
  intro h0
  rw [h0,Int.mul_zero] at h2
  omega

theorem exValid {w:World} {n:Bool} {ao:Option Addr} {k c:Nat} {z:Int} (h:Num w (.agg #[.bool n,.slice ao k c]) z):Calls Tryz.prog 135 #[.agg #[.bool n,.slice ao k c]] w fun e w'=>e=.returned (.bool true)∧Below w.heap.size w w':=by
 obtain ⟨neg,ao',k',c',xs,hv,hs,hn,hz,hc,hnn⟩:=h
 obtain ⟨rfl,rfl,rfl,rfl⟩:n=neg∧ao=ao'∧k=k'∧c=c':=by
  simp at hv;exact ⟨hv.1,hv.2.1,hv.2.2.1,hv.2.2.2⟩
 have:=Valid_any w n ao k c xs hs zm
 rw [zSq hc (by rw [hs.len];exact hnn)] at this
 exact this

theorem exRValid {w:World} {n:Bool} {ao:Option Addr} {k c:Nat} {z:Int} (h:Num w (.agg #[.bool n,.slice ao k c]) z):Calls Tryz.prog 134 #[.agg #[.bool n,.slice ao k c]] w fun e w'=>e=.returned (.bool true)∧Below w.heap.size w w':=by
 obtain ⟨neg,ao',k',c',xs,hv,hs,hn,hz,hc,hnn⟩:=h
 obtain ⟨rfl,rfl,rfl,rfl⟩:n=neg∧ao=ao'∧k=k'∧c=c':=by
  simp at hv;exact ⟨hv.1,hv.2.1,hv.2.2.1,hv.2.2.2⟩
 have:=zXe w n ao k c xs hs zm
 rw [zSq hc (by rw [hs.len];exact hnn)] at this
 exact this

theorem zTi:En 147:=zAd Tryz.func147 (by kernel_rfl) rfl
def sqB (n:Int):Bool:=decide (0≤n) && (List.range (n.toNat+1)).any fun k=>k*k == n.toNat
theorem sqB_iff {n:Int}:sqB n=true ↔ ∃ k:Int,k*k=n:=by
 simp only [sqB,Bool.and_eq_true,decide_eq_true_eq,List.any_eq_true,List.mem_range,beq_iff_eq]
 constructor
 ·rintro ⟨h0,k,_,hk⟩
  refine ⟨(k:Int),?_⟩
  have:((k*k:Nat):Int)=((n.toNat:Nat):Int):=by rw [hk]
  rw [Int.natCast_mul] at this
  omega
 ·rintro ⟨k,hk⟩
  have h0:=zE1 k
  have h1:=zD2 k
  have h2:(k.natAbs:Int)*(k.natAbs:Int)=((k.natAbs*k.natAbs:Nat):Int):=by rw [Int.natCast_mul]
  have h3:k.natAbs≤k.natAbs*k.natAbs:=by
   rcases Nat.eq_zero_or_pos k.natAbs with e | e
   ·rw [e];omega
   ·exact Nat.le_mul_of_pos_left _ e
  refine ⟨zm,k.natAbs,zm,zm⟩
theorem isq_ex:∀ p:Nat,∃ s:Int,0≤s∧s*s≤p∧(p:Int)<(s+1)*(s+1)
 | 0=>⟨0,zd,zd,zd⟩
 | p+1=>by
  obtain ⟨s,h0,h1,h2⟩:=isq_ex p
  have e:(s+1+1)*(s+1+1)=(s+1)*(s+1)+2*(s+1)+1:=by rw [Int.add_mul (s+1) 1,Int.mul_add (s+1) (s+1) 1];omega
  by_cases h:((p+1:Nat):Int)<(s+1)*(s+1)
  ·exact ⟨s,h0,zm,h⟩
  ·exact ⟨s+1,zm,zm,by rw [e];omega⟩
theorem zL2 {X r s:Int} (r0:0≤r) (r1:r*r≤X) (r2:X<(r+1)*(r+1)) (s0:0≤s) (h1:s*s≤X) (h2:X<(s+1)*(s+1)):r=s:=by
 rcases Int.lt_trichotomy r s with h | h | h
 ·have:=Int.mul_le_mul (show r+1≤s by omega) (show r+1≤s by omega) zm s0
  omega
 ·exact h
 ·have:=Int.mul_le_mul (show s+1≤r by omega) (show s+1≤r by omega) zm r0
  omega
theorem root_sq {X r:Int} (hr:IsRoot X 2 r):0≤r∧r*r≤X∧X<(r+1)*(r+1):=by
 obtain ⟨r0,r1,r2⟩:=hr
 have e:∀ z:Int,z^2=z*z:=fun z=>by rw [show (2:Nat)=1+1 by rfl,Int.pow_succ,Int.pow_succ,Int.pow_zero,Int.one_mul]
 rw [e] at r1 r2
 exact ⟨r0,r1,r2⟩
theorem zSa {n s:Int} (s0:0≤s) (h1:s*s≤n) (h2:n<(s+1)*(s+1)):sqB n=decide (n-s*s=0):=by
 by_cases e:n-s*s=0
 ·rw [decide_eq_true e]
  exact sqB_iff.2 ⟨s,zm⟩
 ·rw [decide_eq_false e]
  refine Bool.eq_false_iff.2 fun h=>e ?_
  obtain ⟨k,hk⟩:=sqB_iff.1 h
  have hk2:=zD2 k
  have:=zL2 (X:=n) (r:=(k.natAbs:Int)) zm zm (by rw [Int.add_mul,Int.mul_add];omega) s0 h1 h2
  rw [← this]
  omega
theorem exQSqrt {n:Int} (h0:0≤n) (hn:ab n<pw 40):∃ s:Int,(∀ (w:World) (v:Value),Num w v n→Calls Tryz.prog 147 #[v] w fun e w'=>∃ v',e=.returned v'∧Below w.heap.size w w'∧(Fq.tup3 (Fq.num s) (Fq.num (n-s*s)) (Fq.is (.int .i64 0))).P v' w')∧sqB n=decide (n-s*s=0):=by
 obtain ⟨s,s0,s1,s2⟩:=isq_ex n.toNat
 have e:((n.toNat:Nat):Int)=n:=zm
 rw [e] at s1 s2
 refine ⟨s,fun w v hv=>(RSqrtV hv hn).mono fun e w' hh=>?_,zSa s0 s1 s2⟩
 obtain ⟨hB,⟨h1,_⟩ | ⟨_,v1,v2,r,rfl,hr1,hr2,hr⟩⟩:=hh
 ·omega
 ·obtain ⟨q0,q1,q2⟩:=root_sq hr
  obtain rfl:r=s:=zL2 q0 q1 q2 s0 s1 s2
  have hbr:ab r<pw 40:=by
   have h4:=hn
   have h5:r≤r*r:=by
    rcases Int.lt_or_le 0 r with h | h
    ·have:=Int.mul_le_mul_of_nonneg_left (show 1≤r by omega) s0;omega
    ·have:=Int.mul_nonneg s0 s0;omega
   unfold ab at *
   generalize pw 40=k at *
   omega
  have hbr2:ab (n-r*r)<pw 40:=by
   have h4:=hn
   have:=Int.mul_nonneg s0 s0
   unfold ab at *
   generalize pw 40=k at *
   omega
  exact ⟨_,rfl,hB,v1,v2,_,rfl,zCq hr1 hbr zm,zCq hr2 hbr2 zm,rfl⟩
theorem zIn {n:Int} (h:n<0):sqB n=false:=by
 refine Bool.eq_false_iff.2 fun e=>?_
 obtain ⟨k,hk⟩:=sqB_iff.1 e
 have:=zE1 k
 omega
theorem disc_ab {a b c:Int} (ha:ab a<pw 15) (hb:ab b<pw 15) (hc:ab c<pw 15):ab (b*b-4*(a*c))<pw 40:=
 zCm (zBv hb hb) (zBv (zAr (x:=4) zd zd) (zBv ha hc)) zm zm
theorem zDv {w:World} {v:Value} {z:Int} (h:Num w v z):Calls Tryz.prog 134 #[v] w fun e w'=>∃ v',e=.returned v'∧Below w.heap.size w w'∧v'=.bool true:=by
 obtain ⟨n,ao,k,c,rfl⟩:=h.parts
 refine (exRValid h).mono ?_
 rintro e w' ⟨rfl,hb⟩
 exact ⟨_,rfl,hb,rfl⟩
def chkF (a b c:Int):Int:=if sqB (b*b-4*(a*c))=true then 5 else if b*b-4*(a*c)<0∧a<0 then 1 else 0
theorem zK5 {a b c:Int} (hd:b*b-4*(a*c)<0) (hz:¬ a<0):chkF a b c=0:=by
 unfold chkF
 rw [zIn hd,if_neg zd,if_neg fun x=>hz x.2]
theorem zN9 {a b c:Int} (hd:b*b-4*(a*c)<0) (hz:a<0):chkF a b c=1:=by
 unfold chkF
 rw [zIn hd,if_neg zd,if_pos ⟨hd,hz⟩]
theorem zK6 {a b c:Int} (hd:¬ b*b-4*(a*c)<0):chkF a b c=if sqB (b*b-4*(a*c))=true then 5 else 0:=by
 unfold chkF
 by_cases h:sqB (b*b-4*(a*c))=true
 ·rw [if_pos h,if_pos h]
 ·rw [if_neg h,if_neg h,if_neg fun x=>hd x.1]
def dfB (a b c:Int):Bool:=decide (b*b-4*(a*c)<0∧0≤a)
section
variable {os : List Oper} {Q : Exit → Act → World → Prop} {a : Act} {p : Pq} {B B0 : Nat} {w0 : World}
variable {i s : Nat} {d : Option Tmp} {ty : TypeId} {ps : String} {af : Array Edge} {gd : Option (Nat × Bool)}
theorem zFn (hp:p.Ok B B0) (hF:p.Free i) (hg:GdQ os a p B B0 w0 af gd) (hC:∀ v w,(f3 0 0 0).P v w→(p.c i).P v w) :
  zAf os Q a p B B0 w0 i { dst:=d,op:=.build 38 #[],type:=ty,pos:=ps,after:=af,guard:=gd }:=by
 refine zBf hp hF hg fun L vs w hG hL hc hd=>?_
 refine ⟨.agg #[.bool false,.slice none 0 0,.bool false,.slice none 0 0,.bool false,.slice none 0 0],?_,hC _ _ ⟨_,rfl,_,_,_,rfl,Num.zero w,_,_,_,rfl,Num.zero w,_,_,_,rfl,Num.zero w,rfl⟩⟩
 simp [execOp,go_sem]
end
theorem zV3 {w:World} {v:Value} {n:Int} (h:Num w v n) (hn:ab n<pw 40) (hc:n<0) {t:Bool} (ht:sqB n=t) :
  Rt 126 #[v] w fun v' w'=>v'=.bool t:=by
 replace hn:=hidd hn
 have T1:Hid (cmpI n 0<0):=cmpIqlt.2 hc
 have ht2:t=false:=ht.symm.trans (zIn hc)
 subst ht2
 clear ht
 clear hc
 obtain ⟨n0,ao0,k0,c0,rfl⟩:=h.parts
 obtain ⟨w1,b1,hw1,hb1,hs1,E⟩:=gN w 36 h
 go_enter Tryz.func126,Tryz.ntmps126
 go_upto_region 1 with (fail)
 rw [← hw1,← hb1]
 clear hw1 hb1 hs1
 refine rz [.n n,.i (cmpI n 0),.t] [none] [] E (fun hp=>⟨lI 0 hp J0 zw,zc hp zCo zi fun v w h=>zCp h,zO hp (sqi 1) T1.out,tv⟩) ?_
 intro w2 E _ _
 simp only [rzE] at E ⊢
 go_upto_region 2 with (fail)
 refine rz [.o] [none] [] E (fun hp=>⟨zS,tv⟩) ?_
 intro w3 E _ _
 simp only [rzE] at E ⊢
 clear T1
 clear hn
 go_wp2
 exact zR (v:=.bool false) (by simp [results,Tryz.results126,go_sem]) E.below rfl

theorem zV4 {w:World} {v:Value} {n:Int} (h:Num w v n) (hn:ab n<pw 40) (hc:¬ n<0) {t:Bool} (ht:sqB n=t) :
  Rt 126 #[v] w fun v' w'=>v'=.bool t:=by
 replace hn:=hidd hn
 have T1:Hid (¬ cmpI n 0<0):=fun e=>hc (cmpIqlt.1 e)
 obtain ⟨s,hS,hq⟩:=exQSqrt zm hn.out
 have HS:=hidd hS
 have ht3:t=decide (n-s*s=0):=ht.symm.trans hq
 clear hc hS hq ht
 have HT:Hid (t=decide (n-s*s=0)):=ht3
 clear ht3
 obtain ⟨n0,ao0,k0,c0,rfl⟩:=h.parts
 obtain ⟨w1,b1,hw1,hb1,hs1,E⟩:=gN w 36 h
 go_enter Tryz.func126,Tryz.ntmps126
 go_upto_region 1 with (fail)
 rw [← hw1,← hb1]
 clear hw1 hb1 hs1
 refine rz [.n n,.i (cmpI n 0),.o] [none] [] E (fun hp=>⟨lI 0 hp J0 zw,zc hp zCo zi fun v w h=>zCp h,zO hp (sqi 1) T1.out,tv⟩) ?_
 intro w2 E _ _
 simp only [rzE] at E ⊢
 go_upto_region 3 with (fail)
 refine rz [.n n,.w (Fq.tup3 (Fq.num s) (Fq.num (n-s*s)) (Fq.is (.int .i64 0))),.w (Fq.tup3 (Fq.num s) (Fq.num (n-s*s)) (Fq.is (.int .i64 0))),.n s,.n (n-s*s),.i 0,.k,.k,.a,.a,.i 0] [none] [⟨6,8,2,Fq.num 0,Fq.num s,none⟩,⟨7,9,2,Fq.num 0,Fq.num (n-s*s),none⟩] E (fun hp=>⟨lI 0 hp J0 zw,zc hp zTi zi fun v w h=>HS.out _ _ h,zS,zS,zS,zS,aN hp J0,aN hp J1,sN 3 hp J0,sN 4 hp J1,zS,tv⟩) ?_
 intro w3 b3_6 b3_7 E _ _
 simp only [rzE] at E ⊢
 go_upto_region 4 with (fail)
 by_cases hz:n-s*s=0
 ·have T2:Hid (cmpI (n-s*s) 0=0):=cmpIq0.2 hz
  have ht2:t=true:=HT.out.trans (decide_eq_true hz)
  subst ht2
  clear hz HT
  refine rz [.n (n-s*s),.i (cmpI (n-s*s) 0),.t,.t] N3 [] E (fun hp=>⟨lI 0 hp J1 zw,zc hp zCo zi fun v w h=>zCp h,zO hp (sqi 1) T2.out,zS,tv⟩) ?_
  intro w4 E _ _
  simp only [rzE] at E ⊢
  clear T1 T2 HS
  clear hn
  go_wp2
  exact zR (v:=.bool true) (by simp [results,Tryz.results126,go_sem]) E.below rfl
 ·have T2:Hid (¬ cmpI (n-s*s) 0=0):=fun e=>hz (cmpIq0.1 e)
  have ht2:t=false:=HT.out.trans (decide_eq_false hz)
  subst ht2
  clear hz HT
  refine rz [.n (n-s*s),.i (cmpI (n-s*s) 0),.o,.o] N3 [] E (fun hp=>⟨lI 0 hp J1 zw,zc hp zCo zi fun v w h=>zCp h,zO hp (sqi 1) T2.out,zS,tv⟩) ?_
  intro w5 E _ _
  simp only [rzE] at E ⊢
  clear T1 T2 HS
  clear hn
  go_wp2
  exact zR (v:=.bool false) (by simp [results,Tryz.results126,go_sem]) E.below rfl

theorem zJs {w:World} {v:Value} {n:Int} (h:Num w v n) (hn:ab n<pw 40) {t:Bool} (ht:sqB n=t) :
  Rt 126 #[v] w fun v' w'=>v'=.bool t:=by
 by_cases hc:n<0
 ·exact zV3 h hn hc ht
 ·exact zV4 h hn hc ht

theorem zVo {w:World} {v:Value} {a b c:Int} (h:(f3 a b c).P v w) (ha:ab a<pw 40) (hb:ab b<pw 40) (hc:ab c<pw 40) (hD:ab (b*b-4*(a*c))<pw 40) (hq:sqB (b*b-4*(a*c))=true) :
  Rt 100 #[v] w fun v' w'=>v'=.int .i64 5:=by
 replace ha:=hidd ha
 replace hb:=hidd hb
 replace hc:=hidd hc
 have HQ:=hidd hq
 clear hq
 have HDB:=hidd hD
 clear hD
 obtain ⟨y0_p0,y0_q0,y0_p1,y0_q1,y0_p2,y0_q2,rfl,hF0⟩:=o3 h
 obtain ⟨w1,b1,hw1,hb1,hs1,E⟩:=gS w 38 hF0
 go_enter Tryz.func100,Tryz.ntmps100
 go_upto_region 1 with (fail)
 rw [← hw1,← hb1]
 clear hw1 hb1 hs1
 refine rz [.p b1 0,.n a,.t,.o,.o,.p b1 2,.n b,.t,.o,.o,.o,.p b1 4,.n c,.t,.o,.o] [none] [] E (fun hp=>⟨qa b1 0 0 hp zw,lN 0 2 hp J0 zAa zi,zc hp zDs zi fun v w h=>zDv h,zo hp (sqi 2),zS,zg b1 0 2 hp zw,lG 2 2 hp gqi J0 zAa zi fun v w h=>zAe h,zc hp zDs zi (fun v w h=>zDv h),zo hp (sqi 7),zt hp (sqi 4) (sqi 8),zS,zg b1 0 4 hp zw,lG 4 2 hp gqi J0 zAa zi fun v w h=>zAe h,zc hp zDs zi (fun v w h=>zDv h),zo hp (sqi 13),zt hp (sqi 10) (sqi 14),tv⟩) ?_
 intro w2 E _ _
 simp only [rzE] at E ⊢
 go_upto_region 3 with (fail)
 refine rz [.w (f3 a b c),.n (b*b-4*(a*c)),.k,.a] [none] [⟨2,3,2,Fq.num 0,Fq.num (b*b-4*(a*c)),none⟩] E (fun hp=>⟨lS 0 6 hp J0 zAc zw,zc hp zGu zi fun v w h=>zG1 h (zu ha.out) (zu hb.out) (zu hc.out),aN hp J0,sN 1 hp J0,tv⟩) ?_
 intro w3 b3_2 E _ _
 simp only [rzE] at E ⊢
 go_upto_region 4 with (fail)
 refine rz [.n (b*b-4*(a*c)),.t] N2 [] E (fun hp=>⟨lI 0 hp J0 zw,zc hp zJh zi fun v w h=>zJs h HDB.out HQ.out,tv⟩) ?_
 intro w4 E _ _
 simp only [rzE] at E ⊢
 go_upto_region 5 with (fail)
 refine rz [.i 5] N2 [] E (fun hp=>⟨zS,tv⟩) ?_
 intro w5 E _ _
 simp only [rzE] at E ⊢
 clear HQ
 clear ha hb hc HDB
 go_wp2
 exact zR (v:=.int .i64 5) (by simp [results,Tryz.results100,go_sem]) E.below rfl

theorem zVn {w:World} {v:Value} {a b c:Int} (h:(f3 a b c).P v w) (ha:ab a<pw 40) (hb:ab b<pw 40) (hc:ab c<pw 40) (hD:ab (b*b-4*(a*c))<pw 40) (hq:sqB (b*b-4*(a*c))=false) (hd:(b*b-4*(a*c))<0) (hz:a<0) :
  Rt 100 #[v] w fun v' w'=>v'=.int .i64 1:=by
 replace ha:=hidd ha
 replace hb:=hidd hb
 replace hc:=hidd hc
 have HQ:=hidd hq
 clear hq
 have HDB:=hidd hD
 clear hD
 have T1:Hid (cmpI (b*b-4*(a*c)) 0<0):=cmpIqlt.2 hd
 clear hd
 have T2:Hid (cmpI a 0<0):=cmpIqlt.2 hz
 clear hz
 obtain ⟨y0_p0,y0_q0,y0_p1,y0_q1,y0_p2,y0_q2,rfl,hF0⟩:=o3 h
 obtain ⟨w1,b1,hw1,hb1,hs1,E⟩:=gS w 38 hF0
 go_enter Tryz.func100,Tryz.ntmps100
 go_upto_region 1 with (fail)
 rw [← hw1,← hb1]
 clear hw1 hb1 hs1
 refine rz [.p b1 0,.n a,.t,.o,.o,.p b1 2,.n b,.t,.o,.o,.o,.p b1 4,.n c,.t,.o,.o] [none] [] E (fun hp=>⟨qa b1 0 0 hp zw,lN 0 2 hp J0 zAa zi,zc hp zDs zi fun v w h=>zDv h,zo hp (sqi 2),zS,zg b1 0 2 hp zw,lG 2 2 hp gqi J0 zAa zi fun v w h=>zAe h,zc hp zDs zi (fun v w h=>zDv h),zo hp (sqi 7),zt hp (sqi 4) (sqi 8),zS,zg b1 0 4 hp zw,lG 4 2 hp gqi J0 zAa zi fun v w h=>zAe h,zc hp zDs zi (fun v w h=>zDv h),zo hp (sqi 13),zt hp (sqi 10) (sqi 14),tv⟩) ?_
 intro w2 E _ _
 simp only [rzE] at E ⊢
 go_upto_region 3 with (fail)
 refine rz [.w (f3 a b c),.n (b*b-4*(a*c)),.k,.a] [none] [⟨2,3,2,Fq.num 0,Fq.num (b*b-4*(a*c)),none⟩] E (fun hp=>⟨lS 0 6 hp J0 zAc zw,zc hp zGu zi fun v w h=>zG1 h (zu ha.out) (zu hb.out) (zu hc.out),aN hp J0,sN 1 hp J0,tv⟩) ?_
 intro w3 b3_2 E _ _
 simp only [rzE] at E ⊢
 go_upto_region 4 with (fail)
 refine rz [.n (b*b-4*(a*c)),.o] N2 [] E (fun hp=>⟨lI 0 hp J0 zw,zc hp zJh zi fun v w h=>zJs h HDB.out HQ.out,tv⟩) ?_
 intro w4 E _ _
 simp only [rzE] at E ⊢
 go_upto_region 6 with (fail)
 refine rz [.n (b*b-4*(a*c)),.i (cmpI (b*b-4*(a*c)) 0),.t,.t,.p b1 0,.n a,.i (cmpI a 0),.t,.t] N2 [] E (fun hp=>⟨lI 0 hp J0 zw,zc hp zCo zi fun v w h=>zCp h,zO hp (sqi 1) T1.out,zS,zg b1 0 0 hp zw,lG 0 2 hp gqi J1 zAa zi fun v w h=>zAe h,zc hp zCo zi (fun v w h=>zCp h),zO hp (sqi 6) T2.out,zt hp (sqi 3) (sqi 7),tv⟩) ?_
 intro w5 E _ _
 simp only [rzE] at E ⊢
 go_upto_region 7 with (fail)
 refine rz [.i 1] N2 [] E (fun hp=>⟨zS,tv⟩) ?_
 intro w6 E _ _
 simp only [rzE] at E ⊢
 clear HQ T1 T2
 clear ha hb hc HDB
 go_wp2
 exact zR (v:=.int .i64 1) (by simp [results,Tryz.results100,go_sem]) E.below rfl

theorem zVl {w:World} {v:Value} {a b c:Int} (h:(f3 a b c).P v w) (ha:ab a<pw 40) (hb:ab b<pw 40) (hc:ab c<pw 40) (hD:ab (b*b-4*(a*c))<pw 40) (hq:sqB (b*b-4*(a*c))=false) (hd:(b*b-4*(a*c))<0) (hz:¬ a<0) :
  Rt 100 #[v] w fun v' w'=>v'=.int .i64 0:=by
 replace ha:=hidd ha
 replace hb:=hidd hb
 replace hc:=hidd hc
 have HQ:=hidd hq
 clear hq
 have HDB:=hidd hD
 clear hD
 have T1:Hid (cmpI (b*b-4*(a*c)) 0<0):=cmpIqlt.2 hd
 clear hd
 have T2:Hid (¬ cmpI a 0<0):=fun e=>hz (cmpIqlt.1 e)
 clear hz
 obtain ⟨y0_p0,y0_q0,y0_p1,y0_q1,y0_p2,y0_q2,rfl,hF0⟩:=o3 h
 obtain ⟨w1,b1,hw1,hb1,hs1,E⟩:=gS w 38 hF0
 go_enter Tryz.func100,Tryz.ntmps100
 go_upto_region 1 with (fail)
 rw [← hw1,← hb1]
 clear hw1 hb1 hs1
 refine rz [.p b1 0,.n a,.t,.o,.o,.p b1 2,.n b,.t,.o,.o,.o,.p b1 4,.n c,.t,.o,.o] [none] [] E (fun hp=>⟨qa b1 0 0 hp zw,lN 0 2 hp J0 zAa zi,zc hp zDs zi fun v w h=>zDv h,zo hp (sqi 2),zS,zg b1 0 2 hp zw,lG 2 2 hp gqi J0 zAa zi fun v w h=>zAe h,zc hp zDs zi (fun v w h=>zDv h),zo hp (sqi 7),zt hp (sqi 4) (sqi 8),zS,zg b1 0 4 hp zw,lG 4 2 hp gqi J0 zAa zi fun v w h=>zAe h,zc hp zDs zi (fun v w h=>zDv h),zo hp (sqi 13),zt hp (sqi 10) (sqi 14),tv⟩) ?_
 intro w2 E _ _
 simp only [rzE] at E ⊢
 go_upto_region 3 with (fail)
 refine rz [.w (f3 a b c),.n (b*b-4*(a*c)),.k,.a] [none] [⟨2,3,2,Fq.num 0,Fq.num (b*b-4*(a*c)),none⟩] E (fun hp=>⟨lS 0 6 hp J0 zAc zw,zc hp zGu zi fun v w h=>zG1 h (zu ha.out) (zu hb.out) (zu hc.out),aN hp J0,sN 1 hp J0,tv⟩) ?_
 intro w3 b3_2 E _ _
 simp only [rzE] at E ⊢
 go_upto_region 4 with (fail)
 refine rz [.n (b*b-4*(a*c)),.o] N2 [] E (fun hp=>⟨lI 0 hp J0 zw,zc hp zJh zi fun v w h=>zJs h HDB.out HQ.out,tv⟩) ?_
 intro w4 E _ _
 simp only [rzE] at E ⊢
 go_upto_region 6 with (fail)
 refine rz [.n (b*b-4*(a*c)),.i (cmpI (b*b-4*(a*c)) 0),.t,.t,.p b1 0,.n a,.i (cmpI a 0),.o,.o] N2 [] E (fun hp=>⟨lI 0 hp J0 zw,zc hp zCo zi fun v w h=>zCp h,zO hp (sqi 1) T1.out,zS,zg b1 0 0 hp zw,lG 0 2 hp gqi J1 zAa zi fun v w h=>zAe h,zc hp zCo zi (fun v w h=>zCp h),zO hp (sqi 6) T2.out,zt hp (sqi 3) (sqi 7),tv⟩) ?_
 intro w5 E _ _
 simp only [rzE] at E ⊢
 go_upto_region 8 with (fail)
 refine rz [.i 0] N2 [] E (fun hp=>⟨zS,tv⟩) ?_
 intro w6 E _ _
 simp only [rzE] at E ⊢
 clear HQ T1 T2
 clear ha hb hc HDB
 go_wp2
 exact zR (v:=.int .i64 0) (by simp [results,Tryz.results100,go_sem]) E.below rfl

theorem zVm {w:World} {v:Value} {a b c:Int} (h:(f3 a b c).P v w) (ha:ab a<pw 40) (hb:ab b<pw 40) (hc:ab c<pw 40) (hD:ab (b*b-4*(a*c))<pw 40) (hq:sqB (b*b-4*(a*c))=false) (hd:¬ (b*b-4*(a*c))<0) :
  Rt 100 #[v] w fun v' w'=>v'=.int .i64 0:=by
 replace ha:=hidd ha
 replace hb:=hidd hb
 replace hc:=hidd hc
 have HQ:=hidd hq
 clear hq
 have HDB:=hidd hD
 clear hD
 have T1:Hid (¬ cmpI (b*b-4*(a*c)) 0<0):=fun e=>hd (cmpIqlt.1 e)
 clear hd
 obtain ⟨y0_p0,y0_q0,y0_p1,y0_q1,y0_p2,y0_q2,rfl,hF0⟩:=o3 h
 obtain ⟨w1,b1,hw1,hb1,hs1,E⟩:=gS w 38 hF0
 go_enter Tryz.func100,Tryz.ntmps100
 go_upto_region 1 with (fail)
 rw [← hw1,← hb1]
 clear hw1 hb1 hs1
 refine rz [.p b1 0,.n a,.t,.o,.o,.p b1 2,.n b,.t,.o,.o,.o,.p b1 4,.n c,.t,.o,.o] [none] [] E (fun hp=>⟨qa b1 0 0 hp zw,lN 0 2 hp J0 zAa zi,zc hp zDs zi fun v w h=>zDv h,zo hp (sqi 2),zS,zg b1 0 2 hp zw,lG 2 2 hp gqi J0 zAa zi fun v w h=>zAe h,zc hp zDs zi (fun v w h=>zDv h),zo hp (sqi 7),zt hp (sqi 4) (sqi 8),zS,zg b1 0 4 hp zw,lG 4 2 hp gqi J0 zAa zi fun v w h=>zAe h,zc hp zDs zi (fun v w h=>zDv h),zo hp (sqi 13),zt hp (sqi 10) (sqi 14),tv⟩) ?_
 intro w2 E _ _
 simp only [rzE] at E ⊢
 go_upto_region 3 with (fail)
 refine rz [.w (f3 a b c),.n (b*b-4*(a*c)),.k,.a] [none] [⟨2,3,2,Fq.num 0,Fq.num (b*b-4*(a*c)),none⟩] E (fun hp=>⟨lS 0 6 hp J0 zAc zw,zc hp zGu zi fun v w h=>zG1 h (zu ha.out) (zu hb.out) (zu hc.out),aN hp J0,sN 1 hp J0,tv⟩) ?_
 intro w3 b3_2 E _ _
 simp only [rzE] at E ⊢
 go_upto_region 4 with (fail)
 refine rz [.n (b*b-4*(a*c)),.o] N2 [] E (fun hp=>⟨lI 0 hp J0 zw,zc hp zJh zi fun v w h=>zJs h HDB.out HQ.out,tv⟩) ?_
 intro w4 E _ _
 simp only [rzE] at E ⊢
 go_upto_region 6 with (fail)
 refine rz [.n (b*b-4*(a*c)),.i (cmpI (b*b-4*(a*c)) 0),.o,.o,.u (undef),.u (undef),.u (undef),.u (undef),.o] N2 [] E (fun hp=>⟨lI 0 hp J0 zw,zc hp zCo zi fun v w h=>zCp h,zO hp (sqi 1) T1.out,zS,zS,zS,zS,zS,zt hp (sqi 3) (zk (.bool false)),tv⟩) ?_
 intro w5 E _ _
 simp only [rzE] at E ⊢
 go_upto_region 8 with (fail)
 refine rz [.i 0] N2 [] E (fun hp=>⟨zS,tv⟩) ?_
 intro w6 E _ _
 simp only [rzE] at E ⊢
 clear HQ T1
 clear ha hb hc HDB
 go_wp2
 exact zR (v:=.int .i64 0) (by simp [results,Tryz.results100,go_sem]) E.below rfl

theorem zJr {w:World} {v:Value} {a b c:Int} (h:(f3 a b c).P v w) (ha:ab a<pw 40) (hb:ab b<pw 40) (hc:ab c<pw 40) (hD:ab (b*b-4*(a*c))<pw 40) {e0:Int} (he:chkF a b c=e0) :
  Rt 100 #[v] w fun v' w'=>v'=.int .i64 e0:=by
 subst he
 unfold chkF
 cases hq:sqB (b*b-4*(a*c)) with
 | true=>rw [if_pos rfl];exact zVo h ha hb hc hD hq
 | false=>
  rw [if_neg zd]
  by_cases hd:(b*b-4*(a*c))<0
  ·by_cases hz:a<0
   ·rw [if_pos ⟨hd,hz⟩];exact zVn h ha hb hc hD hq hd hz
   ·rw [if_neg fun x=>hz x.2];exact zVl h ha hb hc hD hq hd hz
  ·rw [if_neg fun x=>hd x.1];exact zVm h ha hb hc hD hq hd

theorem zVt {w:World} {v:Value} {a b c:Int} (h:(f3 a b c).P v w) (ha:ab a<pw 40) (hb:ab b<pw 40) (hc:ab c<pw 40) (hD:ab (b*b-4*(a*c))<pw 40) (hd:(b*b-4*(a*c))<0) (hz:¬ a<0) {t:Bool} (ht:dfB a b c=t) :
  Rt 130 #[v] w fun v' w'=>v'=.bool t:=by
 replace ha:=hidd ha
 replace hb:=hidd hb
 replace hc:=hidd hc
 have HC:=hidd (zK5 hd hz)
 have HDB:=hidd hD
 clear hD
 have ht2:t=true:=ht.symm.trans (by unfold dfB;exact decide_eq_true zm)
 subst ht2
 clear ht
 have T1:Hid (cmpI (b*b-4*(a*c)) 0<0):=cmpIqlt.2 hd
 clear hd hz
 obtain ⟨y0_p0,y0_q0,y0_p1,y0_q1,y0_p2,y0_q2,rfl,hF0⟩:=o3 h
 obtain ⟨w1,b1,hw1,hb1,hs1,E⟩:=gS w 38 hF0
 go_enter Tryz.func130,Tryz.ntmps130
 go_upto_region 1 with (fail)
 rw [← hw1,← hb1]
 clear hw1 hb1 hs1
 refine rz [.w (f3 a b c),.i 0,.t,.t,.w (f3 a b c),.n (b*b-4*(a*c)),.i (cmpI (b*b-4*(a*c)) 0),.t,.t,.t] [none] [] E (fun hp=>⟨lS 0 6 hp J0 zAc zw,zc hp zJg zi fun v w h=>zJr h ha.out hb.out hc.out HDB.out HC.out,zo hp (sqi 1),zS,lG 0 6 hp gqi J0 zAc zw fun v w h=>h,zc hp zGu zi (fun v w h=>zG1 h (zu ha.out) (zu hb.out) (zu hc.out)),zc hp zCo zi (fun v w h=>zCp h),zO hp (sqi 6) T1.out,zt hp (sqi 3) (sqi 7),zS,tv⟩) ?_
 intro w2 E _ _
 simp only [rzE] at E ⊢
 clear HC T1
 clear ha hb hc HDB
 go_wp2
 exact zR (v:=.bool true) (by simp [results,Tryz.results130,go_sem]) E.below rfl

theorem zVr {w:World} {v:Value} {a b c:Int} (h:(f3 a b c).P v w) (ha:ab a<pw 40) (hb:ab b<pw 40) (hc:ab c<pw 40) (hD:ab (b*b-4*(a*c))<pw 40) (hd:(b*b-4*(a*c))<0) (hz:a<0) {t:Bool} (ht:dfB a b c=t) :
  Rt 130 #[v] w fun v' w'=>v'=.bool t:=by
 replace ha:=hidd ha
 replace hb:=hidd hb
 replace hc:=hidd hc
 have HC:=hidd (zN9 hd hz)
 have HDB:=hidd hD
 clear hD
 have ht2:t=false:=ht.symm.trans (by unfold dfB;exact decide_eq_false zm)
 subst ht2
 clear ht
 clear hd hz
 obtain ⟨y0_p0,y0_q0,y0_p1,y0_q1,y0_p2,y0_q2,rfl,hF0⟩:=o3 h
 obtain ⟨w1,b1,hw1,hb1,hs1,E⟩:=gS w 38 hF0
 go_enter Tryz.func130,Tryz.ntmps130
 go_upto_region 1 with (fail)
 rw [← hw1,← hb1]
 clear hw1 hb1 hs1
 refine rz [.w (f3 a b c),.i 1,.o,.o,.u (undef),.u (undef),.u (undef),.u (undef),.o,.o] [none] [] E (fun hp=>⟨lS 0 6 hp J0 zAc zw,zc hp zJg zi fun v w h=>zJr h ha.out hb.out hc.out HDB.out HC.out,zo hp (sqi 1),zS,zS,zS,zS,zS,zt hp (sqi 3) (zk (.bool false)),zS,tv⟩) ?_
 intro w2 E _ _
 simp only [rzE] at E ⊢
 clear HC
 clear ha hb hc HDB
 go_wp2
 exact zR (v:=.bool false) (by simp [results,Tryz.results130,go_sem]) E.below rfl

theorem zVs {w:World} {v:Value} {a b c:Int} (h:(f3 a b c).P v w) (ha:ab a<pw 40) (hb:ab b<pw 40) (hc:ab c<pw 40) (hD:ab (b*b-4*(a*c))<pw 40) (hd:¬ (b*b-4*(a*c))<0) (hz:sqB (b*b-4*(a*c))=true) {t:Bool} (ht:dfB a b c=t) :
  Rt 130 #[v] w fun v' w'=>v'=.bool t:=by
 replace ha:=hidd ha
 replace hb:=hidd hb
 replace hc:=hidd hc
 have HC:=hidd ((zK6 hd).trans (if_pos hz))
 have HDB:=hidd hD
 clear hD
 have ht2:t=false:=ht.symm.trans (by unfold dfB;exact decide_eq_false zm)
 subst ht2
 clear ht
 clear hd hz
 obtain ⟨y0_p0,y0_q0,y0_p1,y0_q1,y0_p2,y0_q2,rfl,hF0⟩:=o3 h
 obtain ⟨w1,b1,hw1,hb1,hs1,E⟩:=gS w 38 hF0
 go_enter Tryz.func130,Tryz.ntmps130
 go_upto_region 1 with (fail)
 rw [← hw1,← hb1]
 clear hw1 hb1 hs1
 refine rz [.w (f3 a b c),.i 5,.o,.o,.u (undef),.u (undef),.u (undef),.u (undef),.o,.o] [none] [] E (fun hp=>⟨lS 0 6 hp J0 zAc zw,zc hp zJg zi fun v w h=>zJr h ha.out hb.out hc.out HDB.out HC.out,zo hp (sqi 1),zS,zS,zS,zS,zS,zt hp (sqi 3) (zk (.bool false)),zS,tv⟩) ?_
 intro w2 E _ _
 simp only [rzE] at E ⊢
 clear HC
 clear ha hb hc HDB
 go_wp2
 exact zR (v:=.bool false) (by simp [results,Tryz.results130,go_sem]) E.below rfl

theorem zVq {w:World} {v:Value} {a b c:Int} (h:(f3 a b c).P v w) (ha:ab a<pw 40) (hb:ab b<pw 40) (hc:ab c<pw 40) (hD:ab (b*b-4*(a*c))<pw 40) (hd:¬ (b*b-4*(a*c))<0) (hz:¬ sqB (b*b-4*(a*c))=true) {t:Bool} (ht:dfB a b c=t) :
  Rt 130 #[v] w fun v' w'=>v'=.bool t:=by
 replace ha:=hidd ha
 replace hb:=hidd hb
 replace hc:=hidd hc
 have HC:=hidd ((zK6 hd).trans (if_neg hz))
 have HDB:=hidd hD
 clear hD
 have ht2:t=false:=ht.symm.trans (by unfold dfB;exact decide_eq_false zm)
 subst ht2
 clear ht
 have T1:Hid (¬ cmpI (b*b-4*(a*c)) 0<0):=fun e=>hd (cmpIqlt.1 e)
 clear hd hz
 obtain ⟨y0_p0,y0_q0,y0_p1,y0_q1,y0_p2,y0_q2,rfl,hF0⟩:=o3 h
 obtain ⟨w1,b1,hw1,hb1,hs1,E⟩:=gS w 38 hF0
 go_enter Tryz.func130,Tryz.ntmps130
 go_upto_region 1 with (fail)
 rw [← hw1,← hb1]
 clear hw1 hb1 hs1
 refine rz [.w (f3 a b c),.i 0,.t,.t,.w (f3 a b c),.n (b*b-4*(a*c)),.i (cmpI (b*b-4*(a*c)) 0),.o,.o,.o] [none] [] E (fun hp=>⟨lS 0 6 hp J0 zAc zw,zc hp zJg zi fun v w h=>zJr h ha.out hb.out hc.out HDB.out HC.out,zo hp (sqi 1),zS,lG 0 6 hp gqi J0 zAc zw fun v w h=>h,zc hp zGu zi (fun v w h=>zG1 h (zu ha.out) (zu hb.out) (zu hc.out)),zc hp zCo zi (fun v w h=>zCp h),zO hp (sqi 6) T1.out,zt hp (sqi 3) (sqi 7),zS,tv⟩) ?_
 intro w2 E _ _
 simp only [rzE] at E ⊢
 clear HC T1
 clear ha hb hc HDB
 go_wp2
 exact zR (v:=.bool false) (by simp [results,Tryz.results130,go_sem]) E.below rfl

theorem zEa {w:World} {v:Value} {a b c:Int} (h:(f3 a b c).P v w) (ha:ab a<pw 40) (hb:ab b<pw 40) (hc:ab c<pw 40) (hD:ab (b*b-4*(a*c))<pw 40) {t:Bool} (ht:dfB a b c=t) :
  Rt 130 #[v] w fun v' w'=>v'=.bool t:=by
 by_cases hd:(b*b-4*(a*c))<0
 ·by_cases hz:a<0
  ·exact zVr h ha hb hc hD hd hz ht
  ·exact zVt h ha hb hc hD hd hz ht
 ·by_cases hz:sqB (b*b-4*(a*c))=true
  ·exact zVs h ha hb hc hD hd hz ht
  ·exact zVq h ha hb hc hD hd hz ht

theorem exQRed_no {w:World} {v:Value} {a b c:Int} (h:(f3 a b c).P v w) (ha:ab a<pw 40) (hb:ab b<pw 40) (hc:ab c<pw 40) (hD:ab (b*b-4*(a*c))<pw 40) (hdf:dfB a b c=false) {t:Bool} (ht:(dfB a b c && redB a b c)=t) :
  Rt 94 #[v] w fun v' w'=>v'=.bool t:=by
 replace ha:=hidd ha
 replace hb:=hidd hb
 replace hc:=hidd hc
 have ht2:t=false:=ht.symm.trans (by rw [hdf];rfl)
 subst ht2
 clear ht
 have HD:=hidd hdf
 clear hdf
 have HDB:=hidd hD
 clear hD
 obtain ⟨y0_p0,y0_q0,y0_p1,y0_q1,y0_p2,y0_q2,rfl,hF0⟩:=o3 h
 obtain ⟨w1,b1,hw1,hb1,hs1,E⟩:=gS w 38 hF0
 go_enter Tryz.func94,Tryz.ntmps94
 go_upto_region 1 with (fail)
 rw [← hw1,← hb1]
 clear hw1 hb1 hs1
 refine rz [.w (f3 a b c),.o,.t,.t,.u (undef),.u (undef),.u (undef),.u (undef),.u (undef),.u (undef),.u (undef),.t,.t,.u (undef),.u (undef),.u (undef),.u (undef),.u (undef),.u (undef),.t] [none] [] E (fun hp=>⟨lS 0 6 hp J0 zAc zw,zc hp zD8 zi fun v w h=>zEa h ha.out hb.out hc.out HDB.out HD.out,zo hp (sqi 1),zS,zS,zS,zS,zS,zS,zS,zS,zt hp (sqi 3) (zk (.bool true)),zS,zS,zS,zS,zS,zS,zS,zt hp (sqi 12) (zk (.bool true)),tv⟩) ?_
 intro w2 E _ _
 simp only [rzE] at E ⊢
 go_upto_region 2 with (fail)
 refine rz [.o] [none] [] E (fun hp=>⟨zS,tv⟩) ?_
 intro w3 E _ _
 simp only [rzE] at E ⊢
 clear HD
 clear ha hb hc HDB
 go_wp2
 exact zR (v:=.bool false) (by simp [results,Tryz.results94,go_sem]) E.below rfl

theorem exQRed_b {w:World} {v:Value} {a b c:Int} (h:(f3 a b c).P v w) (ha:ab a<pw 40) (hb:ab b<pw 40) (hc:ab c<pw 40) (hD:ab (b*b-4*(a*c))<pw 40) (hdf:dfB a b c=true) (hx:a<(Int.natAbs b:Int)) {t:Bool} (ht:(dfB a b c && redB a b c)=t) :
  Rt 94 #[v] w fun v' w'=>v'=.bool t:=by
 replace ha:=hidd ha
 replace hb:=hidd hb
 replace hc:=hidd hc
 have ht2:t=false:=ht.symm.trans (by rw [hdf,Bool.true_and];unfold redB;exact decide_eq_false zm)
 subst ht2
 clear ht
 have HD:=hidd hdf
 clear hdf
 have HDB:=hidd hD
 clear hD
 have T1:Hid (0<cmpI (Int.natAbs b:Int) a):=cmpIqgt.2 hx
 clear hx
 skip
 obtain ⟨y0_p0,y0_q0,y0_p1,y0_q1,y0_p2,y0_q2,rfl,hF0⟩:=o3 h
 obtain ⟨w1,b1,hw1,hb1,hs1,E⟩:=gS w 38 hF0
 go_enter Tryz.func94,Tryz.ntmps94
 go_upto_region 1 with (fail)
 rw [← hw1,← hb1]
 clear hw1 hb1 hs1
 have B2:Hid (ab ((Int.natAbs b:Int))<pw 40):=zBk hb.out
 refine rz [.w (f3 a b c),.t,.o,.o,.p b1 2,.n b,.n (Int.natAbs b:Int),.p b1 0,.n a,.i (cmpI (Int.natAbs b:Int) a),.t,.t,.t,.u (undef),.u (undef),.u (undef),.u (undef),.u (undef),.u (undef),.t] [none] [] E (fun hp=>⟨lS 0 6 hp J0 zAc zw,zc hp zD8 zi fun v w h=>zEa h ha.out hb.out hc.out HDB.out HD.out,zo hp (sqi 1),zS,zg b1 0 2 hp zw,lG 2 2 hp gqi J0 zAa zi fun v w h=>zAe h,zc hp zB9 zi (fun v w h=>exK (zB4 h) B2.out zm),zg b1 0 0 hp zw,lG 0 2 hp gqi J0 zAa zi fun v w h=>zAe h,zC hp zBg zi zi (fun v v' w h h'=>zBh h h'),zO hp (sqi 9) T1.out,zt hp (sqi 3) (sqi 10),zS,zS,zS,zS,zS,zS,zS,zt hp (sqi 12) (zk (.bool true)),tv⟩) ?_
 intro w3 E _ _
 simp only [rzE] at E ⊢
 go_upto_region 2 with (fail)
 refine rz [.o] [none] [] E (fun hp=>⟨zS,tv⟩) ?_
 intro w4 E _ _
 simp only [rzE] at E ⊢
 clear HD T1
 clear B2 ha hb hc HDB
 go_wp2
 exact zR (v:=.bool false) (by simp [results,Tryz.results94,go_sem]) E.below rfl

theorem exQRed_c {w:World} {v:Value} {a b c:Int} (h:(f3 a b c).P v w) (ha:ab a<pw 40) (hb:ab b<pw 40) (hc:ab c<pw 40) (hD:ab (b*b-4*(a*c))<pw 40) (hdf:dfB a b c=true) (hx:¬ a<(Int.natAbs b:Int)) (hy:¬ a≤c) {t:Bool} (ht:(dfB a b c && redB a b c)=t) :
  Rt 94 #[v] w fun v' w'=>v'=.bool t:=by
 replace ha:=hidd ha
 replace hb:=hidd hb
 replace hc:=hidd hc
 have ht2:t=false:=ht.symm.trans (by rw [hdf,Bool.true_and];unfold redB;exact decide_eq_false zm)
 subst ht2
 clear ht
 have HD:=hidd hdf
 clear hdf
 have HDB:=hidd hD
 clear hD
 have T1:Hid (¬ 0<cmpI (Int.natAbs b:Int) a):=fun e=>by have:=cmpIqgt.1 e;omega
 have T2:Hid (0<cmpI a c):=cmpIqgt.2 zm
 clear hx hy
 obtain ⟨y0_p0,y0_q0,y0_p1,y0_q1,y0_p2,y0_q2,rfl,hF0⟩:=o3 h
 obtain ⟨w1,b1,hw1,hb1,hs1,E⟩:=gS w 38 hF0
 go_enter Tryz.func94,Tryz.ntmps94
 go_upto_region 1 with (fail)
 rw [← hw1,← hb1]
 clear hw1 hb1 hs1
 have B2:Hid (ab ((Int.natAbs b:Int))<pw 40):=zBk hb.out
 refine rz [.w (f3 a b c),.t,.o,.o,.p b1 2,.n b,.n (Int.natAbs b:Int),.p b1 0,.n a,.i (cmpI (Int.natAbs b:Int) a),.o,.o,.o,.p b1 0,.n a,.p b1 4,.n c,.i (cmpI a c),.t,.t] [none] [] E (fun hp=>⟨lS 0 6 hp J0 zAc zw,zc hp zD8 zi fun v w h=>zEa h ha.out hb.out hc.out HDB.out HD.out,zo hp (sqi 1),zS,zg b1 0 2 hp zw,lG 2 2 hp gqi J0 zAa zi fun v w h=>zAe h,zc hp zB9 zi (fun v w h=>exK (zB4 h) B2.out zm),zg b1 0 0 hp zw,lG 0 2 hp gqi J0 zAa zi fun v w h=>zAe h,zC hp zBg zi zi (fun v v' w h h'=>zBh h h'),zO hp (sqi 9) T1.out,zt hp (sqi 3) (sqi 10),zS,zg b1 0 0 hp zw,lG 0 2 hp gqi J0 zAa zi fun v w h=>zAe h,zg b1 0 4 hp zw,lG 4 2 hp gqi J0 zAa zi fun v w h=>zAe h,zC hp zBg zi zi (fun v v' w h h'=>zBh h h'),zO hp (sqi 17) T2.out,zt hp (sqi 12) (sqi 18),tv⟩) ?_
 intro w3 E _ _
 simp only [rzE] at E ⊢
 go_upto_region 2 with (fail)
 refine rz [.o] [none] [] E (fun hp=>⟨zS,tv⟩) ?_
 intro w4 E _ _
 simp only [rzE] at E ⊢
 clear HD T1 T2
 clear B2 ha hb hc HDB
 go_wp2
 exact zR (v:=.bool false) (by simp [results,Tryz.results94,go_sem]) E.below rfl

theorem zVu {w:World} {v:Value} {a b c:Int} (h:(f3 a b c).P v w) (ha:ab a<pw 40) (hb:ab b<pw 40) (hc:ab c<pw 40) (hD:ab (b*b-4*(a*c))<pw 40) (hdf:dfB a b c=true) (hx:¬ a<(Int.natAbs b:Int)) (hy:a≤c) (k0:¬ (Int.natAbs b:Int)=a) (k1:¬ a=c) (k2:¬ 0≤b) {t:Bool} (ht:(dfB a b c && redB a b c)=t) :
  Rt 94 #[v] w fun v' w'=>v'=.bool t:=by
 replace ha:=hidd ha
 replace hb:=hidd hb
 replace hc:=hidd hc
 have ht2:t=true:=ht.symm.trans (by rw [hdf,Bool.true_and];unfold redB;exact decide_eq_true zm)
 subst ht2
 clear ht
 have HD:=hidd hdf
 clear hdf
 have HDB:=hidd hD
 clear hD
 have T1:Hid (¬ 0<cmpI (Int.natAbs b:Int) a):=fun e=>by have:=cmpIqgt.1 e;omega
 have T2:Hid (¬ 0<cmpI a c):=fun e=>by have:=cmpIqgt.1 e;omega
 have T3:Hid (¬ cmpI (Int.natAbs b:Int) a=0):=fun e=>k0 (cmpIq0.1 e)
 have T4:Hid (¬ cmpI a c=0):=fun e=>k1 (cmpIq0.1 e)
 have T5:Hid (¬ 0≤cmpI b 0):=by have:=cmpIqlt.2 (show b<0 by omega);show ¬ _≤_;omega
 clear k0 k1 k2
 clear hx hy
 obtain ⟨y0_p0,y0_q0,y0_p1,y0_q1,y0_p2,y0_q2,rfl,hF0⟩:=o3 h
 obtain ⟨w1,b1,hw1,hb1,hs1,E⟩:=gS w 38 hF0
 go_enter Tryz.func94,Tryz.ntmps94
 go_upto_region 1 with (fail)
 rw [← hw1,← hb1]
 clear hw1 hb1 hs1
 have B2:Hid (ab ((Int.natAbs b:Int))<pw 40):=zBk hb.out
 refine rz [.w (f3 a b c),.t,.o,.o,.p b1 2,.n b,.n (Int.natAbs b:Int),.p b1 0,.n a,.i (cmpI (Int.natAbs b:Int) a),.o,.o,.o,.p b1 0,.n a,.p b1 4,.n c,.i (cmpI a c),.o,.o] [none] [] E (fun hp=>⟨lS 0 6 hp J0 zAc zw,zc hp zD8 zi fun v w h=>zEa h ha.out hb.out hc.out HDB.out HD.out,zo hp (sqi 1),zS,zg b1 0 2 hp zw,lG 2 2 hp gqi J0 zAa zi fun v w h=>zAe h,zc hp zB9 zi (fun v w h=>exK (zB4 h) B2.out zm),zg b1 0 0 hp zw,lG 0 2 hp gqi J0 zAa zi fun v w h=>zAe h,zC hp zBg zi zi (fun v v' w h h'=>zBh h h'),zO hp (sqi 9) T1.out,zt hp (sqi 3) (sqi 10),zS,zg b1 0 0 hp zw,lG 0 2 hp gqi J0 zAa zi fun v w h=>zAe h,zg b1 0 4 hp zw,lG 4 2 hp gqi J0 zAa zi fun v w h=>zAe h,zC hp zBg zi zi (fun v v' w h h'=>zBh h h'),zO hp (sqi 17) T2.out,zt hp (sqi 12) (sqi 18),tv⟩) ?_
 intro w3 E _ _
 simp only [rzE] at E ⊢
 go_upto_region 3 with (fail)
 refine rz [.p b1 2,.n b,.n (Int.natAbs b:Int),.p b1 0,.n a,.i (cmpI (Int.natAbs b:Int) a),.o,.o,.p b1 0,.n a,.p b1 4,.n c,.i (cmpI a c),.o,.o,.o] [none] [] E (fun hp=>⟨qa b1 0 2 hp zw,lN 2 2 hp J0 zAa zi,zc hp zB9 zi fun v w h=>exK (zB4 h) B2.out zm,qa b1 0 0 hp zw,lN 0 2 hp J0 zAa zi,zC hp zBg zi zi fun v v' w h h'=>zBh h h',zO hp (sqi 5) T3.out,zS,zg b1 0 0 hp zw,lG 0 2 hp gqi J0 zAa zi fun v w h=>zAe h,zg b1 0 4 hp zw,lG 4 2 hp gqi J0 zAa zi fun v w h=>zAe h,zC hp zBg zi zi (fun v v' w h h'=>zBh h h'),zO hp (sqi 12) T4.out,zt hp (sqi 7) (sqi 13),zS,tv⟩) ?_
 intro w4 E _ _
 simp only [rzE] at E ⊢
 go_upto_region 4 with (fail)
 refine rz [.o,.t,.t,.u (undef),.u (undef),.u (undef),.u (undef),.t,.t] [none] [] E (fun hp=>⟨zS,zo hp (sqi 0),zS,zS,zS,zS,zS,zt hp (sqi 2) (zk (.bool true)),zS,tv⟩) ?_
 intro w5 E _ _
 simp only [rzE] at E ⊢
 clear HD T1 T2 T3 T4 T5
 clear B2 ha hb hc HDB
 go_wp2
 exact zR (v:=.bool true) (by simp [results,Tryz.results94,go_sem]) E.below rfl

theorem zVv {w:World} {v:Value} {a b c:Int} (h:(f3 a b c).P v w) (ha:ab a<pw 40) (hb:ab b<pw 40) (hc:ab c<pw 40) (hD:ab (b*b-4*(a*c))<pw 40) (hdf:dfB a b c=true) (hx:¬ a<(Int.natAbs b:Int)) (hy:a≤c) (k0:¬ (Int.natAbs b:Int)=a) (k1:¬ a=c) (k2:0≤b) {t:Bool} (ht:(dfB a b c && redB a b c)=t) :
  Rt 94 #[v] w fun v' w'=>v'=.bool t:=by
 replace ha:=hidd ha
 replace hb:=hidd hb
 replace hc:=hidd hc
 have ht2:t=true:=ht.symm.trans (by rw [hdf,Bool.true_and];unfold redB;exact decide_eq_true zm)
 subst ht2
 clear ht
 have HD:=hidd hdf
 clear hdf
 have HDB:=hidd hD
 clear hD
 have T1:Hid (¬ 0<cmpI (Int.natAbs b:Int) a):=fun e=>by have:=cmpIqgt.1 e;omega
 have T2:Hid (¬ 0<cmpI a c):=fun e=>by have:=cmpIqgt.1 e;omega
 have T3:Hid (¬ cmpI (Int.natAbs b:Int) a=0):=fun e=>k0 (cmpIq0.1 e)
 have T4:Hid (¬ cmpI a c=0):=fun e=>k1 (cmpIq0.1 e)
 have T5:Hid (0≤cmpI b 0):=by have:=mt cmpIqlt.1 (show ¬ b<0 by omega);show _≤_;omega
 clear k0 k1 k2
 clear hx hy
 obtain ⟨y0_p0,y0_q0,y0_p1,y0_q1,y0_p2,y0_q2,rfl,hF0⟩:=o3 h
 obtain ⟨w1,b1,hw1,hb1,hs1,E⟩:=gS w 38 hF0
 go_enter Tryz.func94,Tryz.ntmps94
 go_upto_region 1 with (fail)
 rw [← hw1,← hb1]
 clear hw1 hb1 hs1
 have B2:Hid (ab ((Int.natAbs b:Int))<pw 40):=zBk hb.out
 refine rz [.w (f3 a b c),.t,.o,.o,.p b1 2,.n b,.n (Int.natAbs b:Int),.p b1 0,.n a,.i (cmpI (Int.natAbs b:Int) a),.o,.o,.o,.p b1 0,.n a,.p b1 4,.n c,.i (cmpI a c),.o,.o] [none] [] E (fun hp=>⟨lS 0 6 hp J0 zAc zw,zc hp zD8 zi fun v w h=>zEa h ha.out hb.out hc.out HDB.out HD.out,zo hp (sqi 1),zS,zg b1 0 2 hp zw,lG 2 2 hp gqi J0 zAa zi fun v w h=>zAe h,zc hp zB9 zi (fun v w h=>exK (zB4 h) B2.out zm),zg b1 0 0 hp zw,lG 0 2 hp gqi J0 zAa zi fun v w h=>zAe h,zC hp zBg zi zi (fun v v' w h h'=>zBh h h'),zO hp (sqi 9) T1.out,zt hp (sqi 3) (sqi 10),zS,zg b1 0 0 hp zw,lG 0 2 hp gqi J0 zAa zi fun v w h=>zAe h,zg b1 0 4 hp zw,lG 4 2 hp gqi J0 zAa zi fun v w h=>zAe h,zC hp zBg zi zi (fun v v' w h h'=>zBh h h'),zO hp (sqi 17) T2.out,zt hp (sqi 12) (sqi 18),tv⟩) ?_
 intro w3 E _ _
 simp only [rzE] at E ⊢
 go_upto_region 3 with (fail)
 refine rz [.p b1 2,.n b,.n (Int.natAbs b:Int),.p b1 0,.n a,.i (cmpI (Int.natAbs b:Int) a),.o,.o,.p b1 0,.n a,.p b1 4,.n c,.i (cmpI a c),.o,.o,.o] [none] [] E (fun hp=>⟨qa b1 0 2 hp zw,lN 2 2 hp J0 zAa zi,zc hp zB9 zi fun v w h=>exK (zB4 h) B2.out zm,qa b1 0 0 hp zw,lN 0 2 hp J0 zAa zi,zC hp zBg zi zi fun v v' w h h'=>zBh h h',zO hp (sqi 5) T3.out,zS,zg b1 0 0 hp zw,lG 0 2 hp gqi J0 zAa zi fun v w h=>zAe h,zg b1 0 4 hp zw,lG 4 2 hp gqi J0 zAa zi fun v w h=>zAe h,zC hp zBg zi zi (fun v v' w h h'=>zBh h h'),zO hp (sqi 12) T4.out,zt hp (sqi 7) (sqi 13),zS,tv⟩) ?_
 intro w4 E _ _
 simp only [rzE] at E ⊢
 go_upto_region 4 with (fail)
 refine rz [.o,.t,.t,.u (undef),.u (undef),.u (undef),.u (undef),.t,.t] [none] [] E (fun hp=>⟨zS,zo hp (sqi 0),zS,zS,zS,zS,zS,zt hp (sqi 2) (zk (.bool true)),zS,tv⟩) ?_
 intro w5 E _ _
 simp only [rzE] at E ⊢
 clear HD T1 T2 T3 T4 T5
 clear B2 ha hb hc HDB
 go_wp2
 exact zR (v:=.bool true) (by simp [results,Tryz.results94,go_sem]) E.below rfl

theorem zVw {w:World} {v:Value} {a b c:Int} (h:(f3 a b c).P v w) (ha:ab a<pw 40) (hb:ab b<pw 40) (hc:ab c<pw 40) (hD:ab (b*b-4*(a*c))<pw 40) (hdf:dfB a b c=true) (hx:¬ a<(Int.natAbs b:Int)) (hy:a≤c) (k0:¬ (Int.natAbs b:Int)=a) (k1:a=c) (k2:¬ 0≤b) {t:Bool} (ht:(dfB a b c && redB a b c)=t) :
  Rt 94 #[v] w fun v' w'=>v'=.bool t:=by
 replace ha:=hidd ha
 replace hb:=hidd hb
 replace hc:=hidd hc
 have ht2:t=false:=ht.symm.trans (by rw [hdf,Bool.true_and];unfold redB;exact decide_eq_false zm)
 subst ht2
 clear ht
 have HD:=hidd hdf
 clear hdf
 have HDB:=hidd hD
 clear hD
 have T1:Hid (¬ 0<cmpI (Int.natAbs b:Int) a):=fun e=>by have:=cmpIqgt.1 e;omega
 have T2:Hid (¬ 0<cmpI a c):=fun e=>by have:=cmpIqgt.1 e;omega
 have T3:Hid (¬ cmpI (Int.natAbs b:Int) a=0):=fun e=>k0 (cmpIq0.1 e)
 have T4:Hid (cmpI a c=0):=cmpIq0.2 k1
 have T5:Hid (¬ 0≤cmpI b 0):=by have:=cmpIqlt.2 (show b<0 by omega);show ¬ _≤_;omega
 clear k0 k1 k2
 clear hx hy
 obtain ⟨y0_p0,y0_q0,y0_p1,y0_q1,y0_p2,y0_q2,rfl,hF0⟩:=o3 h
 obtain ⟨w1,b1,hw1,hb1,hs1,E⟩:=gS w 38 hF0
 go_enter Tryz.func94,Tryz.ntmps94
 go_upto_region 1 with (fail)
 rw [← hw1,← hb1]
 clear hw1 hb1 hs1
 have B2:Hid (ab ((Int.natAbs b:Int))<pw 40):=zBk hb.out
 refine rz [.w (f3 a b c),.t,.o,.o,.p b1 2,.n b,.n (Int.natAbs b:Int),.p b1 0,.n a,.i (cmpI (Int.natAbs b:Int) a),.o,.o,.o,.p b1 0,.n a,.p b1 4,.n c,.i (cmpI a c),.o,.o] [none] [] E (fun hp=>⟨lS 0 6 hp J0 zAc zw,zc hp zD8 zi fun v w h=>zEa h ha.out hb.out hc.out HDB.out HD.out,zo hp (sqi 1),zS,zg b1 0 2 hp zw,lG 2 2 hp gqi J0 zAa zi fun v w h=>zAe h,zc hp zB9 zi (fun v w h=>exK (zB4 h) B2.out zm),zg b1 0 0 hp zw,lG 0 2 hp gqi J0 zAa zi fun v w h=>zAe h,zC hp zBg zi zi (fun v v' w h h'=>zBh h h'),zO hp (sqi 9) T1.out,zt hp (sqi 3) (sqi 10),zS,zg b1 0 0 hp zw,lG 0 2 hp gqi J0 zAa zi fun v w h=>zAe h,zg b1 0 4 hp zw,lG 4 2 hp gqi J0 zAa zi fun v w h=>zAe h,zC hp zBg zi zi (fun v v' w h h'=>zBh h h'),zO hp (sqi 17) T2.out,zt hp (sqi 12) (sqi 18),tv⟩) ?_
 intro w3 E _ _
 simp only [rzE] at E ⊢
 go_upto_region 3 with (fail)
 refine rz [.p b1 2,.n b,.n (Int.natAbs b:Int),.p b1 0,.n a,.i (cmpI (Int.natAbs b:Int) a),.o,.o,.p b1 0,.n a,.p b1 4,.n c,.i (cmpI a c),.t,.t,.t] [none] [] E (fun hp=>⟨qa b1 0 2 hp zw,lN 2 2 hp J0 zAa zi,zc hp zB9 zi fun v w h=>exK (zB4 h) B2.out zm,qa b1 0 0 hp zw,lN 0 2 hp J0 zAa zi,zC hp zBg zi zi fun v v' w h h'=>zBh h h',zO hp (sqi 5) T3.out,zS,zg b1 0 0 hp zw,lG 0 2 hp gqi J0 zAa zi fun v w h=>zAe h,zg b1 0 4 hp zw,lG 4 2 hp gqi J0 zAa zi fun v w h=>zAe h,zC hp zBg zi zi (fun v v' w h h'=>zBh h h'),zO hp (sqi 12) T4.out,zt hp (sqi 7) (sqi 13),zS,tv⟩) ?_
 intro w4 E _ _
 simp only [rzE] at E ⊢
 go_upto_region 4 with (fail)
 refine rz [.t,.o,.o,.p b1 2,.n b,.i (cmpI b 0),.o,.o,.o] [none] [] E (fun hp=>⟨zS,zo hp (sqi 0),zS,zg b1 0 2 hp zw,lG 2 2 hp gqi J0 zAa zi fun v w h=>zAe h,zc hp zCo zi (fun v w h=>zCp h),zO hp (sqi 5) T5.out,zt hp (sqi 2) (sqi 6),zS,tv⟩) ?_
 intro w5 E _ _
 simp only [rzE] at E ⊢
 clear HD T1 T2 T3 T4 T5
 clear B2 ha hb hc HDB
 go_wp2
 exact zR (v:=.bool false) (by simp [results,Tryz.results94,go_sem]) E.below rfl

theorem zVx {w:World} {v:Value} {a b c:Int} (h:(f3 a b c).P v w) (ha:ab a<pw 40) (hb:ab b<pw 40) (hc:ab c<pw 40) (hD:ab (b*b-4*(a*c))<pw 40) (hdf:dfB a b c=true) (hx:¬ a<(Int.natAbs b:Int)) (hy:a≤c) (k0:¬ (Int.natAbs b:Int)=a) (k1:a=c) (k2:0≤b) {t:Bool} (ht:(dfB a b c && redB a b c)=t) :
  Rt 94 #[v] w fun v' w'=>v'=.bool t:=by
 replace ha:=hidd ha
 replace hb:=hidd hb
 replace hc:=hidd hc
 have ht2:t=true:=ht.symm.trans (by rw [hdf,Bool.true_and];unfold redB;exact decide_eq_true zm)
 subst ht2
 clear ht
 have HD:=hidd hdf
 clear hdf
 have HDB:=hidd hD
 clear hD
 have T1:Hid (¬ 0<cmpI (Int.natAbs b:Int) a):=fun e=>by have:=cmpIqgt.1 e;omega
 have T2:Hid (¬ 0<cmpI a c):=fun e=>by have:=cmpIqgt.1 e;omega
 have T3:Hid (¬ cmpI (Int.natAbs b:Int) a=0):=fun e=>k0 (cmpIq0.1 e)
 have T4:Hid (cmpI a c=0):=cmpIq0.2 k1
 have T5:Hid (0≤cmpI b 0):=by have:=mt cmpIqlt.1 (show ¬ b<0 by omega);show _≤_;omega
 clear k0 k1 k2
 clear hx hy
 obtain ⟨y0_p0,y0_q0,y0_p1,y0_q1,y0_p2,y0_q2,rfl,hF0⟩:=o3 h
 obtain ⟨w1,b1,hw1,hb1,hs1,E⟩:=gS w 38 hF0
 go_enter Tryz.func94,Tryz.ntmps94
 go_upto_region 1 with (fail)
 rw [← hw1,← hb1]
 clear hw1 hb1 hs1
 have B2:Hid (ab ((Int.natAbs b:Int))<pw 40):=zBk hb.out
 refine rz [.w (f3 a b c),.t,.o,.o,.p b1 2,.n b,.n (Int.natAbs b:Int),.p b1 0,.n a,.i (cmpI (Int.natAbs b:Int) a),.o,.o,.o,.p b1 0,.n a,.p b1 4,.n c,.i (cmpI a c),.o,.o] [none] [] E (fun hp=>⟨lS 0 6 hp J0 zAc zw,zc hp zD8 zi fun v w h=>zEa h ha.out hb.out hc.out HDB.out HD.out,zo hp (sqi 1),zS,zg b1 0 2 hp zw,lG 2 2 hp gqi J0 zAa zi fun v w h=>zAe h,zc hp zB9 zi (fun v w h=>exK (zB4 h) B2.out zm),zg b1 0 0 hp zw,lG 0 2 hp gqi J0 zAa zi fun v w h=>zAe h,zC hp zBg zi zi (fun v v' w h h'=>zBh h h'),zO hp (sqi 9) T1.out,zt hp (sqi 3) (sqi 10),zS,zg b1 0 0 hp zw,lG 0 2 hp gqi J0 zAa zi fun v w h=>zAe h,zg b1 0 4 hp zw,lG 4 2 hp gqi J0 zAa zi fun v w h=>zAe h,zC hp zBg zi zi (fun v v' w h h'=>zBh h h'),zO hp (sqi 17) T2.out,zt hp (sqi 12) (sqi 18),tv⟩) ?_
 intro w3 E _ _
 simp only [rzE] at E ⊢
 go_upto_region 3 with (fail)
 refine rz [.p b1 2,.n b,.n (Int.natAbs b:Int),.p b1 0,.n a,.i (cmpI (Int.natAbs b:Int) a),.o,.o,.p b1 0,.n a,.p b1 4,.n c,.i (cmpI a c),.t,.t,.t] [none] [] E (fun hp=>⟨qa b1 0 2 hp zw,lN 2 2 hp J0 zAa zi,zc hp zB9 zi fun v w h=>exK (zB4 h) B2.out zm,qa b1 0 0 hp zw,lN 0 2 hp J0 zAa zi,zC hp zBg zi zi fun v v' w h h'=>zBh h h',zO hp (sqi 5) T3.out,zS,zg b1 0 0 hp zw,lG 0 2 hp gqi J0 zAa zi fun v w h=>zAe h,zg b1 0 4 hp zw,lG 4 2 hp gqi J0 zAa zi fun v w h=>zAe h,zC hp zBg zi zi (fun v v' w h h'=>zBh h h'),zO hp (sqi 12) T4.out,zt hp (sqi 7) (sqi 13),zS,tv⟩) ?_
 intro w4 E _ _
 simp only [rzE] at E ⊢
 go_upto_region 4 with (fail)
 refine rz [.t,.o,.o,.p b1 2,.n b,.i (cmpI b 0),.t,.t,.t] [none] [] E (fun hp=>⟨zS,zo hp (sqi 0),zS,zg b1 0 2 hp zw,lG 2 2 hp gqi J0 zAa zi fun v w h=>zAe h,zc hp zCo zi (fun v w h=>zCp h),zO hp (sqi 5) T5.out,zt hp (sqi 2) (sqi 6),zS,tv⟩) ?_
 intro w5 E _ _
 simp only [rzE] at E ⊢
 clear HD T1 T2 T3 T4 T5
 clear B2 ha hb hc HDB
 go_wp2
 exact zR (v:=.bool true) (by simp [results,Tryz.results94,go_sem]) E.below rfl

theorem zVy {w:World} {v:Value} {a b c:Int} (h:(f3 a b c).P v w) (ha:ab a<pw 40) (hb:ab b<pw 40) (hc:ab c<pw 40) (hD:ab (b*b-4*(a*c))<pw 40) (hdf:dfB a b c=true) (hx:¬ a<(Int.natAbs b:Int)) (hy:a≤c) (k0:(Int.natAbs b:Int)=a) (k1:¬ a=c) (k2:¬ 0≤b) {t:Bool} (ht:(dfB a b c && redB a b c)=t) :
  Rt 94 #[v] w fun v' w'=>v'=.bool t:=by
 replace ha:=hidd ha
 replace hb:=hidd hb
 replace hc:=hidd hc
 have ht2:t=false:=ht.symm.trans (by rw [hdf,Bool.true_and];unfold redB;exact decide_eq_false zm)
 subst ht2
 clear ht
 have HD:=hidd hdf
 clear hdf
 have HDB:=hidd hD
 clear hD
 have T1:Hid (¬ 0<cmpI (Int.natAbs b:Int) a):=fun e=>by have:=cmpIqgt.1 e;omega
 have T2:Hid (¬ 0<cmpI a c):=fun e=>by have:=cmpIqgt.1 e;omega
 have T3:Hid (cmpI (Int.natAbs b:Int) a=0):=cmpIq0.2 k0
 have T4:Hid (¬ cmpI a c=0):=fun e=>k1 (cmpIq0.1 e)
 have T5:Hid (¬ 0≤cmpI b 0):=by have:=cmpIqlt.2 (show b<0 by omega);show ¬ _≤_;omega
 clear k0 k1 k2
 clear hx hy
 obtain ⟨y0_p0,y0_q0,y0_p1,y0_q1,y0_p2,y0_q2,rfl,hF0⟩:=o3 h
 obtain ⟨w1,b1,hw1,hb1,hs1,E⟩:=gS w 38 hF0
 go_enter Tryz.func94,Tryz.ntmps94
 go_upto_region 1 with (fail)
 rw [← hw1,← hb1]
 clear hw1 hb1 hs1
 have B2:Hid (ab ((Int.natAbs b:Int))<pw 40):=zBk hb.out
 refine rz [.w (f3 a b c),.t,.o,.o,.p b1 2,.n b,.n (Int.natAbs b:Int),.p b1 0,.n a,.i (cmpI (Int.natAbs b:Int) a),.o,.o,.o,.p b1 0,.n a,.p b1 4,.n c,.i (cmpI a c),.o,.o] [none] [] E (fun hp=>⟨lS 0 6 hp J0 zAc zw,zc hp zD8 zi fun v w h=>zEa h ha.out hb.out hc.out HDB.out HD.out,zo hp (sqi 1),zS,zg b1 0 2 hp zw,lG 2 2 hp gqi J0 zAa zi fun v w h=>zAe h,zc hp zB9 zi (fun v w h=>exK (zB4 h) B2.out zm),zg b1 0 0 hp zw,lG 0 2 hp gqi J0 zAa zi fun v w h=>zAe h,zC hp zBg zi zi (fun v v' w h h'=>zBh h h'),zO hp (sqi 9) T1.out,zt hp (sqi 3) (sqi 10),zS,zg b1 0 0 hp zw,lG 0 2 hp gqi J0 zAa zi fun v w h=>zAe h,zg b1 0 4 hp zw,lG 4 2 hp gqi J0 zAa zi fun v w h=>zAe h,zC hp zBg zi zi (fun v v' w h h'=>zBh h h'),zO hp (sqi 17) T2.out,zt hp (sqi 12) (sqi 18),tv⟩) ?_
 intro w3 E _ _
 simp only [rzE] at E ⊢
 go_upto_region 3 with (fail)
 refine rz [.p b1 2,.n b,.n (Int.natAbs b:Int),.p b1 0,.n a,.i (cmpI (Int.natAbs b:Int) a),.t,.t,.u (undef),.u (undef),.u (undef),.u (undef),.u (undef),.u (undef),.t,.t] [none] [] E (fun hp=>⟨qa b1 0 2 hp zw,lN 2 2 hp J0 zAa zi,zc hp zB9 zi fun v w h=>exK (zB4 h) B2.out zm,qa b1 0 0 hp zw,lN 0 2 hp J0 zAa zi,zC hp zBg zi zi fun v v' w h h'=>zBh h h',zO hp (sqi 5) T3.out,zS,zS,zS,zS,zS,zS,zS,zt hp (sqi 7) (zk (.bool true)),zS,tv⟩) ?_
 intro w4 E _ _
 simp only [rzE] at E ⊢
 go_upto_region 4 with (fail)
 refine rz [.t,.o,.o,.p b1 2,.n b,.i (cmpI b 0),.o,.o,.o] [none] [] E (fun hp=>⟨zS,zo hp (sqi 0),zS,zg b1 0 2 hp zw,lG 2 2 hp gqi J0 zAa zi fun v w h=>zAe h,zc hp zCo zi (fun v w h=>zCp h),zO hp (sqi 5) T5.out,zt hp (sqi 2) (sqi 6),zS,tv⟩) ?_
 intro w5 E _ _
 simp only [rzE] at E ⊢
 clear HD T1 T2 T3 T4 T5
 clear B2 ha hb hc HDB
 go_wp2
 exact zR (v:=.bool false) (by simp [results,Tryz.results94,go_sem]) E.below rfl

theorem zVz {w:World} {v:Value} {a b c:Int} (h:(f3 a b c).P v w) (ha:ab a<pw 40) (hb:ab b<pw 40) (hc:ab c<pw 40) (hD:ab (b*b-4*(a*c))<pw 40) (hdf:dfB a b c=true) (hx:¬ a<(Int.natAbs b:Int)) (hy:a≤c) (k0:(Int.natAbs b:Int)=a) (k1:¬ a=c) (k2:0≤b) {t:Bool} (ht:(dfB a b c && redB a b c)=t) :
  Rt 94 #[v] w fun v' w'=>v'=.bool t:=by
 replace ha:=hidd ha
 replace hb:=hidd hb
 replace hc:=hidd hc
 have ht2:t=true:=ht.symm.trans (by rw [hdf,Bool.true_and];unfold redB;exact decide_eq_true zm)
 subst ht2
 clear ht
 have HD:=hidd hdf
 clear hdf
 have HDB:=hidd hD
 clear hD
 have T1:Hid (¬ 0<cmpI (Int.natAbs b:Int) a):=fun e=>by have:=cmpIqgt.1 e;omega
 have T2:Hid (¬ 0<cmpI a c):=fun e=>by have:=cmpIqgt.1 e;omega
 have T3:Hid (cmpI (Int.natAbs b:Int) a=0):=cmpIq0.2 k0
 have T4:Hid (¬ cmpI a c=0):=fun e=>k1 (cmpIq0.1 e)
 have T5:Hid (0≤cmpI b 0):=by have:=mt cmpIqlt.1 (show ¬ b<0 by omega);show _≤_;omega
 clear k0 k1 k2
 clear hx hy
 obtain ⟨y0_p0,y0_q0,y0_p1,y0_q1,y0_p2,y0_q2,rfl,hF0⟩:=o3 h
 obtain ⟨w1,b1,hw1,hb1,hs1,E⟩:=gS w 38 hF0
 go_enter Tryz.func94,Tryz.ntmps94
 go_upto_region 1 with (fail)
 rw [← hw1,← hb1]
 clear hw1 hb1 hs1
 have B2:Hid (ab ((Int.natAbs b:Int))<pw 40):=zBk hb.out
 refine rz [.w (f3 a b c),.t,.o,.o,.p b1 2,.n b,.n (Int.natAbs b:Int),.p b1 0,.n a,.i (cmpI (Int.natAbs b:Int) a),.o,.o,.o,.p b1 0,.n a,.p b1 4,.n c,.i (cmpI a c),.o,.o] [none] [] E (fun hp=>⟨lS 0 6 hp J0 zAc zw,zc hp zD8 zi fun v w h=>zEa h ha.out hb.out hc.out HDB.out HD.out,zo hp (sqi 1),zS,zg b1 0 2 hp zw,lG 2 2 hp gqi J0 zAa zi fun v w h=>zAe h,zc hp zB9 zi (fun v w h=>exK (zB4 h) B2.out zm),zg b1 0 0 hp zw,lG 0 2 hp gqi J0 zAa zi fun v w h=>zAe h,zC hp zBg zi zi (fun v v' w h h'=>zBh h h'),zO hp (sqi 9) T1.out,zt hp (sqi 3) (sqi 10),zS,zg b1 0 0 hp zw,lG 0 2 hp gqi J0 zAa zi fun v w h=>zAe h,zg b1 0 4 hp zw,lG 4 2 hp gqi J0 zAa zi fun v w h=>zAe h,zC hp zBg zi zi (fun v v' w h h'=>zBh h h'),zO hp (sqi 17) T2.out,zt hp (sqi 12) (sqi 18),tv⟩) ?_
 intro w3 E _ _
 simp only [rzE] at E ⊢
 go_upto_region 3 with (fail)
 refine rz [.p b1 2,.n b,.n (Int.natAbs b:Int),.p b1 0,.n a,.i (cmpI (Int.natAbs b:Int) a),.t,.t,.u (undef),.u (undef),.u (undef),.u (undef),.u (undef),.u (undef),.t,.t] [none] [] E (fun hp=>⟨qa b1 0 2 hp zw,lN 2 2 hp J0 zAa zi,zc hp zB9 zi fun v w h=>exK (zB4 h) B2.out zm,qa b1 0 0 hp zw,lN 0 2 hp J0 zAa zi,zC hp zBg zi zi fun v v' w h h'=>zBh h h',zO hp (sqi 5) T3.out,zS,zS,zS,zS,zS,zS,zS,zt hp (sqi 7) (zk (.bool true)),zS,tv⟩) ?_
 intro w4 E _ _
 simp only [rzE] at E ⊢
 go_upto_region 4 with (fail)
 refine rz [.t,.o,.o,.p b1 2,.n b,.i (cmpI b 0),.t,.t,.t] [none] [] E (fun hp=>⟨zS,zo hp (sqi 0),zS,zg b1 0 2 hp zw,lG 2 2 hp gqi J0 zAa zi fun v w h=>zAe h,zc hp zCo zi (fun v w h=>zCp h),zO hp (sqi 5) T5.out,zt hp (sqi 2) (sqi 6),zS,tv⟩) ?_
 intro w5 E _ _
 simp only [rzE] at E ⊢
 clear HD T1 T2 T3 T4 T5
 clear B2 ha hb hc HDB
 go_wp2
 exact zR (v:=.bool true) (by simp [results,Tryz.results94,go_sem]) E.below rfl

theorem zV0 {w:World} {v:Value} {a b c:Int} (h:(f3 a b c).P v w) (ha:ab a<pw 40) (hb:ab b<pw 40) (hc:ab c<pw 40) (hD:ab (b*b-4*(a*c))<pw 40) (hdf:dfB a b c=true) (hx:¬ a<(Int.natAbs b:Int)) (hy:a≤c) (k0:(Int.natAbs b:Int)=a) (k1:a=c) (k2:¬ 0≤b) {t:Bool} (ht:(dfB a b c && redB a b c)=t) :
  Rt 94 #[v] w fun v' w'=>v'=.bool t:=by
 replace ha:=hidd ha
 replace hb:=hidd hb
 replace hc:=hidd hc
 have ht2:t=false:=ht.symm.trans (by rw [hdf,Bool.true_and];unfold redB;exact decide_eq_false zm)
 subst ht2
 clear ht
 have HD:=hidd hdf
 clear hdf
 have HDB:=hidd hD
 clear hD
 have T1:Hid (¬ 0<cmpI (Int.natAbs b:Int) a):=fun e=>by have:=cmpIqgt.1 e;omega
 have T2:Hid (¬ 0<cmpI a c):=fun e=>by have:=cmpIqgt.1 e;omega
 have T3:Hid (cmpI (Int.natAbs b:Int) a=0):=cmpIq0.2 k0
 have T4:Hid (cmpI a c=0):=cmpIq0.2 k1
 have T5:Hid (¬ 0≤cmpI b 0):=by have:=cmpIqlt.2 (show b<0 by omega);show ¬ _≤_;omega
 clear k0 k1 k2
 clear hx hy
 obtain ⟨y0_p0,y0_q0,y0_p1,y0_q1,y0_p2,y0_q2,rfl,hF0⟩:=o3 h
 obtain ⟨w1,b1,hw1,hb1,hs1,E⟩:=gS w 38 hF0
 go_enter Tryz.func94,Tryz.ntmps94
 go_upto_region 1 with (fail)
 rw [← hw1,← hb1]
 clear hw1 hb1 hs1
 have B2:Hid (ab ((Int.natAbs b:Int))<pw 40):=zBk hb.out
 refine rz [.w (f3 a b c),.t,.o,.o,.p b1 2,.n b,.n (Int.natAbs b:Int),.p b1 0,.n a,.i (cmpI (Int.natAbs b:Int) a),.o,.o,.o,.p b1 0,.n a,.p b1 4,.n c,.i (cmpI a c),.o,.o] [none] [] E (fun hp=>⟨lS 0 6 hp J0 zAc zw,zc hp zD8 zi fun v w h=>zEa h ha.out hb.out hc.out HDB.out HD.out,zo hp (sqi 1),zS,zg b1 0 2 hp zw,lG 2 2 hp gqi J0 zAa zi fun v w h=>zAe h,zc hp zB9 zi (fun v w h=>exK (zB4 h) B2.out zm),zg b1 0 0 hp zw,lG 0 2 hp gqi J0 zAa zi fun v w h=>zAe h,zC hp zBg zi zi (fun v v' w h h'=>zBh h h'),zO hp (sqi 9) T1.out,zt hp (sqi 3) (sqi 10),zS,zg b1 0 0 hp zw,lG 0 2 hp gqi J0 zAa zi fun v w h=>zAe h,zg b1 0 4 hp zw,lG 4 2 hp gqi J0 zAa zi fun v w h=>zAe h,zC hp zBg zi zi (fun v v' w h h'=>zBh h h'),zO hp (sqi 17) T2.out,zt hp (sqi 12) (sqi 18),tv⟩) ?_
 intro w3 E _ _
 simp only [rzE] at E ⊢
 go_upto_region 3 with (fail)
 refine rz [.p b1 2,.n b,.n (Int.natAbs b:Int),.p b1 0,.n a,.i (cmpI (Int.natAbs b:Int) a),.t,.t,.u (undef),.u (undef),.u (undef),.u (undef),.u (undef),.u (undef),.t,.t] [none] [] E (fun hp=>⟨qa b1 0 2 hp zw,lN 2 2 hp J0 zAa zi,zc hp zB9 zi fun v w h=>exK (zB4 h) B2.out zm,qa b1 0 0 hp zw,lN 0 2 hp J0 zAa zi,zC hp zBg zi zi fun v v' w h h'=>zBh h h',zO hp (sqi 5) T3.out,zS,zS,zS,zS,zS,zS,zS,zt hp (sqi 7) (zk (.bool true)),zS,tv⟩) ?_
 intro w4 E _ _
 simp only [rzE] at E ⊢
 go_upto_region 4 with (fail)
 refine rz [.t,.o,.o,.p b1 2,.n b,.i (cmpI b 0),.o,.o,.o] [none] [] E (fun hp=>⟨zS,zo hp (sqi 0),zS,zg b1 0 2 hp zw,lG 2 2 hp gqi J0 zAa zi fun v w h=>zAe h,zc hp zCo zi (fun v w h=>zCp h),zO hp (sqi 5) T5.out,zt hp (sqi 2) (sqi 6),zS,tv⟩) ?_
 intro w5 E _ _
 simp only [rzE] at E ⊢
 clear HD T1 T2 T3 T4 T5
 clear B2 ha hb hc HDB
 go_wp2
 exact zR (v:=.bool false) (by simp [results,Tryz.results94,go_sem]) E.below rfl

theorem zV1 {w:World} {v:Value} {a b c:Int} (h:(f3 a b c).P v w) (ha:ab a<pw 40) (hb:ab b<pw 40) (hc:ab c<pw 40) (hD:ab (b*b-4*(a*c))<pw 40) (hdf:dfB a b c=true) (hx:¬ a<(Int.natAbs b:Int)) (hy:a≤c) (k0:(Int.natAbs b:Int)=a) (k1:a=c) (k2:0≤b) {t:Bool} (ht:(dfB a b c && redB a b c)=t) :
  Rt 94 #[v] w fun v' w'=>v'=.bool t:=by
 replace ha:=hidd ha
 replace hb:=hidd hb
 replace hc:=hidd hc
 have ht2:t=true:=ht.symm.trans (by rw [hdf,Bool.true_and];unfold redB;exact decide_eq_true zm)
 subst ht2
 clear ht
 have HD:=hidd hdf
 clear hdf
 have HDB:=hidd hD
 clear hD
 have T1:Hid (¬ 0<cmpI (Int.natAbs b:Int) a):=fun e=>by have:=cmpIqgt.1 e;omega
 have T2:Hid (¬ 0<cmpI a c):=fun e=>by have:=cmpIqgt.1 e;omega
 have T3:Hid (cmpI (Int.natAbs b:Int) a=0):=cmpIq0.2 k0
 have T4:Hid (cmpI a c=0):=cmpIq0.2 k1
 have T5:Hid (0≤cmpI b 0):=by have:=mt cmpIqlt.1 (show ¬ b<0 by omega);show _≤_;omega
 clear k0 k1 k2
 clear hx hy
 obtain ⟨y0_p0,y0_q0,y0_p1,y0_q1,y0_p2,y0_q2,rfl,hF0⟩:=o3 h
 obtain ⟨w1,b1,hw1,hb1,hs1,E⟩:=gS w 38 hF0
 go_enter Tryz.func94,Tryz.ntmps94
 go_upto_region 1 with (fail)
 rw [← hw1,← hb1]
 clear hw1 hb1 hs1
 have B2:Hid (ab ((Int.natAbs b:Int))<pw 40):=zBk hb.out
 refine rz [.w (f3 a b c),.t,.o,.o,.p b1 2,.n b,.n (Int.natAbs b:Int),.p b1 0,.n a,.i (cmpI (Int.natAbs b:Int) a),.o,.o,.o,.p b1 0,.n a,.p b1 4,.n c,.i (cmpI a c),.o,.o] [none] [] E (fun hp=>⟨lS 0 6 hp J0 zAc zw,zc hp zD8 zi fun v w h=>zEa h ha.out hb.out hc.out HDB.out HD.out,zo hp (sqi 1),zS,zg b1 0 2 hp zw,lG 2 2 hp gqi J0 zAa zi fun v w h=>zAe h,zc hp zB9 zi (fun v w h=>exK (zB4 h) B2.out zm),zg b1 0 0 hp zw,lG 0 2 hp gqi J0 zAa zi fun v w h=>zAe h,zC hp zBg zi zi (fun v v' w h h'=>zBh h h'),zO hp (sqi 9) T1.out,zt hp (sqi 3) (sqi 10),zS,zg b1 0 0 hp zw,lG 0 2 hp gqi J0 zAa zi fun v w h=>zAe h,zg b1 0 4 hp zw,lG 4 2 hp gqi J0 zAa zi fun v w h=>zAe h,zC hp zBg zi zi (fun v v' w h h'=>zBh h h'),zO hp (sqi 17) T2.out,zt hp (sqi 12) (sqi 18),tv⟩) ?_
 intro w3 E _ _
 simp only [rzE] at E ⊢
 go_upto_region 3 with (fail)
 refine rz [.p b1 2,.n b,.n (Int.natAbs b:Int),.p b1 0,.n a,.i (cmpI (Int.natAbs b:Int) a),.t,.t,.u (undef),.u (undef),.u (undef),.u (undef),.u (undef),.u (undef),.t,.t] [none] [] E (fun hp=>⟨qa b1 0 2 hp zw,lN 2 2 hp J0 zAa zi,zc hp zB9 zi fun v w h=>exK (zB4 h) B2.out zm,qa b1 0 0 hp zw,lN 0 2 hp J0 zAa zi,zC hp zBg zi zi fun v v' w h h'=>zBh h h',zO hp (sqi 5) T3.out,zS,zS,zS,zS,zS,zS,zS,zt hp (sqi 7) (zk (.bool true)),zS,tv⟩) ?_
 intro w4 E _ _
 simp only [rzE] at E ⊢
 go_upto_region 4 with (fail)
 refine rz [.t,.o,.o,.p b1 2,.n b,.i (cmpI b 0),.t,.t,.t] [none] [] E (fun hp=>⟨zS,zo hp (sqi 0),zS,zg b1 0 2 hp zw,lG 2 2 hp gqi J0 zAa zi fun v w h=>zAe h,zc hp zCo zi (fun v w h=>zCp h),zO hp (sqi 5) T5.out,zt hp (sqi 2) (sqi 6),zS,tv⟩) ?_
 intro w5 E _ _
 simp only [rzE] at E ⊢
 clear HD T1 T2 T3 T4 T5
 clear B2 ha hb hc HDB
 go_wp2
 exact zR (v:=.bool true) (by simp [results,Tryz.results94,go_sem]) E.below rfl

theorem zV2 {w:World} {v:Value} {a b c:Int} (h:(f3 a b c).P v w) (ha:ab a<pw 40) (hb:ab b<pw 40) (hc:ab c<pw 40) (hD:ab (b*b-4*(a*c))<pw 40) {t:Bool} (ht:(dfB a b c && redB a b c)=t) :
  Rt 94 #[v] w fun v' w'=>v'=.bool t:=by
 cases hdf:dfB a b c with
 | false=>exact exQRed_no h ha hb hc hD hdf ht
 | true=>
  by_cases hx:a<(Int.natAbs b:Int)
  ·exact exQRed_b h ha hb hc hD hdf hx ht
  by_cases hy:a≤c
  ·by_cases k0:(Int.natAbs b:Int)=a <;> by_cases k1:a=c <;> by_cases k2:0≤b
   ·exact zV1 h ha hb hc hD hdf hx hy k0 k1 k2 ht
   ·exact zV0 h ha hb hc hD hdf hx hy k0 k1 k2 ht
   ·exact zVz h ha hb hc hD hdf hx hy k0 k1 k2 ht
   ·exact zVy h ha hb hc hD hdf hx hy k0 k1 k2 ht
   ·exact zVx h ha hb hc hD hdf hx hy k0 k1 k2 ht
   ·exact zVw h ha hb hc hD hdf hx hy k0 k1 k2 ht
   ·exact zVv h ha hb hc hD hdf hx hy k0 k1 k2 ht
   ·exact zVu h ha hb hc hD hdf hx hy k0 k1 k2 ht
  ·exact exQRed_c h ha hb hc hD hdf hx hy ht

theorem zLv {w:World} {v:Value} {a b c:Int} (h:(f3 a b c).P v w) (ha:ab a<pw 15) (hb:ab b<pw 15) (hc:ab c<pw 15) {t:Bool} (ht:(dfB a b c && redB a b c)=t) :
  Rt 94 #[v] w fun v' w'=>v'=.bool t:=
 zV2 h (zu ha) (zu hb) (zu hc) (disc_ab ha hb hc) ht

theorem frm_uniq {w:World} {b:Nat} {x y z x' y' z':Int} (h:Bq w b 6 (f3 x y z)) (h':Bq w b 6 (f3 x' y' z')):x=x'∧y=y'∧z=z':=by
 obtain ⟨us,h1,_,h2,_,us1,e1,h3⟩:=h
 obtain ⟨us',g1,_,g2,_,us2,e2,g3⟩:=h'
 have e:us=us':=by
  refine List.ext_getElem zm fun j hj hj'=>?_
  have a1:=(h2 j hj).1
  have a2:=(g2 j hj').1
  rw [a2] at a1
  injection a1 with a1
  rw [List.getD_eq_getElem?_getD,List.getD_eq_getElem?_getD,List.getElem?_eq_getElem hj,List.getElem?_eq_getElem hj',Option.getD_some,Option.getD_some] at a1
  exact a1.symm
 injection e1 with e1
 injection e2 with e2
 have e1:=congrArg Array.toList e1
 have e2:=congrArg Array.toList e2
 simp at e1 e2
 subst e e1 e2
 obtain ⟨p1,q1,r1,rfl,n1,p2,q2,r2,rfl,n2,p3,q3,r3,rfl,n3,rfl⟩:=h3
 obtain ⟨_,_,_,i1,m1,_,_,_,rfl,m2,_,_,_,rfl,m3,rfl⟩:=g3
 injection i1 with j1 i1
 injection i1 with j2 i1
 injection i1 with j3 i1
 injection i1 with j4 i1
 injection i1 with j5 i1
 injection i1 with j6 i1
 subst j1 j2 j3 j4 j5 j6
 exact ⟨n1.unique m1,n2.unique m2,n3.unique m3⟩
open Classical in
noncomputable def frmMes (w:World) (b:Nat):Nat:=
 if h:∃ x:Nat,∃ fa fb fc:Int,Bq w b 6 (f3 fa fb fc)∧x=2*fa.natAbs+(if redB fa fb fc=true then 0 else 1) then Classical.choose h else 0
theorem zPr {w:World} {b:Nat} {fa fb fc:Int} (h:Bq w b 6 (f3 fa fb fc)):frmMes w b=2*fa.natAbs+(if redB fa fb fc=true then 0 else 1):=by
 have he:∃ x:Nat,∃ fa fb fc:Int,Bq w b 6 (f3 fa fb fc)∧x=2*fa.natAbs+(if redB fa fb fc=true then 0 else 1):=⟨_,fa,fb,fc,h,rfl⟩
 unfold frmMes
 rw [dif_pos he]
 obtain ⟨x,y,z,h',hx⟩:=Classical.choose_spec he
 obtain ⟨rfl,rfl,rfl⟩:=frm_uniq h h'
 exact hx
structure RIn (a b c x1 x2 x3 x4 fa fb fc:Int):Prop where
 u:Und a b c x1 x2 x3 x4 fa fb fc
 p:0<fa
 l:fa≤a
 bb:ab fb<pw 11
 cb:ab fc<pw 24
theorem ab_le_sq {x n:Int} (h:x*x≤n):ab x≤ab n:=by
 have h1:=zD2 x
 have h2:(x.natAbs:Int)≤(x.natAbs:Int)*(x.natAbs:Int):=by
  rcases Nat.eq_zero_or_pos x.natAbs with e | e
  ·rw [e];decide
  ·have:=Int.mul_le_mul_of_nonneg_left (show (1:Int)≤(x.natAbs:Int) by omega) (show (0:Int)≤(x.natAbs:Int) by omega)
   omega
 unfold ab
 omega
theorem RIn.bds {a b c x1 x2 x3 x4 fa fb fc:Int} (h:RIn a b c x1 x2 x3 x4 fa fb fc) (ha:ab a<pw 5) (hc:ab c<pw 24) (hd:b*b-4*(a*c)<0):(ab fa<pw 5∧ab fb<pw 11∧ab fc<pw 24)∧ab x1<pw 52∧ab x2<pw 52∧ab x3<pw 52∧ab x4<pw 52:=by
 have hfa:ab fa<pw 5:=by
  have h1:=h.p
  have h2:=h.l
  unfold ab at ha ⊢
  generalize pw 5=k at ha ⊢
  omega
 have h4:ab (4:Int)<pw 3:=zAr zd zd
 obtain ⟨g1,g2,g3,g4⟩:=h.u.bds hd
 have up:∀ {x y z:Int},x*x≤4*(y*z)→ab y<pw 24→ab z<pw 24→ab x<pw 52:=fun {x y z} hx hy hz=>Int.lt_of_le_of_lt (ab_le_sq hx) (zu (zBv h4 (zBv hy hz)))
 have hfa2:ab fa<pw 24:=zu hfa
 have ha2:ab a<pw 24:=zu ha
 exact ⟨⟨hfa,h.bb,h.cb⟩,up g1 hc hfa2,up g2 hc h.cb,up g3 ha2 hfa2,up g4 ha2 h.cb⟩
theorem RIn.one {a b c:Int} (h0:0<a) (hb:ab b<pw 11) (hc:ab c<pw 24):RIn a b c 1 0 0 1 a b c:=⟨Und.one a b c,h0,Int.le_refl _,hb,hc⟩
theorem RIn.shift {a b c x1 x2 x3 x4 fa fb fc kk gb gc:Int} (h:RIn a b c x1 x2 x3 x4 fa fb fc) (ha:ab a<pw 5) (hc:ab c<pw 24) (hd:b*b-4*(a*c)<0) (h20:ab (b*b-4*(a*c))<pw 20) (hk:kk=(fa-fb)/(2*fa)) (hgb:gb=fb+2*(fa*kk)) (hgc:gc=fa*(kk*kk)+fb*kk+fc):RIn a b c (x1*1+x2*0) (x1*kk+x2*1) (x3*1+x4*0) (x3*kk+x4*1) fa gb gc∧-fa<gb∧gb≤fa:=by
 have hm:=zR9 (b:=fb) h.p
 rw [← hk,← hgb] at hm
 have hu:Und fa fb fc 1 kk 0 1 fa gb gc:=by rw [hgb,hgc];exact Und.shift fa fb fc kk
 have hU:=h.u.mul hu
 have hfa:=(h.bds ha hc hd).1.1
 have hD:gb*gb-4*(fa*gc)=b*b-4*(a*c):=hU.disc
 have hc1:=zJ0 h.p (by rw [hD];exact hd)
 have hc2:=last_le h.p zm hm.2 (by rw [hD];exact hd)
 rw [hD] at hc2
 refine ⟨⟨hU,h.p,h.l,?_,?_⟩,hm⟩
 ·have hg:ab gb<pw 5:=by
   have h1:=h.p
   unfold ab at hfa ⊢
   generalize pw 5=k at hfa ⊢
   omega
  exact zu hg
 ·have hb1:ab (fa*fa-(b*b-4*(a*c)))<pw 24:=zCm (zBv hfa hfa) h20 zm zm
  unfold ab at hb1 ⊢
  generalize pw 24=k at hb1 ⊢
  omega
theorem RIn.swap {a b c x1 x2 x3 x4 fa fb fc:Int} (h:RIn a b c x1 x2 x3 x4 fa fb fc) (ha:ab a<pw 5) (hc:ab c<pw 24) (hd:b*b-4*(a*c)<0) (hl:fc≤fa):RIn a b c (x1*0+x2*1) (x1*-1+x2*0) (x3*0+x4*1) (x3*-1+x4*0) fc (-fb) fa:=by
 have hU:=h.u.mul (Und.swap fa fb fc)
 have hD:fb*fb-4*(fa*fc)=b*b-4*(a*c):=h.u.disc
 have hc1:=zJ0 h.p (by rw [hD];exact hd)
 have hl2:=h.l
 refine ⟨hU,hc1,zm,?_,Int.lt_of_lt_of_le (h.bds ha hc hd).1.1 (zBu zm)⟩
 have:=h.bb
 unfold ab at this ⊢
 rw [Int.natAbs_neg]
 exact this
theorem zHp {x y:Int} {k:Nat} (hx:ab x<pw k):ab (x/y)<pw k:=by
 have:=Int.natAbs_ediv_le_natAbs x y
 unfold ab at hx ⊢
 generalize pw k=m at hx ⊢
 omega
structure RS where
 x1:Int
 x2:Int
 x3:Int
 x4:Int
 fa:Int
 fb:Int
 fc:Int
def RS.kk (S:RS):Int:=(S.fa-S.fb)/(2*S.fa)
def rsh (S:RS):RS:=⟨S.x1*1+S.x2*0,S.x1*S.kk+S.x2*1,S.x3*1+S.x4*0,S.x3*S.kk+S.x4*1,S.fa,S.fb+2*(S.fa*S.kk),S.fa*(S.kk*S.kk)+S.fb*S.kk+S.fc⟩
def rsw (S:RS):RS:=⟨S.x1*0+S.x2*1,S.x1*-1+S.x2*0,S.x3*0+S.x4*1,S.x3*-1+S.x4*0,S.fc,-S.fb,S.fa⟩
def RS.red (S:RS):Bool:=redB S.fa S.fb S.fc
def zC9 (S:RS):RS:=if (rsh S).red=true then rsh S else rsw (rsh S)
def riter (a b c:Int):Nat→RS
 | 0=>⟨1,0,0,1,a,b,c⟩
 | n+1=>zC9 (riter a b c n)
def RAt (a b c:Int) (S:RS):Prop:=∃ n,S=riter a b c n∧∀ m,m<n→(riter a b c m).red=false
theorem RAt.zero (a b c:Int):RAt a b c ⟨1,0,0,1,a,b,c⟩:=⟨0,rfl,fun m hm=>zm⟩
theorem RAt.next {a b c:Int} {S:RS} (h:RAt a b c S) (hr:S.red=false):RAt a b c (zC9 S):=by
 obtain ⟨n,rfl,hn⟩:=h
 refine ⟨n+1,rfl,fun m hm=>?_⟩
 rcases Nat.lt_or_ge m n with g | g
 ·exact hn m g
 ·rw [show m=n by omega];exact hr
theorem RAt.uniq {a b c:Int} {S T:RS} (h:RAt a b c S) (g:RAt a b c T) (hs:S.red=true) (ht:T.red=true):S=T:=by
 obtain ⟨n,rfl,hn⟩:=h
 obtain ⟨m,rfl,hm⟩:=g
 rcases Nat.lt_trichotomy n m with e | e | e
 ·have:=hm n e;rw [hs] at this;cases this
 ·rw [e]
 ·have:=hn m e;rw [ht] at this;cases this
open Classical in
noncomputable def zC0 (a b c:Int):RS:=if h:∃ S,RAt a b c S∧S.red=true then Classical.choose h else ⟨1,0,0,1,a,b,c⟩
theorem zM8 {a b c:Int} {S:RS} (h:RAt a b c S) (hs:S.red=true):zC0 a b c=S:=by
 have he:∃ S,RAt a b c S∧S.red=true:=⟨S,h,hs⟩
 unfold zC0
 rw [dif_pos he]
 exact (Classical.choose_spec he).1.uniq h (Classical.choose_spec he).2 hs
theorem RIn.next {a b c:Int} {S:RS} (h:RIn a b c S.x1 S.x2 S.x3 S.x4 S.fa S.fb S.fc) (ha:ab a<pw 5) (hb:ab b<pw 11) (hc:ab c<pw 24) (hd:b*b-4*(a*c)<0) (hD:ab (b*b-4*(a*c))<pw 20):RIn a b c (zC9 S).x1 (zC9 S).x2 (zC9 S).x3 (zC9 S).x4 (zC9 S).fa (zC9 S).fb (zC9 S).fc∧((zC9 S).red=true∧(zC9 S).fa≤S.fa∨(zC9 S).fa<S.fa):=by
 obtain ⟨h1,h2,h3⟩:=h.shift ha hc hd hD (kk:=S.kk) rfl rfl rfl
 unfold zC9
 by_cases hr:(rsh S).red=true
 ·rw [if_pos hr]
  exact ⟨h1,.inl ⟨hr,Int.le_refl _⟩⟩
 ·rw [if_neg hr]
  have hsw:=zNo (a:=(rsh S).fa) (b:=(rsh S).fb) (c:=(rsh S).fc) h1.p h2 h3 (fun e=>hr ((zEx h1.p).2 e))
  have hle:(rsh S).fc≤(rsh S).fa:=by rcases hsw with h | h <;> omega
  refine ⟨RIn.swap (fa:=(rsh S).fa) (fb:=(rsh S).fb) (fc:=(rsh S).fc) h1 ha hc hd hle,?_⟩
  rcases hsw with h | ⟨h,_,g⟩
  ·exact .inr h
  ·exact .inl ⟨(zEx (a:=(rsh S).fc) (b:=-(rsh S).fb) (c:=(rsh S).fa) (by rw [h];exact h1.p)).2 g,by show (rsh S).fc≤S.fa;rw [h];exact Int.le_refl _⟩
theorem zRv {a b c:Int} (ha:ab a<pw 5) (hb:ab b<pw 11) (hc:ab c<pw 24) (hd:b*b-4*(a*c)<0) (hD:ab (b*b-4*(a*c))<pw 20):∀ (k:Nat) (S:RS),S.fa.natAbs≤k→RAt a b c S→RIn a b c S.x1 S.x2 S.x3 S.x4 S.fa S.fb S.fc→∃ T,RAt a b c T∧T.red=true∧RIn a b c T.x1 T.x2 T.x3 T.x4 T.fa T.fb T.fc
 | 0,S,hk,_,hI=>by have:=hI.p;omega
 | k+1,S,hk,hA,hI=>by
  cases hr:S.red with
  | true=>exact ⟨S,hA,hr,hI⟩
  | false=>
   obtain ⟨hI2,h⟩:=hI.next ha hb hc hd hD
   have hA2:=hA.next hr
   rcases h with ⟨h,_⟩ | h
   ·exact ⟨_,hA2,h,hI2⟩
   ·have p1:=hI.p
    have p2:=hI2.p
    exact zRv ha hb hc hd hD k _ zm hA2 hI2
theorem zRt {a b c:Int} (ha:ab a<pw 5) (hb:ab b<pw 11) (hc:ab c<pw 24) (hd:b*b-4*(a*c)<0) (hD:ab (b*b-4*(a*c))<pw 20) (h0:0<a):RIn a b c (zC0 a b c).x1 (zC0 a b c).x2 (zC0 a b c).x3 (zC0 a b c).x4 (zC0 a b c).fa (zC0 a b c).fb (zC0 a b c).fc∧Rdf (zC0 a b c).fa (zC0 a b c).fb (zC0 a b c).fc:=by
 obtain ⟨T,hA,hr,hI⟩:=zRv ha hb hc hd hD a.natAbs _ (Nat.le_refl _) (RAt.zero a b c) (RIn.one h0 hb hc)
 rw [zM8 hA hr]
 exact ⟨hI,(zEx hI.p).1 hr⟩
def Fq.red (R:RS):Fq:=Fq.tup3 (f3 R.fa R.fb R.fc) (Fq.st [.n R.x1,.n R.x2,.n R.x3,.n R.x4]) (Fq.is (.int .i64 0))
def redE (a b c:Int):Int:=if chkF a b c=0∧0<b*b-4*(a*c) then 5 else chkF a b c
section
variable {os : List Oper} {Q : Exit → Act → World → Prop} {a : Act} {p : Pq} {B B0 : Nat} {w0 : World}
variable {i s : Nat} {d : Option Tmp} {ty : TypeId} {ps : String} {af : Array Edge} {gd : Option (Nat × Bool)}
theorem zW4 (hp:p.Ok B B0) (hF:p.Free i) (hg:GdQ os a p B B0 w0 af gd) (hC:∀ v w,(Fq.st [.n 0,.n 0,.n 0,.n 0]).P v w→(p.c i).P v w) :
  zAf os Q a p B B0 w0 i { dst:=d,op:=.build 67 #[],type:=ty,pos:=ps,after:=af,guard:=gd }:=by
 refine zBf hp hF hg fun L vs w hG hL hc hd=>?_
 refine ⟨.agg #[.bool false,.slice none 0 0,.bool false,.slice none 0 0,.bool false,.slice none 0 0,.bool false,.slice none 0 0],?_,hC _ _ ⟨_,rfl,_,_,_,rfl,Num.zero w,_,_,_,rfl,Num.zero w,_,_,_,rfl,Num.zero w,_,_,_,rfl,Num.zero w,rfl⟩⟩
 simp [execOp,go_sem]
end
theorem zK9 {a b c:Int} (ha:ab a<pw 5) (hb:ab b<pw 5) (hc:ab c<pw 5):ab (b*b-4*(a*c))<pw 20:=
 zCm (zBv hb hb) (zBv (zAr (x:=4) zd zd) (zBv ha hc)) zm zm
end Go.Proofs.YtjadciofpgjofaaGreatDoor
