/- Inv, Mem, Val, A, B, C, G, H, M, I, D, J, Is, Ib, Alg, Q, R, E, F, N, O, S, K, Ra, Ic, St. -/
import Derived.OrdersHeld
import Derived.WalkKit
import Derived.Laws.CopyOwn
import Derived.Test.YtjadciofpgjofaaGreatDoorRows
import Derived.BigQuiet
import Derived.Deep.QuietTactic
import Derived.Deep.RegionHeld3
import Derived.Deep.RegionWith
import Derived.StillTailTactics
import Derived.Deep.Cut
set_option linter.unusedSimpArgs false
set_option linter.unusedVariables false
set_option maxRecDepth 100000
set_option maxHeartbeats 8000000
namespace Go.Proofs.YtjadciofpgjofaaGreatDoor
open Go
theorem zm {P:Prop} (h:P:=by omega):P:=h
theorem zd {P:Prop} (h:P:=by decide):P:=h

def zBq (ops:Array Oper) (i:Nat):Option Tmp:=(ops[i]?).bind (·.dst)

def up {α:Type} (f:Nat→α) (i:Nat) (x:α):Nat→α:=fun j=>if j=i then x else f j

theorem zBx {α:Type} (f:Nat→α) (i:Nat) (x:α):up f i x i=x:=by simp [up]
theorem zAg {α:Type} (f:Nat→α) {i j:Nat} (x:α) (h:j≠i):up f i x j=f j:=by simp [up,h]

def lay (ops:Array Oper) (L:Nat→Bool) (vs:Nat→Value):Nat→Act→Act
 | 0,a=>a
 | k+1,a=>if L k then (lay ops L vs k a).put (zBq ops k) (vs k) else lay ops L vs k a

def zHh (ops:Array Oper):Prop:=∀ j k d,j≠k→zBq ops j=some d→zBq ops k≠some d

theorem lay_off {ops:Array Oper} {L:Nat→Bool} {vs:Nat→Value} {i:Nat} {x:Bool} {v:Value}:∀ (k:Nat) (a:Act),k≤i→lay ops (up L i x) (up vs i v) k a=lay ops L vs k a
 | 0,_,_=>rfl
 | k+1,a,h=>by
  simp only [lay]
  rw [lay_off k a zm,zAg _ _ zm,zAg _ _ zm]

theorem zL6 {ops:Array Oper} {L:Nat→Bool} {vs:Nat→Value} {i:Nat} {v:Value} (hA:zHh ops) (hL:L i=false):∀ (k:Nat) (a:Act),i<k→lay ops (up L i true) (up vs i v) k a=(lay ops L vs k a).put (zBq ops i) v
 | 0,_,h=>zm
 | k+1,a,h=>by
  simp only [lay]
  by_cases hik:i=k
  ·subst hik
   rw [lay_off i a (Nat.le_refl _),zBx,zBx,hL]
   simp
  ·rw [zL6 hA hL k a zm,zAg _ _ (Ne.symm hik),zAg _ _ (Ne.symm hik)]
   split
   ·exact Act.put_comm _ _ _ fun d hd=>hA i k d hik hd
   ·rfl

theorem put_size (a:Act) (d:Option Tmp) (v:Value):(a.put d v).tmps.size=a.tmps.size:=by
 cases d <;> simp [Act.put]

theorem zJ3 {ops:Array Oper} {L:Nat→Bool} {vs:Nat→Value}:∀ (k:Nat) (a:Act),(lay ops L vs k a).tmps.size=a.tmps.size
 | 0,_=>rfl
 | k+1,a=>by
  simp only [lay]
  split
  ·rw [put_size,zJ3 k a]
  ·exact zJ3 k a

theorem zWx (a:Act) (s:Tmp) (v:Value) (h:s<a.tmps.size):(a.put (some s) v).eval (.tmp s)=v:=by
 simp [Act.put,Act.eval,h]

theorem zRg (a:Act) (d:Option Tmp) (s:Tmp) (v:Value) (h:d≠some s):(a.put d v).eval (.tmp s)=a.eval (.tmp s):=by
 cases d with
 | none=>rfl
 | some d=>
  have hne:d≠s:=fun e=>h (by rw [e])
  simp [Act.put,Act.eval,Array.getElem?_setIfInBounds_ne hne]

theorem zJ1 {ops:Array Oper} {L:Nat→Bool} {vs:Nat→Value} {s:Tmp}:∀ (k:Nat) (a:Act),(∀ j,j<k→L j=true→zBq ops j≠some s)→(lay ops L vs k a).eval (.tmp s)=a.eval (.tmp s)
 | 0,_,_=>rfl
 | k+1,a,h=>by
  simp only [lay]
  split
  ·rename_i hk
   rw [zRg _ _ _ _ (h k zm hk),zJ1 k a fun j hj=>h j zm]
  ·exact zJ1 k a fun j hj=>h j zm

theorem zL5 {ops:Array Oper} {L:Nat→Bool} {vs:Nat→Value} {s:Tmp} {j:Nat} (hA:zHh ops) (hj:L j=true) (hd:zBq ops j=some s):∀ (k:Nat) (a:Act),j<k→s<a.tmps.size→(lay ops L vs k a).eval (.tmp s)=vs j
 | 0,_,h,_=>zm
 | k+1,a,h,hs=>by
  simp only [lay]
  by_cases hjk:j=k
  ·subst hjk
   rw [if_pos hj,hd,zWx _ _ _ (by rw [zJ3];exact hs)]
  ·split
   ·rw [zRg _ _ _ _ (hA j k s hjk hd),zL5 hA hj hd k a zm hs]
   ·exact zL5 hA hj hd k a zm hs

def zDb (ops:Array Oper) (L:Nat→Bool):Prop:=∀ j o,ops[j]?=some o→L j=true→∀ e∈o.after,Region.binds .any e=true→L e.on=true

def lst (listed:Array Bool) (j:Nat):Bool:=listed.getD j false

theorem zMa {listed:Array Bool} {i:Nat} (h:i<listed.size):lst (listed.setIfInBounds i true)=up (lst listed) i true:=by
 funext j
 unfold lst up
 by_cases hj:j=i
 ·subst hj;simp [h]
 ·rw [if_neg hj,Go.getD_set_ne false (Ne.symm hj)]

theorem zIy {ops:Array Oper} {listed:Array Bool} (hsz:listed.size=ops.size) (hB:∀ i o,ops[i]?=some o→∀ e∈o.after,Region.binds .any e=true→e.on<i) (hr:Region.ready .any ops listed=[]) :
  ∀ (n j:Nat),j<n→j<ops.size→lst listed j=true
 | 0,j,h,_=>zm
 | n+1,j,h,hj=>by
  by_cases hjn:j<n
  ·exact zIy hsz hB hr n j hjn hj
  ·have hjn':j=n:=zm
   by_cases hl:lst listed j=true
   ·exact hl
   ·exfalso
    have hm:j∈Region.ready .any ops listed:=by
     rw [mem_ready]
     refine ⟨?_,ops[j],by simp [hj],fun e he hb=>?_⟩
     ·unfold lst at hl
      simp [hsz,hj] at hl ⊢
      exact hl
     ·have:=hB j ops[j] (by simp [hj]) e he hb
      exact zIy hsz hB hr n e.on zm zm
    rw [hr] at hm
    cases hm

theorem zKw {P:Program} {ops:Array Oper} {Q:Exit→Act→World→Prop} {id:Nat} {a:Act} {w:World} (hm:P.follows .mixedOrders=true) (hA:zHh ops)
  (hB:∀ i o,ops[i]?=some o→∀ e∈o.after,Region.binds .any e=true→e.on<i) (G:(Nat→Bool)→(Nat→Value)→World→Prop)
  (h0:G (fun _=>false) (fun _=>undef) { w with drawn:=w.drawn+1 })
  (hs:∀ i o,ops[i]?=some o→∀ L vs w,G L vs w→L i=false→(∀ e∈o.after,Region.binds .any e=true→L e.on=true)→zDb ops L →
   wpOp P ops Q i (fun a' w'=>∃ v,a'=(lay ops L vs ops.size a).put o.dst v∧G (up L i true) (up vs i v) w') (lay ops L vs ops.size a) w)
  (hf:∀ L vs w,(∀ j,j<ops.size→L j=true)→G L vs w→Q .normal (lay ops L vs ops.size a) w):(Code.region id ops true).wp P Q a w:=by
 apply wp_region_any hm
 have key:∀ (fuel:Nat) (listed:Array Bool) (a':Act) (w':World),listed.size=ops.size→zDb ops (lst listed)→(∃ vs,a'=lay ops (lst listed) vs ops.size a∧G (lst listed) vs w')→listed.count false≤fuel →
   wpAny P .any ops Q fuel listed a' w':=by
  intro fuel
  induction fuel with
  | zero=>
   intro listed a' w' hsz hc ⟨vs,ha,hG⟩ hcount
   have hr:Region.ready .any ops listed=[]:=by
    refine List.eq_nil_iff_forall_not_mem.2 fun j hj=>?_
    obtain ⟨h1,o,ho,_⟩:=mem_ready.1 hj
    have hlt:j<ops.size:=(Array.getElem?_eq_some_iff.1 ho).1
    have hz:listed.count false=0:=zm
    rw [Array.count_eq_zero] at hz
    apply hz
    have hjl:j<listed.size:=zm
    have:listed[j]=false:=by simpa [hjl] using h1
    rw [← this]
    exact Array.getElem_mem hjl
   exact ⟨hr,by rw [ha];exact hf _ vs w' (fun j hj=>zIy hsz hB hr (j+1) j zm hj) hG⟩
  | succ fuel ih=>
   intro listed a' w' hsz hc ⟨vs,ha,hG⟩ hcount
   refine ⟨fun hr=>by rw [ha];exact hf _ vs w' (fun j hj=>zIy hsz hB hr (j+1) j zm hj) hG,fun i hi=>?_⟩
   obtain ⟨h1,o,ho,hall⟩:=mem_ready.1 hi
   have hlt:i<ops.size:=(Array.getElem?_eq_some_iff.1 ho).1
   have hil:i<listed.size:=zm
   have h1':listed[i]=false:=by simpa [hil] using h1
   have hLi:lst listed i=false:=by simp [lst,hil,h1']
   have hdst:zBq ops i=o.dst:=by simp [zBq,ho]
   have:=hs i o ho (lst listed) vs w' hG hLi hall hc
   rw [← ha] at this
   refine wpOp_mono ?_ this
   rintro a2 w2 ⟨v,rfl,hG2⟩
   refine ih _ _ _ (by simp [hsz]) ?_ ⟨up vs i v,?_,?_⟩ ?_
   ·rw [zMa hil]
    intro j oj hoj hj e he hb
    by_cases hji:j=i
    ·subst hji
     rw [ho] at hoj
     cases hoj
     have h3:=hall e he hb
     have h4:=hB j o ho e he hb
     rw [zAg _ _ zm]
     exact h3
    ·rw [zAg _ _ hji] at hj
     have h3:=hc j oj hoj hj e he hb
     by_cases hei:e.on=i
     ·rw [hei,zBx]
     ·rw [zAg _ _ hei];exact h3
   ·rw [zMa hil,zL6 hA hLi _ _ hlt,hdst,ha]
   ·rw [zMa hil];exact hG2
   ·have h5:(listed.setIfInBounds i true).count false=listed.count false-1:=by
     have h6:listed.setIfInBounds i true=listed.set i true hil:=by simp [Array.setIfInBounds,hil]
     rw [h6,Array.count_set hil,h1']
     simp
    omega
 have hl0:lst (Array.replicate ops.size false)=fun _=>false:=by
  funext j
  unfold lst
  by_cases hj:j<ops.size <;> simp [hj]
 refine key _ _ _ _ (by simp) ?_ ⟨fun _=>undef,?_,by rw [hl0];exact h0⟩ ?_
 ·rw [hl0];intro j o _ h;cases h
 ·rw [hl0]
  have:∀ k,lay ops (fun _=>false) (fun _=>undef) k a=a:=fun k=>by
   induction k with
   | zero=>rfl
   | succ k ih=>simp [lay,ih]
  exact (this _).symm
 ·simp

end Go.Proofs.YtjadciofpgjofaaGreatDoor
namespace Go.Proofs.YtjadciofpgjofaaGreatDoor
open Go.RowKit

theorem hidd {p:Prop} (h:p):Hid p:=h

def val:List Int→Int
 | []=>0
 | x::r=>x+4294967296*val r

def Dig (x:Int):Prop:=0≤x∧x<4294967296

def Digs (xs:List Int):Prop:=∀ x∈xs,Dig x

def Cells (w:World) (ao:Option Addr) (xs:List Int):Prop:=
 Digs xs∧(xs=[]∨∃ b off,ao=some ⟨b,off,none⟩∧b<w.heap.size∧∀ j,j<xs.length→w.cell? ⟨b,off+j,none⟩=some (.int .u32 (xs.getD j 0)))

theorem Digs.getD {xs:List Int} (h:Digs xs) (k:Nat):0≤xs.getD k 0∧xs.getD k 0<4294967296:=by
 by_cases hk:k<xs.length
 ·have:xs.getD k 0=xs[k]:=by simp [hk]
  rw [this];exact h _ (List.getElem_mem hk)
 ·have:xs.getD k 0=0:=by simp [Nat.le_of_not_lt hk]
  rw [this];omega

theorem Cells.mono {w w':World} {ao:Option Addr} {xs:List Int} (h:Cells w ao xs) (hb:Below w.heap.size w w'):Cells w' ao xs:=by
 refine ⟨h.1,?_⟩
 rcases h.2 with h0 | ⟨b,off,hao,hlt,hc⟩
 ·exact .inl h0
 ·exact .inr ⟨b,off,hao,Nat.lt_of_lt_of_le hlt hb.size,fun j hj=>by rw [hb.cell (p:=⟨b,off+j,none⟩) hlt];exact hc j hj⟩

theorem Cells.at {w:World} {ao:Option Addr} {xs:List Int} (h:Cells w ao xs) {k:Nat} (hk:k<xs.length) :
  ∃ b off,ao=some ⟨b,off,none⟩∧b<w.heap.size∧(∃ x,w.cell? ⟨b,off+k,none⟩=some (.int .u32 x)∧0≤x∧x<4294967296∧Hid (xs.getD k 0=x)):=by
 rcases h.2 with h0 | ⟨b,off,hao,hlt,hc⟩
 ·subst h0;simp at hk
 ·exact ⟨b,off,hao,hlt,_,hc k hk,(h.1.getD k).1,(h.1.getD k).2,rfl⟩

theorem Cells.at' {w:World} {b off:Nat} {xs:List Int} (h:Cells w (some ⟨b,off,none⟩) xs) {k:Nat} (hk:k<xs.length) :
  ∃ x,w.cell? ⟨b,off+k,none⟩=some (.int .u32 x)∧0≤x∧x<4294967296∧Hid (xs.getD k 0=x):=by
 obtain ⟨b',off',hao,_,h⟩:=h.at hk
 cases hao
 exact h

theorem Cells.take {w:World} {ao:Option Addr} {xs:List Int} (h:Cells w ao xs) (n:Nat):Cells w ao (xs.take n):=by
 refine ⟨fun x hx=>h.1 x (List.mem_of_mem_take hx),?_⟩
 rcases h.2 with h0 | ⟨b,off,hao,hlt,hc⟩
 ·subst h0;simp
 ·refine .inr ⟨b,off,hao,hlt,fun j hj=>?_⟩
  have hj2:j<n∧j<xs.length:=by simp only [List.length_take] at hj;omega
  rw [hc j hj2.2]
  simp [List.getD,hj2.1]

def Row (w:World) (e:TypeId) (b:Nat) (zs:List Int):Prop:=
 Digs zs∧w.heap[b]?=some (.cells (zs.map (Value.int .u32)).toArray e (0,0))

theorem Row.lt {w:World} {e:TypeId} {b:Nat} {zs:List Int} (h:Row w e b zs):b<w.heap.size:=
 (Array.getElem?_eq_some_iff.1 h.2).1

theorem Row.cell {w:World} {e:TypeId} {b:Nat} {zs:List Int} (h:Row w e b zs) {j:Nat} (hj:j<zs.length):w.cell? ⟨b,j,none⟩=some (.int .u32 (zs.getD j 0)):=by
 rw [cell_of_row w b j _ e (0,0) h.2]
 simp [hj]

theorem Row.at {w:World} {e:TypeId} {b:Nat} {zs:List Int} (h:Row w e b zs) {j:Nat} (hj:j<zs.length) :
  ∃ x,w.cell? ⟨b,j,none⟩=some (.int .u32 x)∧0≤x∧x<4294967296∧Hid (zs.getD j 0=x):=
 ⟨_,h.cell hj,(h.1.getD j).1,(h.1.getD j).2,rfl⟩

theorem Row.frozen {w:World} {e:TypeId} {b:Nat} {zs:List Int} (h:Row w e b zs) (j:Nat):w.frozen? ⟨b,j,none⟩=false:=by
 simp [World.frozen?,h.2]

theorem Row.cells {w:World} {e:TypeId} {b:Nat} {zs:List Int} (h:Row w e b zs):Cells w (some ⟨b,0,none⟩) zs:=
 ⟨h.1,.inr ⟨b,0,rfl,h.lt,fun j hj=>by rw [Nat.zero_add];exact h.cell hj⟩⟩

theorem Digs.set {zs:List Int} (h:Digs zs) (j:Nat) {x:Int} (hx:Dig x):Digs (zs.set j x):=by
 intro y hy
 rcases List.mem_or_eq_of_mem_set hy with h1 | h1
 ·exact h y h1
 ·subst h1;exact hx

theorem Row.set {w:World} {e:TypeId} {b:Nat} {zs:List Int} (h:Row w e b zs) {j:Nat} {x:Int} (hx:Dig x) :
  Row (w.setCell ⟨b,j,none⟩ (.int .u32 x)) e b (zs.set j x):=by
 refine ⟨h.1.set j hx,?_⟩
 have hb:=h.lt
 have h2:=h.2
 simp only [World.setCell,Array.getElem?_modify,if_true,h2,Option.map_some,Option.isSome_none]
 simp

theorem Row.mono {w w':World} {e:TypeId} {b:Nat} {zs:List Int} (h:Row w e b zs) {B:Nat} (hb:Below B w w') (hB:b<B):Row w' e b zs:=
 ⟨h.1,by rw [hb.block b hB];exact h.2⟩

structure Sl (w:World) (ao:Option Addr) (n c:Nat) (xs:List Int):Prop where
 len:xs.length=n
 cap:n≤c
 cells:Cells w ao xs

theorem Sl.mono {w w':World} {ao:Option Addr} {n c:Nat} {xs:List Int} (h:Sl w ao n c xs) (hb:Below w.heap.size w w'):Sl w' ao n c xs:=
 ⟨h.len,h.cap,h.cells.mono hb⟩

theorem Sl.digs {w:World} {ao:Option Addr} {n c:Nat} {xs:List Int} (h:Sl w ao n c xs):Digs xs:=h.cells.1

theorem Sl.nil (w:World):Sl w none 0 0 []:=⟨rfl,Nat.le_refl _,fun _ hx=>by simp at hx,.inl rfl⟩

theorem Sl.take {w:World} {ao:Option Addr} {n c:Nat} {xs:List Int} (h:Sl w ao n c xs) {m:Nat} (hm:m≤n):Sl w ao m c (xs.take m):=
 ⟨by rw [List.length_take,h.len];omega,Nat.le_trans hm h.cap,h.cells.take m⟩

theorem Row.sl {w:World} {e:TypeId} {b n:Nat} {zs:List Int} (h:Row w e b zs) (hn:zs.length=n):Sl w (some ⟨b,0,none⟩) n n zs:=
 ⟨hn,Nat.le_refl _,h.cells⟩

theorem zEi {P:Program} (w:World) {ops:Array Oper} {rest:List Oper} {o:Oper} {a:Act} {Q:Exit→Act→World→Prop}
  (hg:o.guard=none) (l c:Operand) (t:TypeId) (hop:o.op=Op.makeSlice t l c)
  (e:TypeId) (h1:P.underlying t=some (.slice e)) (h2:(P.info? e).map (fun i=>(i.zero,i.size,i.bytes))=some (some (.int .u32 0),1,4))
  (kl kc:IntKind) (L C:Int) (hl:a.eval l=.int kl L) (hc:a.eval c=.int kc C) (n:Nat) (hL:L=(n:Int)) (hC:C=(n:Int)) (b2:n≤70368744177664)
  (hK:∀ w',Row w' e w.heap.size (List.replicate n 0)→Below w.heap.size w w'→w'.heap.size=w.heap.size+1→wpList P ops Q rest (a.put o.dst (.slice (some ⟨w.heap.size,0,none⟩) n n)) w') :
  wpList P ops Q (o::rest) a w:=by
 obtain ⟨i,hi,hz,hs,hb⟩:=info_parts h2
 refine wpList_plain hg fun K hK'=>?_
 have hrun:=run_make (P:=P) w t e i _ h1 hi hz kl kc n n zm zm (by rw [hb];omega) zm
 subst hL
 subst hC
 unfold Oper.wp
 simp [execOp,hop,hl,hc,hrun,Result.andThen]
 refine hK' _ _ (hK _ ?_ ((Below.refl _ _).alloc (Nat.le_refl _) _) (by simp))
 refine ⟨fun x hx=>?_,?_⟩
 ·obtain ⟨_,rfl⟩:=List.mem_replicate.1 hx;exact ⟨zm,zm⟩
 ·rw [heap_alloc_new]
  have:(madeCells (Value.int IntKind.u32 0).cells (n*i.size))=((List.replicate n (0:Int)).map (Value.int .u32)).toArray:=by
   rw [hs,Nat.mul_one]
   apply Array.ext'
   have:=toList_madeCells_one (Value.int .u32 0) n
   simpa [Value.cells] using this
  simp [this]

theorem zX6 {P:Program} {w:World} {ops:Array Oper} {rest:List Oper} {o:Oper} {a:Act} {Q:Exit→Act→World→Prop} (hgd:o.guard=none) (d s:Operand) (dT sT:TypeId)
  (ho:o.op=.call { callee:=.builtin .copy,args:=#[d,s],argTypes:=#[dT,sT] }) (elem:TypeId) (hu:P.underlying dT=some (.slice elem)) (hsz:(P.info? elem).map (·.size)=some 1)
  (e:TypeId) (b n cd cs:Nat) (zs xs:List Int) (ao:Option Addr) (hd:a.eval d=.slice (some ⟨b,0,none⟩) n cd) (hs:a.eval s=.slice ao n cs) (hrow:Row w e b zs) (hz:zs.length=n) (hX:Sl w ao n cs xs)
  (B:Nat) (w0:World) (hb:Below B w0 w) (hB:B≤b)
  (h:∀ w',Row w' e b xs→Below B w0 w'→wpList P ops Q rest (a.put o.dst (goInt n)) w') :
  wpList P ops Q (o::rest) a w:=by
 have hl:=hX.len
 refine wpList_copy_splice hgd d s dT sT ho elem hu hsz (some ⟨b,0,none⟩) ao n cd n cs hd hs b 0 (zs.map (Value.int .u32)) e hrow.2 (xs.map (Value.int .u32)) (by simp [hl]) ?_ (by simp [hl,hz]) (ints_oneCell _ _) B w0 hb hB ?_
 ·intro h0
  refine ⟨rfl,?_⟩
  rcases hX.cells.2 with h1 | ⟨b2,off,hao,hlt,hc⟩
  ·subst h1;simp at h0
  ·refine ⟨_,hao,fun j v hv=>?_⟩
   have hj:j<xs.length:=by have:=(List.getElem?_eq_some_iff.1 hv).1;simpa using this
   have hadd:(⟨b2,off,none⟩:Addr).add j=⟨b2,off+j,none⟩:=by unfold Addr.add;split <;> simp_all
   rw [hadd,hc j hj,← hv]
   simp [hj]
 ·intro w' hg' hb'
  have hlen:((xs.map (Value.int .u32)).length:Int)=(n:Int):=by simp [hl]
  rw [hlen]
  refine h w' ⟨hX.digs,?_⟩ hb'
  have:=hg'.out
  rw [this]
  simp [splice,hl,hz]

def pw (k:Nat):Int:=4294967296^k
theorem zDo:pw 0=1:=rfl
theorem zCy (k:Nat):pw (k+1)=pw k*4294967296:=Int.pow_succ _ _
theorem zA0 (k:Nat):0<pw k:=Int.pow_pos zd
theorem zEs (j k:Nat):pw (j+k)=pw j*pw k:=Int.pow_add _ _ _

theorem zNs (xs ys:List Int):val (xs++ys)=val xs+pw xs.length*val ys:=by
 induction xs with
 | nil=>simp [val,zDo]
 | cons x r ih=>
  simp only [List.cons_append,val,ih,List.length_cons,zCy,Int.mul_add]
  have:pw r.length*4294967296*val ys=4294967296*(pw r.length*val ys):=by rw [Int.mul_comm (pw r.length),Int.mul_assoc]
  omega

theorem zAq (xs:List Int) (k:Nat):val (xs.take (k+1))=val (xs.take k)+pw k*xs.getD k 0:=by
 by_cases hk:k<xs.length
 ·rw [List.take_succ_eq_append_getElem hk,zNs,List.length_take,Nat.min_eq_left zm]
  simp [val,hk]
 ·have h1:xs.take (k+1)=xs:=List.take_of_length_le zm
  have h2:xs.take k=xs:=List.take_of_length_le zm
  simp [h1,h2,Nat.le_of_not_lt hk]

theorem zAw (xs:List Int) {k:Nat} (h:xs.length≤k):val (xs.take k)=val xs:=by rw [List.take_of_length_le h]

theorem zC4 (zs:List Int) (k j:Nat) (x:Int) (h:k≤j):val ((zs.set j x).take k)=val (zs.take k):=by
 rw [List.take_set_of_le h]

theorem zB6 (zs:List Int) (j:Nat) (x:Int) (h:j<zs.length):(zs.set j x).getD j 0=x:=by simp [h]
theorem getD_set_ne (zs:List Int) (i j:Nat) (x:Int) (h:i≠j):(zs.set i x).getD j 0=zs.getD j 0:=by
 simp [List.getD,List.getElem?_set_ne h]

theorem zAm {xs:List Int} (h:Digs xs):0≤val xs:=by
 induction xs with
 | nil=>exact Int.le_refl _
 | cons x r ih=>
  have h1:=h x (by simp)
  have h2:=ih fun y hy=>h y (by simp [hy])
  unfold Dig at h1
  simp only [val];omega

theorem zBa {xs:List Int} (h:Digs xs):val xs<pw xs.length:=by
 induction xs with
 | nil=>simp [val,zDo]
 | cons x r ih=>
  have h1:=h x (by simp)
  have h2:=ih fun y hy=>h y (by simp [hy])
  unfold Dig at h1
  simp only [val,List.length_cons,zCy];omega

theorem zGq (n:Nat):val (List.replicate n 0)=0:=by
 induction n with
 | zero=>rfl
 | succ n ih=>simp [List.replicate_succ,val,ih]

theorem zDz (k:Nat) (t:Int):pw k*(t % 4294967296)+pw (k+1)*(t/4294967296)=pw k*t:=by
 rw [zCy,Int.mul_assoc,← Int.mul_add]
 congr 1
 omega

theorem zIx {k:Nat} {zs xs ys:List Int} {q x y:Int} (hk:k<zs.length) (h:val (zs.take k)+pw k*q=val (xs.take k)+val (ys.take k))
  (hx:xs.getD k 0=x) (hy:ys.getD k 0=y) :
  val ((zs.set k ((x+q+y) % 4294967296)).take (k+1))+pw (k+1)*((x+q+y)/4294967296)=val (xs.take (k+1))+val (ys.take (k+1)):=by
 rw [zAq,zC4 _ _ _ _ (Nat.le_refl _),zB6 _ _ _ hk,zAq xs,zAq ys,hx,hy]
 have h1:=zDz k (x+q+y)
 rw [Int.mul_add,Int.mul_add] at h1
 omega

theorem zEc {xs:List Int} {k:Nat} (h:xs.length≤k):xs.getD k 0=0:=by simp [h]

theorem zB3 (e:Int):IntKind.u64.wrap e=e % 18446744073709551616:=by
 simp [IntKind.wrap,IntKind.bits,IntKind.signed]

theorem zSh {k:Nat} {zs xs ys:List Int} {q x y:Int} (hk:k<zs.length) (h:val (zs.take k)=val (xs.take k)-val (ys.take k)+pw k*q)
  (hx:xs.getD k 0=x) (hy:ys.getD k 0=y) :
  val ((zs.set k ((x-q-y) % 4294967296)).take (k+1))=val (xs.take (k+1))-val (ys.take (k+1))+pw (k+1)*(-((x-q-y)/4294967296)):=by
 rw [zAq,zC4 _ _ _ _ (Nat.le_refl _),zB6 _ _ _ hk,zAq xs,zAq ys,hx,hy]
 have h1:=zDz k (x-q-y)
 rw [Int.mul_sub,Int.mul_sub] at h1
 rw [Int.mul_neg]
 omega

theorem sub_dig (x q y:Int) (_:0≤x) (_:x<4294967296) (_:0≤q) (_:q≤1) (_:0≤y) (_:y<4294967296) :
  IntKind.u64.wrap (IntKind.u64.wrap (x-q)-y) % 4294967296=(x-q-y) % 4294967296:=by
 rw [zB3,zB3];omega
theorem sub_bor (x q y:Int) (_:0≤x) (_:x<4294967296) (_:0≤q) (_:q≤1) (_:0≤y) (_:y<4294967296) :
  IntKind.u64.wrap (IntKind.u64.wrap (x-q)-y)/9223372036854775808=-((x-q-y)/4294967296):=by
 rw [zB3,zB3];omega
theorem sub_dig0 (x q:Int) (_:0≤x) (_:x<4294967296) (_:0≤q) (_:q≤1) :
  IntKind.u64.wrap (x-q) % 4294967296=(x-q) % 4294967296:=by
 rw [zB3];omega
theorem sub_bor0 (x q:Int) (_:0≤x) (_:x<4294967296) (_:0≤q) (_:q≤1) :
  IntKind.u64.wrap (x-q)/9223372036854775808=-((x-q)/4294967296):=by
 rw [zB3];omega

def Canon (xs:List Int):Prop:=Digs xs∧(xs.length=0∨pw (xs.length-1)≤val xs)

theorem zBu {j k:Nat} (h:j≤k):pw j≤pw k:=by
 obtain ⟨d,rfl⟩:=Nat.exists_eq_add_of_le h
 rw [zEs]
 have:=Int.mul_le_mul_of_nonneg_left (show (1:Int)≤pw d from zA0 d) (Int.le_of_lt (zA0 j))
 omega
theorem zu {x:Int} {a b:Nat} (h:x<pw a) (hab:a≤b:=by omega):x<pw b:=Int.lt_of_lt_of_le h (zBu hab)

theorem Canon.lt_of_length {xs ys:List Int} (hx:Digs xs) (hy:Canon ys) (h:xs.length<ys.length):val xs<val ys:=by
 have h1:=zBa hx
 rcases hy.2 with h2 | h2
 ·omega
 ·have:=zBu (show xs.length≤ys.length-1 by omega)
  omega

theorem Canon.length_eq {xs ys:List Int} (hx:Canon xs) (hy:Canon ys) (h:val xs=val ys):xs.length=ys.length:=by
 rcases Nat.lt_trichotomy xs.length ys.length with h1 | h1 | h1
 ·have:=Canon.lt_of_length hx.1 hy h1;omega
 ·exact h1
 ·have:=Canon.lt_of_length hy.1 hx h1;omega

theorem val_inj:∀ {xs ys:List Int},Digs xs→Digs ys→xs.length=ys.length→val xs=val ys→xs=ys
 | [],[],_,_,_,_=>rfl
 | [],_::_,_,_,h,_=>by simp at h
 | _::_,[],_,_,h,_=>by simp at h
 | x::r,y::s,hx,hy,hl,hv=>by
  have h1:=hx x (by simp)
  have h2:=hy y (by simp)
  unfold Dig at h1 h2
  simp only [val] at hv
  have e:x=y:=zm
  subst e
  rw [val_inj (xs:=r) (ys:=s) (fun z hz=>hx z (by simp [hz])) (fun z hz=>hy z (by simp [hz])) (by simpa using hl) zm]

theorem Canon.inj {xs ys:List Int} (hx:Canon xs) (hy:Canon ys) (h:val xs=val ys):xs=ys:=
 val_inj hx.1 hy.1 (hx.length_eq hy h) h

theorem Canon.zero {xs:List Int} (hx:Canon xs):xs.length=0 ↔ val xs=0:=by
 constructor
 ·intro h;rw [List.length_eq_zero_iff.1 h];rfl
 ·intro h
  rcases hx.2 with h1 | h1
  ·exact h1
  ·have:=zA0 (xs.length-1);omega

theorem Canon.length_le {xs:List Int} (hx:Canon xs) {k:Nat} (h:val xs<pw k):xs.length≤k:=by
 rcases hx.2 with h1 | h1
 ·omega
 ·by_cases hk:xs.length≤k
  ·exact hk
  ·have:=zBu (show k≤xs.length-1 by omega);omega

theorem zKd (i:Nat) (x y:Int) (hx0:0≤x) (hx:x<18446744073709551616) (hy0:0≤y) (hy:y<18446744073709551616) (hyi:y<2^i) (hxi:x % 2^i=0) :
  bits .or .u64 x y=x+y∧bits .or .u64 y x=x+y:=by
 obtain ⟨a,rfl⟩:=Int.eq_ofNat_of_zero_le hx0
 obtain ⟨b,rfl⟩:=Int.eq_ofNat_of_zero_le hy0
 have e:((2^i:Nat):Int)=2^i:=by simp
 have h1:b<2^i:=by rw [← e] at hyi;omega
 have h2:a % 2^i=0:=by rw [← e] at hxi;omega
 have h3:=nat_join i a b h2 h1
 constructor
 ·rw [u64_or_nat a b zm zm,h3];rfl
 ·rw [u64_or_nat b a zm zm,Nat.or_comm,h3];rfl

theorem or_u32 (i:Nat) (x y:Int) (hx0:0≤x) (hx:x<4294967296) (hy0:0≤y) (hy:y<4294967296) (hyi:y<2^i) (hxi:x % 2^i=0) :
  bits .or .u32 x y=x+y∧bits .or .u32 y x=x+y:=by
 obtain ⟨a,rfl⟩:=Int.eq_ofNat_of_zero_le hx0
 obtain ⟨b,rfl⟩:=Int.eq_ofNat_of_zero_le hy0
 have e:((2^i:Nat):Int)=2^i:=by simp
 have h1:b<2^i:=by rw [← e] at hyi;omega
 have h2:a % 2^i=0:=by rw [← e] at hxi;omega
 have h3:=nat_join i a b h2 h1
 constructor
 ·rw [u32_or_nat a b zm zm,h3];rfl
 ·rw [u32_or_nat b a zm zm,Nat.or_comm,h3];rfl

theorem zIa (x y:Int) (hx0:0≤x) (hx:x<4294967296) (hy0:0≤y) (hy:y<4294967296) :
  bits .or .u64 x (y*4294967296)=x+y*4294967296∧bits .or .u64 (y*4294967296) x=x+y*4294967296:=by
 have h:=zKd 32 (y*4294967296) x zm zm hx0 zm (by simpa using hx) (by simp)
 exact ⟨by rw [h.2];omega,by rw [h.1];omega⟩

theorem zWq (x:Int) (hx0:0≤x) (hx:x<18446744073709551616):bits .or .u64 0 x=x:=by
 have h:=zKd 64 0 x zm zm hx0 hx (by simpa using hx) (by simp)
 rw [h.1];omega

theorem zGm (k:Nat):(2:Int)^(k+1)=2^k*2:=Int.pow_succ _ _
theorem zA6 (k:Nat):(0:Int)<2^k:=Int.pow_pos zd
theorem zCb (k:Nat):pw k=2^(32*k):=by
 unfold pw;rw [Int.pow_mul];rfl

def cmpI (x y:Int):Int:=if x<y then -1 else if x=y then 0 else 1

theorem zC3 (xs:List Int) {k:Nat} (h:k≤xs.length):val xs=val (xs.take k)+pw k*val (xs.drop k):=by
 have e:=zNs (xs.take k) (xs.drop k)
 rw [List.take_append_drop,List.length_take,Nat.min_eq_left h] at e
 exact e

theorem Digs.take {xs:List Int} (h:Digs xs) (k:Nat):Digs (xs.take k):=fun y hy=>h y (List.mem_of_mem_take hy)
theorem Digs.drop {xs:List Int} (h:Digs xs) (k:Nat):Digs (xs.drop k):=fun y hy=>h y (List.mem_of_mem_drop hy)

theorem zI5 {xs ys:List Int} {k:Nat} (hx:Digs xs) (hy:Digs ys) (hk:k<xs.length) (hl:xs.length=ys.length) (h:xs.drop (k+1)=ys.drop (k+1)) (hlt:xs.getD k 0<ys.getD k 0):val xs<val ys:=by
 rw [zC3 xs (show k+1≤xs.length by omega),zC3 ys (show k+1≤ys.length by omega),h,zAq,zAq]
 have a1:=zBa (hx.take k)
 have a0:=zAm (hy.take k)
 rw [List.length_take,Nat.min_eq_left zm] at a1
 have:=Int.mul_le_mul_of_nonneg_left (show xs.getD k 0+1≤ys.getD k 0 by omega) (Int.le_of_lt (zA0 k))
 rw [Int.mul_add] at this
 omega

theorem zOc {xs ys:List Int} {k:Nat} (hk:k<xs.length) (hl:xs.length=ys.length) (h:xs.drop (k+1)=ys.drop (k+1)) (he:xs.getD k 0=ys.getD k 0):xs.drop k=ys.drop k:=by
 rw [List.drop_eq_getElem_cons hk,List.drop_eq_getElem_cons (show k<ys.length by omega),h]
 have:xs[k]=ys[k]:=by simpa [hk,show k<ys.length by omega] using he
 rw [this]

theorem zJy (xs:List Int) (n k:Nat):(xs.take n).getD k 0=if k<n then xs.getD k 0 else 0:=by
 simp only [List.getD,List.getElem?_take]
 split <;> simp

theorem zC7 (xs:List Int) (n k:Nat):(xs.drop n).getD k 0=xs.getD (n+k) 0:=by
 simp [List.getD,List.getElem?_drop]

theorem zDj (xs:List Int) {k:Nat} (h:k<xs.length):val (xs.drop k)=xs.getD k 0+4294967296*val (xs.drop (k+1)):=by
 rw [List.drop_eq_getElem_cons h]
 simp [val,h]

theorem zEd (w:World) (b j:Nat) (u:Value):w.grownBy (w.setCell ⟨b,j,none⟩ u) (some b):=
 ⟨rfl,rfl,rfl,by simp,fun k _ hne=>Below.heap_setCell _ _ _ _ (fun e=>hne (by rw [e]))⟩

theorem zG4 {a b c:World} {r:Option Nat} (h:a.grownBy b r) (k:b.grownBy c r):a.grownBy c r:=
 ⟨k.os.trans h.os,k.tape.trans h.tape,k.output.trans h.output,Nat.le_trans h.size k.size,fun i hi hne=>(k.block i (Nat.lt_of_lt_of_le hi h.size) hne).trans (h.block i hi hne)⟩

theorem zIb (b:Bool) (w:World):Calls Tryz.prog 81 #[.bool b] w fun e w'=>e=.returned (.int .i64 (if b then -1 else 1))∧w=w':=by
 cases b
 ·go_enter Tryz.func81,Tryz.ntmps81
  go_wp2
  go_ret
  exact ⟨rfl,rfl⟩
 ·go_enter Tryz.func81,Tryz.ntmps81
  go_wp2
  go_ret
  exact ⟨rfl,rfl⟩

theorem zBm (w:World) (ax:Option Addr) (n c:Nat) (xs:List Int) (hX:Sl w ax n c xs) (hb:n≤4000000) :
  Calls Tryz.prog 80 #[.slice ax n c] w fun e w'=>∃ m,e=.returned (.slice ax m c)∧m≤n∧Sl w ax m c (xs.take m)∧val (xs.take m)=val xs∧Canon (xs.take m)∧w=w':=by
 have hn:=hidd hX.len
 have hx:=hX.cells
 have hnc:=hX.cap
 go_enter Tryz.func80,Tryz.ntmps80
 go_wp2
 go_loop [3] (fun v=>∃ k:Nat,k≤n∧v=.int .i64 k∧val (xs.take k)=val xs) (fun v=>(intOf v).toNat)
 case atStart=>exact ⟨n,Nat.le_refl _,rfl,zAw _ (by rw [hn.out];omega)⟩
 case round=>
  obtain ⟨k,hk,rfl,ht⟩:=hrel
  have HT:=hidd ht
  clear ht
  by_cases h0:0<k
  ·obtain ⟨b,off,rfl,hbl,x,hxc,hx0,hx1,HX⟩:=hx.at (k:=k-1) (by rw [hn.out];omega)
   by_cases hz:x=0
   ·have hz1:(x == 0)=true:=by simp [hz]
    have HZ:=hidd hz
    clear hz
    go_wp2
    go_round
    case rel=>
     refine ⟨k-1,zm,by go_num,?_⟩
     have e:=zAq xs (k-1)
     rw [show k-1+1=k from by omega,HX.out,HZ.out,HT.out] at e
     omega
    case measure=>simp [intOf];omega
   ·have hz1:(x == 0)=false:=by simp [hz]
    go_wp2
    go_ret
    refine ⟨k,rfl,hk,hX.take hk,HT.out,⟨(hX.take hk).digs,.inr ?_⟩,rfl⟩
    have e:=zAq xs (k-1)
    rw [show k-1+1=k from by omega,HX.out] at e
    have h1:=zAm (hX.take (show k-1≤n by omega)).digs
    have h2:=Int.mul_le_mul_of_nonneg_left (show (1:Int)≤x by omega) (Int.le_of_lt (zA0 (k-1)))
    rw [(hX.take hk).len]
    omega
  ·obtain rfl:k=0:=zm
   go_wp2
   go_ret
   exact ⟨0,rfl,hk,hX.take hk,HT.out,⟨(hX.take hk).digs,.inl (by simp)⟩,rfl⟩

theorem zI7 (w:World) (ax:Option Addr) (n c:Nat) (xs:List Int) (hX:Sl w ax n c xs) (hb:n≤4000000) :
  Calls Tryz.prog 119 #[.slice ax n c] w fun e w'=>e=.returned (.slice (some ⟨w.heap.size,0,none⟩) n n)∧Row w' 104 w.heap.size xs∧Below w.heap.size w w':=by
 go_enter Tryz.func119,Tryz.ntmps119
 go_wp2_with (first | (at_make;refine zEi _ rfl _ _ 27 rfl 104 Tryz.underlying27 (by kernel_rfl) _ _ _ _ rfl rfl n rfl rfl zm ?_;intro w1 hrow hb1 hs1) | (with_reducible refine zX6 rfl (.tmp 7) (.tmp 8) 27 27 rfl 104 Tryz.underlying27 (by kernel_rfl) 104 _ n n c _ xs ax rfl rfl hrow (by simp) (hX.mono hb1) w.heap.size w hb1 (Nat.le_refl _) ?_;intro w2 hrow2 hb2))
 go_ret
 exact ⟨rfl,hrow2,hb2⟩

theorem zIp (w:World) (ax:Option Addr) (n c:Nat) (xs:List Int) (hX:Sl w ax n c xs) (hb:n≤2) :
  Calls Tryz.prog 122 #[.slice ax n c] w fun e w'=>e=.returned (.int .u64 (val xs))∧w=w':=by
 have hn:=hidd hX.len
 have hx:=hX.cells
 go_enter Tryz.func122,Tryz.ntmps122
 go_wp2
 go_loop [3,8] (fun u i=>∃ (k:Nat) (q:Int),k≤n∧i=.int .i64 k∧u=.int .u64 q∧0≤q∧q<18446744073709551616∧q=val (xs.take k)) (fun _ i=>n-(intOf i).toNat)
 case atStart=>exact ⟨0,0,zm,rfl,rfl,zm,zm,by simp [val]⟩
 case round=>
  obtain ⟨k,q,hk,rfl,rfl,hq0,hq1,hv⟩:=hrel
  have HV:=hidd hv
  clear hv
  by_cases h0:k<n
  ·obtain ⟨b,off,rfl,hbl,x,hxc,hx0,hx1,HX⟩:=hx.at (k:=k) (by rw [hn.out];omega)
   rcases (by omega:k=0∨k=1) with rfl | rfl
   ·simp only [Nat.add_zero] at hxc
    go_wp2
    go_round
    case rel=>
     have e0:q=0:=HV.out
     have e1:val (xs.take 1)=x:=by rw [zAq xs 0,HX.out,zDo];simp [val]
     subst e0
     rw [zWq x hx0 zm]
     exact ⟨1,x,zm,rfl,rfl,hx0,zm,e1.symm⟩
    case measure=>simp [intOf];omega
   ·go_wp2
    go_round
    case rel=>
     have h0:=(zAq xs 0)
     have g:=hX.digs.getD 0
     have e2:val (xs.take 2)=q+x*4294967296:=by rw [zAq xs 1,HX.out,HV.out,zCy,zDo];omega
     have e1:q=xs.getD 0 0:=by rw [HV.out,h0,zDo];simp [val]
     rw [(zIa q x hq0 zm hx0 hx1).1]
     exact ⟨2,_,zm,rfl,rfl,zm,zm,e2.symm⟩
    case measure=>simp [intOf];omega
  ·go_wp2
   go_ret
   have e:q=val xs:=by rw [HV.out,zAw _ (by rw [hn.out];omega)]
   subst e
   exact ⟨rfl,rfl⟩

def zCw (v:Int) (m:Nat):Prop:=(v=0∧m=0)∨(0<m∧2^(m-1)≤v∧v<2^m)

theorem zN7 {xs:List Int} {n k:Nat} {x q:Int} (hd:Digs xs) (hl:xs.length=n) (h0:0<n) (hx:xs.getD (n-1) 0=x) (hx0:0<x) (hx1:x<4294967296)
  (hq:q=0) (h1:q*2^k≤x) (h2:x<(q+1)*2^k) (h3:k=0∨2^(k-1)≤x):zCw (val xs) (32*(n-1)+k):=by
 subst hq
 have e:=zAq xs (n-1)
 rw [show n-1+1=n from by omega,hx,zAw xs zm] at e
 have hd':Digs (xs.take (n-1)):=fun y hy=>hd y (List.mem_of_mem_take hy)
 have l0:=zAm hd'
 have l1:=zBa hd'
 rw [List.length_take,hl,Nat.min_eq_left zm] at l1
 have hp:=zA0 (n-1)
 have hk:0<k:=by
  rcases Nat.eq_zero_or_pos k with rfl | h
  ·simp at h2;omega
  ·exact h
 refine .inr ⟨zm,?_,?_⟩
 ·have h4:(2:Int)^(k-1)≤x:=by rcases h3 with h | h;omega;exact h
  rw [show 32*(n-1)+k-1=32*(n-1)+(k-1) from by omega,Int.pow_add,← zCb]
  have:=Int.mul_le_mul_of_nonneg_left h4 (Int.le_of_lt hp)
  omega
 ·have h5:x<2^k:=by simpa using h2
  have h4:x+1≤2^k:=zm
  rw [Int.pow_add,← zCb]
  have:=Int.mul_le_mul_of_nonneg_left h4 (Int.le_of_lt hp)
  rw [Int.mul_add] at this
  omega

theorem zHm (w:World) (ax:Option Addr) (n c:Nat) (xs:List Int) (hX:Sl w ax n c xs) (hc:Canon xs) (hb:n≤4000000) :
  Calls Tryz.prog 141 #[.slice ax n c] w fun e w'=>∃ m:Nat,e=.returned (.int .i64 m)∧zCw (val xs) m∧m≤32*n∧w=w':=by
 have hn:=hidd hX.len
 have hx:=hX.cells
 by_cases h0:n=0
 ·obtain rfl:=h0
  have e:xs=[]:=List.eq_nil_of_length_eq_zero hn.out
  go_enter Tryz.func141,Tryz.ntmps141
  go_wp2
  go_ret
  exact ⟨0,rfl,.inl ⟨by subst e;rfl,rfl⟩,zm,rfl⟩
 ·have h1:((n:Int) == 0)=false:=by simp;omega
  obtain ⟨b,off,rfl,hbl,x,hxc,hx0,hx1,HX⟩:=hx.at (k:=n-1) (by rw [hn.out];omega)
  have hxp:0<x:=by
   rcases hc.2 with h | h
   ·have:=hn.out;omega
   ·rcases (by omega:x=0∨0<x) with h2 | h2
    ·exfalso
     have e:=zAq xs (n-1)
     rw [show n-1+1=n from by omega,HX.out,h2,zAw xs (by rw [hn.out];omega)] at e
     have l1:=zBa (hX.take (show n-1≤n by omega)).digs
     rw [(hX.take (show n-1≤n by omega)).len] at l1
     rw [hn.out] at h
     omega
    ·exact h2
  go_enter Tryz.func141,Tryz.ntmps141
  go_wp2
  go_loop [3,4] (fun i u=>∃ (k:Nat) (q:Int),k≤32∧0≤q∧q<4294967296∧i=.int .i64 (32*((n:Int)-1)+k)∧u=.int .u32 q∧q*2^k≤x∧x<(q+1)*2^k∧(k=0∨2^(k-1)≤x)) (fun _ u=>(intOf u).toNat)
  case atStart=>exact ⟨0,x,zm,hx0,hx1,by simp,rfl,by simp,by simp;omega,.inl rfl⟩
  case round=>
   obtain ⟨k,q,hk,hq0,hq1,rfl,rfl,hv⟩:=hrel
   have HV:=hidd hv
   clear hv
   by_cases hq:0<q
   ·go_wp2
    go_round
    case rel=>
     obtain ⟨v1,v2,_⟩:=HV.out
     have hp:=zA6 k
     have h5:(2:Int)^k≤x:=by
      have:=Int.mul_le_mul_of_nonneg_right (show 1≤q by omega) (Int.le_of_lt hp)
      omega
     have hk2:k<32:=by
      rcases Nat.lt_or_ge k 32 with h | h
      ·exact h
      ·have:k=32:=zm
       subst this;simp at h5;omega
     refine ⟨k+1,q/2,zm,zm,zm,by rw [show ((k+1:Nat):Int)=(k:Int)+1 from rfl];congr 1;omega,rfl,?_,?_,.inr h5⟩
     ·rw [zGm]
      have:q/2*(2^k*2)=(q/2*2)*2^k:=by rw [Int.mul_comm (2^k),Int.mul_assoc]
      have h6:=Int.mul_le_mul_of_nonneg_right (show q/2*2≤q by omega) (Int.le_of_lt hp)
      omega
     ·rw [zGm]
      have:(q/2+1)*(2^k*2)=((q/2+1)*2)*2^k:=by rw [Int.mul_comm (2^k),Int.mul_assoc]
      have h6:=Int.mul_le_mul_of_nonneg_right (show q+1≤(q/2+1)*2 by omega) (Int.le_of_lt hp)
      omega
    case measure=>simp [intOf];omega
   ·go_wp2
    go_ret
    obtain ⟨v1,v2,v3⟩:=HV.out
    refine ⟨32*(n-1)+k,?_,zN7 hX.digs hn.out zm HX.out hxp hx1 zm v1 v2 v3,zm,rfl⟩
    have:((32*(n-1)+k:Nat):Int)=32*((n:Int)-1)+k:=zm
    rw [this];rfl

theorem zSz (w:World) (ax ay:Option Addr) (n m cx cy:Nat) (xs ys:List Int) (hX:Sl w ax n cx xs) (hY:Sl w ay m cy ys) (hnm:m≤n) (hb:n≤1000000) :
  Calls Tryz.prog 83 #[.slice ax n cx,.slice ay m cy] w fun e w'=>∃ ao c zs,e=.returned (.slice ao (n+1) c)∧Sl w' ao (n+1) c zs∧val zs=val xs+val ys∧Below w.heap.size w w':=by
 have hn:=hidd hX.len
 have hm:=hidd hY.len
 have hx:=hX.cells
 have hy:=hY.cells
 clear hX hY
 go_enter Tryz.func83,Tryz.ntmps83
 have hnm':¬ (n<m):=zm
 go_wp2_with (at_make;refine zEi _ rfl _ _ 27 rfl 104 Tryz.underlying27 (by kernel_rfl) _ _ _ _ rfl rfl (n+1) rfl rfl zm ?_;intro w1 hrow hb1 hs1)
 go_loopw [6,23] (fun c i wr=>∃ (k:Nat) (q:Int) (zs:List Int),k≤n∧i=.int .i64 k∧c=.int .u64 q∧0≤q∧q≤1∧zs.length=n+1∧Row wr 104 w.heap.size zs∧Below w.heap.size w wr∧val (zs.take k)+pw k*q=val (xs.take k)+val (ys.take k)) (fun _ i _=>n-(intOf i).toNat)
 case atStart=>exact ⟨0,0,_,Nat.zero_le _,rfl,rfl,zm,zm,by simp,hrow,hb1,by simp [val]⟩
 case round=>
  obtain ⟨k,q,zs,hk,rfl,rfl,hq0,hq1,hzl,hr,hbr,hval⟩:=hrel
  have HV:=hidd hval
  have HZ:=hidd hzl
  have hkz:k<zs.length:=zm
  have hnz:n<zs.length:=zm
  have hfr:=hr.frozen k
  clear hval hzl hrow hb1 hs1
  by_cases hkn:k<n
  ·obtain ⟨b,off,rfl,hbl,x,hxc0,hx0,hx1,HX⟩:=hx.at (k:=k) (by rw [hn.out];exact hkn)
   have hxc:=(hbr.cell (p:=⟨b,off+k,none⟩) hbl).trans hxc0
   clear hxc0
   obtain ⟨z,hzc,_,_,_⟩:=hr.at hkz
   by_cases hkm:k<m
   ·obtain ⟨b2,off2,rfl,hbl2,y,hyc0,hy0,hy1,HY⟩:=hy.at (k:=k) (by rw [hm.out];exact hkm)
    have hyc:=(hbr.cell (p:=⟨b2,off2+k,none⟩) hbl2).trans hyc0
    clear hyc0
    go_wp2
    go_roundw
    case rel=>exact ⟨k+1,_,zs.set k ((x+q+y) % 4294967296),zm,by go_num,rfl,zm,zm,by simp [HZ.out],hr.set ⟨zm,zm⟩,hbr.setCell (Nat.le_refl _) _,zIx hkz HV.out HX.out HY.out⟩
    case measure=>simp [intOf];omega
   ·go_wp2
    go_roundw
    case rel=>
     have HY:ys.getD k 0=0:=zEc (by rw [hm.out];omega)
     have:=zIx hkz HV.out HX.out HY
     simp only [Int.add_zero] at this
     exact ⟨k+1,_,zs.set k ((x+q) % 4294967296),zm,by go_num,rfl,zm,zm,by simp [HZ.out],hr.set ⟨zm,zm⟩,hbr.setCell (Nat.le_refl _) _,this⟩
    case measure=>simp [intOf];omega
  ·obtain rfl:k=n:=zm
   obtain ⟨z,hzc,_,_,_⟩:=hr.at hkz
   go_wp2
   go_ret
   refine ⟨_,_,zs.set k q,rfl,⟨by simp [HZ.out],Nat.le_refl _,(hr.set ⟨zm,zm⟩).cells⟩,?_,hbr.setCell (Nat.le_refl _) _⟩
   have e1:=zAq (zs.set k q) k
   rw [zAw _ (by simp [HZ.out]),zC4 _ _ _ _ (Nat.le_refl _),zB6 _ _ _ hkz] at e1
   have e2:=HV.out
   rw [zAw xs (by rw [hn.out];omega),zAw ys (by rw [hm.out];omega)] at e2
   omega

theorem zSy (w:World) (ax ay:Option Addr) (n m cx cy:Nat) (xs ys:List Int) (hX:Sl w ax n cx xs) (hY:Sl w ay m cy ys) (hnm:n<m) (hb:m≤1000000) :
  Calls Tryz.prog 83 #[.slice ax n cx,.slice ay m cy] w fun e w'=>∃ ao c zs,e=.returned (.slice ao (m+1) c)∧Sl w' ao (m+1) c zs∧val zs=val xs+val ys∧Below w.heap.size w w':=by
 have hn:=hidd hX.len
 have hm:=hidd hY.len
 have hx:=hX.cells
 have hy:=hY.cells
 clear hX hY
 go_enter Tryz.func83,Tryz.ntmps83
 go_wp2_with (at_make;refine zEi _ rfl _ _ 27 rfl 104 Tryz.underlying27 (by kernel_rfl) _ _ _ _ rfl rfl (m+1) rfl rfl zm ?_;intro w1 hrow hb1 hs1)
 go_loopw [6,23] (fun c i wr=>∃ (k:Nat) (q:Int) (zs:List Int),k≤m∧i=.int .i64 k∧c=.int .u64 q∧0≤q∧q≤1∧zs.length=m+1∧Row wr 104 w.heap.size zs∧Below w.heap.size w wr∧val (zs.take k)+pw k*q=val (ys.take k)+val (xs.take k)) (fun _ i _=>m-(intOf i).toNat)
 case atStart=>exact ⟨0,0,_,Nat.zero_le _,rfl,rfl,zm,zm,by simp,hrow,hb1,by simp [val]⟩
 case round=>
  obtain ⟨k,q,zs,hk,rfl,rfl,hq0,hq1,hzl,hr,hbr,hval⟩:=hrel
  have HV:=hidd hval
  have HZ:=hidd hzl
  have hkz:k<zs.length:=zm
  have hnz:m<zs.length:=zm
  have hfr:=hr.frozen k
  clear hval hzl hrow hb1 hs1
  by_cases hkm:k<m
  ·obtain ⟨b2,off2,rfl,hbl2,y,hyc0,hy0,hy1,HY⟩:=hy.at (k:=k) (by rw [hm.out];exact hkm)
   have hyc:=(hbr.cell (p:=⟨b2,off2+k,none⟩) hbl2).trans hyc0
   clear hyc0
   obtain ⟨z,hzc,_,_,_⟩:=hr.at hkz
   by_cases hkn:k<n
   ·obtain ⟨b,off,rfl,hbl,x,hxc0,hx0,hx1,HX⟩:=hx.at (k:=k) (by rw [hn.out];exact hkn)
    have hxc:=(hbr.cell (p:=⟨b,off+k,none⟩) hbl).trans hxc0
    clear hxc0
    go_wp2
    go_roundw
    case rel=>exact ⟨k+1,_,zs.set k ((y+q+x) % 4294967296),zm,by go_num,rfl,zm,zm,by simp [HZ.out],hr.set ⟨zm,zm⟩,hbr.setCell (Nat.le_refl _) _,zIx hkz HV.out HY.out HX.out⟩
    case measure=>simp [intOf];omega
   ·go_wp2
    go_roundw
    case rel=>
     have HX:xs.getD k 0=0:=zEc (by rw [hn.out];omega)
     have:=zIx hkz HV.out HY.out HX
     simp only [Int.add_zero] at this
     exact ⟨k+1,_,zs.set k ((y+q) % 4294967296),zm,by go_num,rfl,zm,zm,by simp [HZ.out],hr.set ⟨zm,zm⟩,hbr.setCell (Nat.le_refl _) _,this⟩
    case measure=>simp [intOf];omega
  ·obtain rfl:k=m:=zm
   obtain ⟨z,hzc,_,_,_⟩:=hr.at hkz
   go_wp2
   go_ret
   refine ⟨_,_,zs.set k q,rfl,⟨by simp [HZ.out],Nat.le_refl _,(hr.set ⟨zm,zm⟩).cells⟩,?_,hbr.setCell (Nat.le_refl _) _⟩
   have e1:=zAq (zs.set k q) k
   rw [zAw _ (by simp [HZ.out]),zC4 _ _ _ _ (Nat.le_refl _),zB6 _ _ _ hkz] at e1
   have e2:=HV.out
   rw [zAw xs (by rw [hn.out];omega),zAw ys (by rw [hm.out];omega)] at e2
   omega

theorem zIw (w:World) (ax ay:Option Addr) (n m cx cy:Nat) (xs ys:List Int) (hX:Sl w ax n cx xs) (hY:Sl w ay m cy ys) (hb1:n≤1000000) (hb2:m≤1000000) :
  Calls Tryz.prog 83 #[.slice ax n cx,.slice ay m cy] w fun e w'=>∃ ao k c zs,e=.returned (.slice ao k c)∧k≤max n m+1∧Sl w' ao k c zs∧val zs=val xs+val ys∧Below w.heap.size w w':=by
 by_cases h:m≤n
 ·refine (zSz w ax ay n m cx cy xs ys hX hY h hb1).mono ?_
  rintro e w' ⟨ao,c,zs,he,hs,hv,hB⟩
  exact ⟨ao,_,c,zs,he,zm,hs,hv,hB⟩
 ·refine (zSy w ax ay n m cx cy xs ys hX hY zm hb2).mono ?_
  rintro e w' ⟨ao,c,zs,he,hs,hv,hB⟩
  exact ⟨ao,_,c,zs,he,zm,hs,hv,hB⟩

theorem zNm (w:World) (ax ay:Option Addr) (n m cx cy:Nat) (xs ys:List Int) (hX:Sl w ax n cx xs) (hY:Sl w ay m cy ys) (hnm:m≤n) (hle:val ys≤val xs) (hb:n≤1000000) :
  Calls Tryz.prog 84 #[.slice ax n cx,.slice ay m cy] w fun e w'=>∃ ao c zs,e=.returned (.slice ao n c)∧Sl w' ao n c zs∧val zs=val xs-val ys∧Below w.heap.size w w':=by
 have hn:=hidd hX.len
 have hm:=hidd hY.len
 have hx:=hX.cells
 have hy:=hY.cells
 have HLE:=hidd hle
 clear hX hY hle
 go_enter Tryz.func84,Tryz.ntmps84
 go_wp2_with (at_make;refine zEi _ rfl _ _ 27 rfl 104 Tryz.underlying27 (by kernel_rfl) _ _ _ _ rfl rfl n rfl rfl zm ?_;intro w1 hrow hb1 hs1)
 go_loopw [6,15] (fun c i wr=>∃ (k:Nat) (q:Int) (zs:List Int),k≤n∧i=.int .i64 k∧c=.int .u64 q∧0≤q∧q≤1∧zs.length=n∧Row wr 104 w.heap.size zs∧Below w.heap.size w wr∧val (zs.take k)=val (xs.take k)-val (ys.take k)+pw k*q) (fun _ i _=>n-(intOf i).toNat)
 case atStart=>exact ⟨0,0,_,Nat.zero_le _,rfl,rfl,zm,zm,by simp,hrow,hb1,by simp [val]⟩
 case round=>
  obtain ⟨k,q,zs,hk,rfl,rfl,hq0,hq1,hzl,hr,hbr,hval⟩:=hrel
  have HV:=hidd hval
  have HZ:=hidd hzl
  have hfr:=hr.frozen k
  by_cases hkn:k<n
  ·have hkz:k<zs.length:=zm
   clear hval hzl hrow hb1 hs1
   obtain ⟨b,off,rfl,hbl,x,hxc0,hx0,hx1,HX⟩:=hx.at (k:=k) (by rw [hn.out];exact hkn)
   have hxc:=(hbr.cell (p:=⟨b,off+k,none⟩) hbl).trans hxc0
   clear hxc0
   obtain ⟨z,hzc,_,_,_⟩:=hr.at hkz
   by_cases hkm:k<m
   ·obtain ⟨b2,off2,rfl,hbl2,y,hyc0,hy0,hy1,HY⟩:=hy.at (k:=k) (by rw [hm.out];exact hkm)
    have hyc:=(hbr.cell (p:=⟨b2,off2+k,none⟩) hbl2).trans hyc0
    clear hyc0
    go_wp2
    go_roundw
    case rel=>
     rw [sub_dig x q y hx0 hx1 hq0 hq1 hy0 hy1,sub_bor x q y hx0 hx1 hq0 hq1 hy0 hy1]
     exact ⟨k+1,_,zs.set k ((x-q-y) % 4294967296),zm,by go_num,rfl,zm,zm,by simp [HZ.out],hr.set ⟨zm,zm⟩,hbr.setCell (Nat.le_refl _) _,zSh hkz HV.out HX.out HY.out⟩
    case measure=>simp [intOf];omega
   ·go_wp2
    go_roundw
    case rel=>
     rw [sub_dig0 x q hx0 hx1 hq0 hq1,sub_bor0 x q hx0 hx1 hq0 hq1]
     have HY:ys.getD k 0=0:=zEc (by rw [hm.out];omega)
     have:=zSh hkz HV.out HX.out HY
     simp only [Int.sub_zero] at this
     exact ⟨k+1,_,zs.set k ((x-q) % 4294967296),zm,by go_num,rfl,zm,zm,by simp [HZ.out],hr.set ⟨zm,zm⟩,hbr.setCell (Nat.le_refl _) _,this⟩
    case measure=>simp [intOf];omega
  ·obtain rfl:k=n:=zm
   clear hval hzl hrow hb1 hs1
   go_wp2
   go_ret
   refine ⟨_,_,zs,rfl,⟨HZ.out,Nat.le_refl _,hr.cells⟩,?_,hbr⟩
   have e2:=HV.out
   rw [zAw xs (by rw [hn.out];omega),zAw ys (by rw [hm.out];omega),zAw zs (by rw [HZ.out];omega)] at e2
   have hlt:=zBa hr.1
   rw [HZ.out] at hlt
   have h0:=zAm hr.1
   have hle:=HLE.out
   have hp:=zA0 k
   rcases (by omega:q=0∨q=1) with rfl | rfl
   ·omega
   ·omega

theorem Sl.drewN {w:World} {ao:Option Addr} {n c:Nat} {xs:List Int} (h:Sl w ao n c xs) (d:Nat):Sl (w.drewN d) ao n c xs:=⟨h.len,h.cap,h.cells⟩

theorem zQz (b:Bool) (w:World):Calls Tryz.prog 81 #[.bool b] w fun e w'=>e=.returned (.int .i64 (if b then -1 else 1))∧w'=w:=
 (zIb b w).mono fun _ _ h=>⟨h.1,h.2.symm⟩

def Drawn (w w':World):Prop:=∃ d,w'=w.drewN d
theorem Drawn.refl (w:World):Drawn w w:=⟨0,rfl⟩
theorem Drawn.cell {w w':World} (h:Drawn w w') (a:Addr):w'.cell? a=w.cell? a:=by obtain ⟨d,rfl⟩:=h;rfl
theorem Drawn.drewN {w w':World} (h:Drawn w w') (n:Nat):Drawn w (w'.drewN n):=by
 obtain ⟨d,rfl⟩:=h
 exact ⟨d+n,by rw [World.drewN_drewN]⟩
theorem Drawn.below {w w':World} (h:Drawn w w') (B:Nat):Below B w w':=by
 obtain ⟨d,rfl⟩:=h
 exact ⟨rfl,rfl,rfl,Nat.le_refl _,fun _ _=>rfl⟩
theorem Drawn.size {w w':World} (h:Drawn w w'):w'.heap.size=w.heap.size:=by obtain ⟨d,rfl⟩:=h;rfl

theorem zD6 (w:World) (ax ay:Option Addr) (n m cx cy:Nat) (xs ys:List Int) (hX:Sl w ax n cx xs) (hY:Sl w ay m cy ys) (hcx:Canon xs) (hcy:Canon ys) (hb1:n≤4000000) (hb2:m≤4000000) :
  Calls Tryz.prog 82 #[.slice ax n cx,.slice ay m cy] w fun e w'=>e=.returned (.int .i64 (cmpI (val xs) (val ys)))∧Drawn w w':=by
 have hn:=hidd hX.len
 have hm:=hidd hY.len
 have hx:=hX.cells
 have hy:=hY.cells
 by_cases hnm:n=m
 ·subst hnm
  go_enter Tryz.func82,Tryz.ntmps82
  go_wp2
  go_loopw [5] (fun i wr=>∃ (k:Nat),k≤n∧i=.int .i64 ((k:Int)-1)∧Drawn w wr∧xs.drop k=ys.drop k) (fun i _=>(intOf i+1).toNat)
  case atStart=>exact ⟨n,Nat.le_refl _,rfl,⟨0,rfl⟩,by rw [List.drop_of_length_le (by rw [hn.out];omega),List.drop_of_length_le (by rw [hm.out];omega)]⟩
  case round=>
   obtain ⟨k,hk,rfl,hd,hv⟩:=hrel
   have HV:=hidd hv
   clear hv
   by_cases h0:0<k
   ·obtain ⟨b,off,rfl,hbl,x,hxc,hx0,hx1,HX⟩:=hx.at (k:=k-1) (by rw [hn.out];omega)
    obtain ⟨b2,off2,rfl,hbl2,y,hyc,hy0,hy1,HY⟩:=hy.at (k:=k-1) (by rw [hm.out];omega)
    have hxr:=(hd.cell _).trans hxc
    have hyr:=(hd.cell _).trans hyc
    have hkx:k-1<xs.length:=by rw [hn.out];omega
    have hln:xs.length=ys.length:=by rw [hn.out,hm.out]
    have HLN:=hidd hln
    clear hxc hyc hln
    by_cases he:x=y
    ·subst he
     go_wp2
     go_quiet (fail)
     go_wp2
     go_roundw
     case rel=>
      refine ⟨k-1,zm,by go_num,hd.drewN _,?_⟩
      exact zOc hkx HLN.out (by rw [show k-1+1=k from by omega];exact HV.out) (by rw [HX.out,HY.out])
     case measure=>simp [intOf];omega
    ·have he1:(x == y)=false:=by simp [he]
     have he2:(x != y)=true:=by simp [he]
     have hk1:k-1+1=k:=zm
     rcases Int.lt_or_gt_of_ne he with h | h
     ·have HA:Hid (cmpI (val xs) (val ys)=-1):=by
       have:=zI5 hX.digs hY.digs hkx HLN.out (by rw [hk1];exact HV.out) (by rw [HX.out,HY.out];exact h)
       exact if_pos this
      clear hk1
      go_wp2
      go_quiet (fail)
      go_wp2
      obtain ⟨w2,hw2⟩:∃ w2,w2=wr.drewN nq:=⟨_,rfl⟩
      rw [← hw2]
      have hd2:Drawn w w2:=by rw [hw2];exact hd.drewN _
      have hxr2:=(hd2.cell _).trans ((hd.cell _).symm.trans hxr)
      have hyr2:=(hd2.cell _).trans ((hd.cell _).symm.trans hyr)
      clear hw2 hxr hyr
      go_quiet ((go_at_call 81;exact Calls.quiet_of_same (zQz _ _)))
      go_wp2
      go_ret
      refine ⟨?_,hd2.drewN _⟩
      rw [HA.out]
      rfl
     ·have HA:Hid (cmpI (val xs) (val ys)=1):=by
       have hky:k-1<ys.length:=by have:=HLN.out;omega
       have:=zI5 hY.digs hX.digs hky HLN.out.symm (by rw [hk1];exact HV.out.symm) (by rw [HX.out,HY.out];exact h)
       exact (if_neg zm).trans (if_neg zm)
      have h':decide (x<y)=false:=by simp;omega
      clear hk1
      go_wp2
      go_quiet (fail)
      go_wp2
      obtain ⟨w2,hw2⟩:∃ w2,w2=wr.drewN nq:=⟨_,rfl⟩
      rw [← hw2]
      have hd2:Drawn w w2:=by rw [hw2];exact hd.drewN _
      have hxr2:=(hd2.cell _).trans ((hd.cell _).symm.trans hxr)
      have hyr2:=(hd2.cell _).trans ((hd.cell _).symm.trans hyr)
      clear hw2 hxr hyr
      go_quiet ((go_at_call 81;exact Calls.quiet_of_same (zQz _ _)))
      go_wp2
      go_ret
      refine ⟨?_,hd2.drewN _⟩
      rw [HA.out]
      rfl
   ·go_wp2
    go_ret
    obtain rfl:k=0:=zm
    refine ⟨?_,hd⟩
    have e:xs=ys:=by simpa using HV.out
    subst e
    simp [cmpI]
 ·have h1:((n:Int) == m)=false:=by simp;omega
  have h2:((n:Int) != m)=true:=by simp;omega
  by_cases hlt:n<m
  ·go_enter Tryz.func82,Tryz.ntmps82
   go_wp2_with (go_at_call 81;refine (zIb _ _).mono ?_;rintro e w' ⟨rfl,rfl⟩)
   go_ret
   refine ⟨?_,0,rfl⟩
   have:=Canon.lt_of_length hX.digs hcy (by rw [hn.out,hm.out];exact hlt)
   simp [cmpI,this]
  ·go_enter Tryz.func82,Tryz.ntmps82
   go_wp2_with (go_at_call 81;refine (zIb _ _).mono ?_;rintro e w' ⟨rfl,rfl⟩)
   go_ret
   refine ⟨?_,0,rfl⟩
   have:=Canon.lt_of_length hY.digs hcx (by rw [hn.out,hm.out];omega)
   simp [cmpI,show ¬ val xs<val ys by omega,show ¬ val xs=val ys by omega]

theorem Sl.drew {w:World} {ao:Option Addr} {n c:Nat} {xs:List Int} (h:Sl w ao n c xs):Sl w.drew ao n c xs:=⟨h.len,h.cap,h.cells⟩

def sgn (neg:Bool) (v:Int):Int:=if neg then -v else v

def IsInt (w:World) (v:Value) (z:Int):Prop:=
 ∃ (neg:Bool) (ao:Option Addr) (n c:Nat) (xs:List Int),v=.agg #[.bool neg,.slice ao n c]∧Sl w ao n c xs∧Canon xs∧(neg=true→n≠0)∧z=sgn neg (val xs)

theorem IsInt.mono {w w':World} {v:Value} {z:Int} (h:IsInt w v z) (hb:Below w.heap.size w w'):IsInt w' v z:=by
 obtain ⟨neg,ao,n,c,xs,hv,hs,hc,hn,hz⟩:=h
 exact ⟨neg,ao,n,c,xs,hv,hs.mono hb,hc,hn,hz⟩

def zBc (w:World) (z:Int) (e:Ending) (w':World):Prop:=∃ v,e=.returned v∧IsInt w' v z∧Below w.heap.size w w'

theorem zCv (w:World) (neg:Bool) (ax:Option Addr) (n c:Nat) (xs:List Int) (hX:Sl w ax n c xs) (hb:n≤4000000) :
  Calls Tryz.prog 78 #[.bool neg,.slice ax n c] w (zBc w (sgn neg (val xs))):=by
 have hbl:∀ o,Below w.heap.size w (w.alloc o):=fun o=>(Below.refl _ _).alloc (Nat.le_refl _) o
 go_enter Tryz.func78,Tryz.ntmps78
 go_wp2_with (go_at_call 80;refine (zBm _ _ _ _ _ (hX.mono (hbl _)) zm).mono ?_;rintro e w' ⟨m,rfl,hm,hsm,hvm,hcm,rfl⟩)
 ·rename_i h0
  refine bodyPost_ret (v:=.agg #[.bool false,.slice none 0 0]) (by simp [results,Tryz.results78,go_sem]) rfl ⟨_,rfl,⟨false,none,0,0,[],rfl,Sl.nil _,⟨fun _ hx=>by simp at hx,.inl rfl⟩,by simp,?_⟩,hbl _⟩
  have h1:m=0:=by simpa using h0
  subst h1
  simp only [List.take_zero,val] at hvm
  cases neg <;> simp [sgn,val,← hvm]
 ·rename_i h0
  have h1:m≠0:=by simpa using h0
  have hs2:Sl (w.alloc (.cells #[.bool neg,.slice ax m c] 36)) ax m c (xs.take m):=(hX.take hm).mono (hbl _)
  exact bodyPost_ret (v:=.agg #[.bool neg,.slice ax m c]) (by simp [results,Tryz.results78,go_sem]) rfl ⟨_,rfl,⟨neg,ax,m,c,_,rfl,hs2,hcm,fun _=>h1,by rw [hvm]⟩,hbl _⟩

def Kept (B:Nat) (w0 W:World):Prop:=B≤W.heap.size∧(∀ b o,b<B→W.cell? ⟨b,o,none⟩=w0.cell? ⟨b,o,none⟩)∧∀ b o,b<B→W.frozen? ⟨b,o,none⟩=w0.frozen? ⟨b,o,none⟩

theorem Kept.call {B:Nat} {w0 w1 w2:World} (h:Kept B w0 w1) (hb:Below w1.heap.size w1 w2):Kept B w0 w2:=
 ⟨Nat.le_trans h.1 hb.size,fun b o hlt=>(hb.cell (p:=⟨b,o,none⟩) (Nat.lt_of_lt_of_le hlt h.1)).trans (h.2.1 b o hlt),
  fun b o hlt=>(hb.frozen (p:=⟨b,o,none⟩) (Nat.lt_of_lt_of_le hlt h.1)).trans (h.2.2 b o hlt)⟩

theorem Kept.start {B:Nat} {w:World} (h:B≤w.heap.size):Kept B w w.drew:=⟨h,fun _ _ _=>rfl,fun _ _ _=>rfl⟩

theorem Kept.set {B:Nat} {w0 w1:World} (h:Kept B w0 w1) {b o:Nat} (hb:B≤b) (v:Value):Kept B w0 (w1.setCell ⟨b,o,none⟩ v):=by
 refine ⟨by rw [World.size_setCell];exact h.1,fun b' o' hlt=>?_,fun b' o' hlt=>?_⟩
 ·rw [World.cell?_setCell_other _ _ _ _ (by intro e;cases e;omega)];exact h.2.1 b' o' hlt
 ·rw [World.frozen?_setCell];exact h.2.2 b' o' hlt

def IntBox (W:World) (b:Nat) (p q:Value):Prop:=
 W.cell? ⟨b,0,none⟩=some p∧W.cell? ⟨b,1,none⟩=some q∧W.frozen? ⟨b,0,none⟩=false∧W.frozen? ⟨b,1,none⟩=false

theorem IntBox.mono {W W':World} {b B:Nat} {p q:Value} (h:IntBox W b p q) (hb:Below B W W') (hlt:b<B):IntBox W' b p q:=
 ⟨(hb.cell (p:=⟨b,0,none⟩) hlt).trans h.1,(hb.cell (p:=⟨b,1,none⟩) hlt).trans h.2.1,(hb.frozen (p:=⟨b,0,none⟩) hlt).trans h.2.2.1,(hb.frozen (p:=⟨b,1,none⟩) hlt).trans h.2.2.2⟩

theorem IntBox.new (W:World) (p q:Value) (t:TypeId):IntBox (W.alloc (.cells #[p,q] t)) W.heap.size p q:=by
 refine ⟨?_,?_,?_,?_⟩ <;> simp

theorem IntBox.lt {W:World} {b:Nat} {p q:Value} (h:IntBox W b p q):b<W.heap.size:=World.block_lt_of_cell? W ⟨b,0,none⟩ h.1

theorem Sl.setOther {w:World} {ao:Option Addr} {n c:Nat} {xs:List Int} (h:Sl w ao n c xs) {a:Addr} {v:Value} (ha:w.cell? a=some v) (hv:∀ q,v≠.int .u32 q) (u:Value):Sl (w.setCell a u) ao n c xs:=by
 refine ⟨h.len,h.cap,h.digs,?_⟩
 rcases h.cells.2 with h0 | ⟨b,off,hao,hlt,hc⟩
 ·exact .inl h0
 ·refine .inr ⟨b,off,hao,by rw [World.size_setCell];exact hlt,fun j hj=>?_⟩
  rw [World.cell?_setCell_other _ _ _ _ (by intro e;rw [e,hc j hj] at ha;cases ha;exact hv _ rfl)]
  exact hc j hj

theorem zB7 {w w3:World} {r:Nat} {ng:Bool} {ao:Option Addr} {nn cc:Nat} {rs:List Int} {z:Int} (hI:IntBox w3 r (.bool false) (.slice none 0 0)) (hs:Sl w3 ao nn cc rs) (hc:Canon rs) (hn:ng=true→nn≠0) (hz:z=sgn ng (val rs))
  (hb:Below w.heap.size w w3) (hr:w.heap.size≤r) :
  zBc w z (.returned (.agg #[.bool ng,.slice ao nn cc])) ((w3.setCell ⟨r,0,none⟩ (.bool ng)).setCell ⟨r,1,none⟩ (.slice ao nn cc)):=by
 have h1:(w3.setCell ⟨r,0,none⟩ (.bool ng)).cell? ⟨r,1,none⟩=some (.slice none 0 0):=by
  rw [World.cell?_setCell_other _ _ _ _ (by intro e;cases e)];exact hI.2.1
 exact ⟨_,rfl,⟨ng,ao,nn,cc,rs,rfl,(hs.setOther hI.1 (by intro q e;cases e) _).setOther h1 (by intro q e;cases e) _,hc,hn,hz⟩,(hb.setCell hr _).setCell hr _⟩

theorem Sl.drawn' {w w':World} {ao:Option Addr} {n c:Nat} {xs:List Int} (h:Sl w ao n c xs) (d:Drawn w w'):Sl w' ao n c xs:=h.mono (d.below _)

theorem zDx {w:World} {ax ay:Option Addr} {n m cx cy:Nat} {xs ys:List Int} (hc:Canon xs) (hX:Sl w ax n cx xs) (hY:Sl w ay m cy ys) (h:val xs≤val ys):n≤m:=by
 have h1:=zBa hY.digs
 have h2:=hc.length_le (k:=ys.length) zm
 rw [hX.len,hY.len] at h2
 exact h2

theorem zEl (w:World) (a1 a2 b1 b2:Value) (t:TypeId) :
  ∃ w0,w0=((w.alloc (.cells #[a1,a2] t)).alloc (.cells #[b1,b2] t)).alloc (.cells #[.bool false,.slice none 0 0] t)∧IntBox w0 w.heap.size a1 a2∧IntBox w0 (w.heap.size+1) b1 b2∧IntBox w0 (w.heap.size+1+1) (.bool false) (.slice none 0 0) ∧
   Below w.heap.size w w0∧Hid (w0.heap.size=w.heap.size+3):=by
 have l1:=(Below.refl (w.heap.size+1) (w.alloc (.cells #[a1,a2] t))).alloc (by simp) (.cells #[b1,b2] t)
 have l2:=(Below.refl (w.heap.size+1+1) ((w.alloc (.cells #[a1,a2] t)).alloc (.cells #[b1,b2] t))).alloc (by simp) (.cells #[.bool false,.slice none 0 0] t)
 refine ⟨_,rfl,?_,?_,?_,?_,?_⟩
 ·exact ((IntBox.new w a1 a2 t).mono l1 zm).mono l2 zm
 ·have:=IntBox.new (w.alloc (.cells #[a1,a2] t)) b1 b2 t
  rw [World.size_alloc] at this
  exact this.mono l2 zm
 ·have:=IntBox.new ((w.alloc (.cells #[a1,a2] t)).alloc (.cells #[b1,b2] t)) (.bool false) (.slice none 0 0) t
  rw [World.size_alloc,World.size_alloc] at this
  exact this
 ·exact (((Below.refl _ _).alloc (Nat.le_refl _) _).alloc (by simp) _).alloc (by simp;omega) _
 ·show _=_
  simp

theorem Add_any (w:World) (na nb:Bool) (ax ay:Option Addr) (n m cx cy:Nat) (xs ys:List Int) (hX:Sl w ax n cx xs) (hY:Sl w ay m cy ys) (hb1:n≤1000000) (hb2:m≤1000000) :
  Calls Tryz.prog 36 #[.agg #[.bool na,.slice ax n cx],.agg #[.bool nb,.slice ay m cy]] w (zBc w (sgn na (val xs)+sgn nb (val ys))):=by
 go_enter Tryz.func36,Tryz.ntmps36
 go_wp2
 obtain ⟨w0,hw0,hA,hB,hC,hbl,HS⟩:=zEl w (.bool na) (.slice ax n cx) (.bool nb) (.slice ay m cy) 36
 rw [← hw0]
 clear hw0
 have hXd:=(hX.mono hbl).drew
 have hYd:=(hY.mono hbl).drew
 have hcut:w.heap.size+2≤w0.heap.size:=by have:=HS.out;omega
 obtain ⟨ca0,ca1,_,_⟩:=hA
 obtain ⟨cb0,cb1,_,_⟩:=hB
 go_region_held3 (fun W=>w.heap.size+2≤W.heap.size∧(∀ b o,b<w.heap.size+2→W.cell? ⟨b,o,none⟩=w0.cell? ⟨b,o,none⟩)∧∀ b o,b<w.heap.size+2→W.frozen? ⟨b,o,none⟩=w0.frozen? ⟨b,o,none⟩)
  (first | exact Kept.start hcut | assumption)
  (first | (go_at_call 80;(with_reducible refine (zBm _ _ _ _ _ hXd zm).mono ?_);rintro e w' ⟨m1,rfl,hm1,hs1,hv1,hc1,rfl⟩) | (go_at_call 80;(with_reducible refine (zBm _ _ _ _ _ hYd zm).mono ?_);rintro e w' ⟨m2,rfl,hm2,hs2,hv2,hc2,rfl⟩))
 by_cases hn:na=nb
 ·subst hn
  have hnn:(na == na)=true:=by simp
  go_wp2
  obtain ⟨w1,hw1⟩:∃ w1,w1=w0.drew:=⟨_,rfl⟩
  rw [← hw1]
  have da0:w1.cell? ⟨w.heap.size,0,none⟩=some (.bool na):=by rw [hw1];exact ca0
  have hC1:IntBox w1 (w.heap.size+1+1) (.bool false) (.slice none 0 0):=by rw [hw1];exact hC
  have hcut1:w.heap.size+2≤w1.heap.size:=by rw [hw1];exact hcut
  have hbl1:Below w.heap.size w w1:=by rw [hw1];exact hbl.drew
  rw [← hw1] at hs1 hs2
  have hC1d:IntBox w1.drew (w.heap.size+1+1) (.bool false) (.slice none 0 0):=hC1
  have hs1d:=hs1.drew
  have hs2d:=hs2.drew
  clear hw1 ca0 ca1 cb0 cb1 hXd hYd hcut hbl hC
  go_region_held3 (fun W=>w.heap.size+2≤W.heap.size∧(∀ b o,b<w.heap.size+2→W.cell? ⟨b,o,none⟩=w1.cell? ⟨b,o,none⟩)∧∀ b o,b<w.heap.size+2→W.frozen? ⟨b,o,none⟩=w1.frozen? ⟨b,o,none⟩)
   (first | exact Kept.start hcut1 | assumption | exact Kept.call (by assumption) (by assumption) | exact Kept.set (Kept.set (by assumption) zm _) zm _)
   (first | (go_at_call 83;(with_reducible refine (zIw _ _ _ _ _ _ _ _ _ hs1d hs2d zm zm).mono ?_);rintro e w2 ⟨az,k,cz,zs,rfl,hk,hsz,hvz,hB2⟩) | (go_at_call 78;(with_reducible refine (zCv _ _ _ _ _ _ hsz zm).mono ?_);rintro e w3 ⟨v,rfl,⟨ng,ao,nn,cc,rs,rfl,hrs,hrc,hrn,hrz⟩,hb3⟩;obtain ⟨e0,e1,e2,e3⟩:=(hC1d.mono hB2 hC1d.lt).mono hb3 (Nat.lt_of_lt_of_le hC1d.lt hB2.size)))
  go_wp2
  refine bodyPost_ret (v:=.agg #[.bool ng,.slice ao nn cc]) ?_ rfl ?_
  ·simp [results,Tryz.results36,go_sem,e0,e1]
  ·have hb4:Below w.heap.size w w3:=(hbl1.drew.trans (hB2.mono (by have:=HS.out;simp;omega))).trans (hb3.mono (by have:=HS.out;have:=hB2.size;simp at this;omega))
   have hz:sgn na (val xs)+sgn na (val ys)=sgn ng (val rs):=by
    rw [← hrz,hvz,hv1,hv2];cases na <;> simp [sgn];omega
   exact zB7 ⟨e0,e1,e2,e3⟩ hrs hrc hrn hz hb4 zm
 ·have hnn:(na == nb)=false:=by simp [hn]
  go_wp2_with fail
  obtain ⟨w1,hw1⟩:∃ w1,w1=w0.drew:=⟨_,rfl⟩
  rw [← hw1]
  have da0:w1.cell? ⟨w.heap.size,0,none⟩=some (.bool na):=by rw [hw1];exact ca0
  have db0:w1.cell? ⟨w.heap.size+1,0,none⟩=some (.bool nb):=by rw [hw1];exact cb0
  have hC1:IntBox w1 (w.heap.size+1+1) (.bool false) (.slice none 0 0):=by rw [hw1];exact hC
  have hcut1:w.heap.size+2≤w1.heap.size:=by rw [hw1];exact hcut
  have hbl1:Below w.heap.size w w1:=by rw [hw1];exact hbl.drew
  have HS1:Hid (w1.heap.size=w.heap.size+3):=by rw [hw1];exact HS
  rw [← hw1] at hs1 hs2
  clear hw1 ca0 ca1 cb0 cb1 hXd hYd hcut hbl hC
  by_cases hlt:val xs<val ys
  ·have hcm:cmpI (val xs) (val ys)=-1:=if_pos hlt
   go_wp2_with (go_at_call 82;(with_reducible refine (zD6 _ _ _ _ _ _ _ _ _ hs1 hs2 hc1 hc2 zm zm).mono ?_);rintro e w2 ⟨rfl,hd⟩)
   have hs1d:=(hs1.drawn' hd).drew
   have hs2d:=(hs2.drawn' hd).drew
   have da0':=(hd.cell _).trans db0
   have hC2:IntBox w2 (w.heap.size+1+1) (.bool false) (.slice none 0 0):=hC1.mono (hd.below _) (Nat.lt_succ_self _)
   have hC2d:IntBox w2.drew (w.heap.size+1+1) (.bool false) (.slice none 0 0):=hC2
   have hcut2:w.heap.size+2≤w2.heap.size:=by rw [hd.size];exact hcut1
   have hbl2:Below w.heap.size w w2:=hbl1.trans (hd.below _)
   have hsz2:w2.heap.size=w1.heap.size:=hd.size
   have HSZ2:=hidd hsz2
   clear hsz2 hcm da0 db0 hC1
   go_region_held3 (fun W=>w.heap.size+2≤W.heap.size∧(∀ b o,b<w.heap.size+2→W.cell? ⟨b,o,none⟩=w2.cell? ⟨b,o,none⟩)∧∀ b o,b<w.heap.size+2→W.frozen? ⟨b,o,none⟩=w2.frozen? ⟨b,o,none⟩)
    (first | exact Kept.start hcut2 | assumption | exact Kept.call (by assumption) (by assumption) | exact Kept.set (Kept.set (by assumption) zm _) zm _)
    (first | (go_at_call 84;(with_reducible refine (zNm _ _ _ _ _ _ _ _ _ hs2d hs1d (by exact zDx hc1 hs1 hs2 (by rw [hv1,hv2];omega)) (by rw [hv1,hv2];omega) zm).mono ?_);rintro e w3 ⟨az,cz,zs,rfl,hsz,hvz,hB2⟩) | (go_at_call 78;(with_reducible refine (zCv _ _ _ _ _ _ hsz zm).mono ?_);rintro e w4 ⟨v,rfl,⟨ng,ao,nn,cc,rs,rfl,hrs,hrc,hrn,hrz⟩,hb3⟩;obtain ⟨e0,e1,e2,e3⟩:=(hC2d.mono hB2 hC2d.lt).mono hb3 (Nat.lt_of_lt_of_le hC2d.lt hB2.size)))
   go_wp2
   refine bodyPost_ret (v:=.agg #[.bool ng,.slice ao nn cc]) ?_ rfl ?_
   ·simp [results,Tryz.results36,go_sem,e0,e1]
   ·have hb4:Below w.heap.size w w4:=(hbl2.drew.trans (hB2.mono (by simp;omega))).trans (hb3.mono (by have:=hB2.size;simp at this;omega))
    have hz:sgn na (val xs)+sgn nb (val ys)=sgn ng (val rs):=by
     rw [← hrz,hvz,hv1,hv2];cases na <;> cases nb <;> simp [sgn] at hn ⊢ <;> omega
    exact zB7 ⟨e0,e1,e2,e3⟩ hrs hrc hrn hz hb4 zm
  ·have hge:0≤cmpI (val xs) (val ys):=by unfold cmpI;rw [if_neg hlt];split <;> decide
   go_wp2_with (go_at_call 82;(with_reducible refine (zD6 _ _ _ _ _ _ _ _ _ hs1 hs2 hc1 hc2 zm zm).mono ?_);rintro e w2 ⟨rfl,hd⟩)
   have hs1d:=(hs1.drawn' hd).drew
   have hs2d:=(hs2.drawn' hd).drew
   have da0':=(hd.cell _).trans da0
   have hC2:IntBox w2 (w.heap.size+1+1) (.bool false) (.slice none 0 0):=hC1.mono (hd.below _) (Nat.lt_succ_self _)
   have hC2d:IntBox w2.drew (w.heap.size+1+1) (.bool false) (.slice none 0 0):=hC2
   have hcut2:w.heap.size+2≤w2.heap.size:=by rw [hd.size];exact hcut1
   have hbl2:Below w.heap.size w w2:=hbl1.trans (hd.below _)
   have hsz2:w2.heap.size=w1.heap.size:=hd.size
   have HSZ2:=hidd hsz2
   clear hsz2 hge da0 db0 hC1
   go_region_held3 (fun W=>w.heap.size+2≤W.heap.size∧(∀ b o,b<w.heap.size+2→W.cell? ⟨b,o,none⟩=w2.cell? ⟨b,o,none⟩)∧∀ b o,b<w.heap.size+2→W.frozen? ⟨b,o,none⟩=w2.frozen? ⟨b,o,none⟩)
    (first | exact Kept.start hcut2 | assumption | exact Kept.call (by assumption) (by assumption) | exact Kept.set (Kept.set (by assumption) zm _) zm _)
    (first | (go_at_call 84;(with_reducible refine (zNm _ _ _ _ _ _ _ _ _ hs1d hs2d (by exact zDx hc2 hs2 hs1 (by rw [hv1,hv2];omega)) (by rw [hv1,hv2];omega) zm).mono ?_);rintro e w3 ⟨az,cz,zs,rfl,hsz,hvz,hB2⟩) | (go_at_call 78;(with_reducible refine (zCv _ _ _ _ _ _ hsz zm).mono ?_);rintro e w4 ⟨v,rfl,⟨ng,ao,nn,cc,rs,rfl,hrs,hrc,hrn,hrz⟩,hb3⟩;obtain ⟨e0,e1,e2,e3⟩:=(hC2d.mono hB2 hC2d.lt).mono hb3 (Nat.lt_of_lt_of_le hC2d.lt hB2.size)))
   go_wp2
   refine bodyPost_ret (v:=.agg #[.bool ng,.slice ao nn cc]) ?_ rfl ?_
   ·simp [results,Tryz.results36,go_sem,e0,e1]
   ·have hb4:Below w.heap.size w w4:=(hbl2.drew.trans (hB2.mono (by simp;omega))).trans (hb3.mono (by have:=hB2.size;simp at this;omega))
    have hz:sgn na (val xs)+sgn nb (val ys)=sgn ng (val rs):=by
     rw [← hrz,hvz,hv1,hv2];cases na <;> cases nb <;> simp [sgn] at hn ⊢ <;> omega
    exact zB7 ⟨e0,e1,e2,e3⟩ hrs hrc hrn hz hb4 zm

theorem mac_step {k:Nat} {vs ws ys:List Int} {q c x y:Int} (hk:k<ws.length) (h:val (ws.take k)+pw k*c=val (vs.take k)+q*val (ys.take k))
  (hx:vs.getD k 0=x) (hy:ys.getD k 0=y) :
  val ((ws.set k ((q*y+x+c) % 4294967296)).take (k+1))+pw (k+1)*((q*y+x+c)/4294967296)=val (vs.take (k+1))+q*val (ys.take (k+1)):=by
 rw [zAq,zC4 _ _ _ _ (Nat.le_refl _),zB6 _ _ _ hk,zAq vs,zAq ys,hx,hy]
 have h1:=zDz k (q*y+x+c)
 rw [Int.mul_add,Int.mul_add] at h1
 rw [Int.mul_add]
 have h2:q*(pw k*y)=pw k*(q*y):=by ac_rfl
 rw [h2]
 omega

theorem zH5 {a b:Int} (ha0:0≤a) (ha:a<4294967296) (hb0:0≤b) (hb:b<4294967296):0≤a*b∧a*b≤18446744065119617025:=by
 refine ⟨Int.mul_nonneg ha0 hb0,?_⟩
 have h1:=Int.mul_le_mul_of_nonneg_right (show a≤4294967295 by omega) hb0
 omega

theorem zPu {w w':World} {b b' o:Nat} (h:w.grownBy w' (some b)) (hne:b'≠b) (hlt:b'<w.heap.size):w'.cell? ⟨b',o,none⟩=w.cell? ⟨b',o,none⟩:=
 World.cell?_of_block (h.block b' hlt (by simpa using hne))

def MacDone (w:World) (b off m:Nat) (zs ys:List Int) (q:Int) (e:Ending) (w':World):Prop:=
 ∃ r zs',e=.returned (.int .u32 r)∧0≤r∧r<4294967296∧Row w' 104 b zs'∧zs'.length=zs.length∧zs'.take off=zs.take off ∧
   zs'.drop (off+m)=zs.drop (off+m)∧val ((zs'.drop off).take m)+pw m*r=val ((zs.drop off).take m)+q*val ys∧w.grownBy w' (some b)

theorem zN0 (w:World) (b off nz cz m cy:Nat) (zs ys:List Int) (ay:Option Addr) (q:Int) (hR:Row w 104 b zs) (hlen:off+m≤zs.length) (hnz:m≤nz) (hY:Sl w ay m cy ys)
  (hne:∀ b' o,ay=some ⟨b',o,none⟩→0<m→b'≠b) (hb:m≤4000000) (hq0:0≤q) (hq1:q<4294967296) :
  Calls Tryz.prog 121 #[.slice (some ⟨b,off,none⟩) nz cz,.slice ay m cy,.int .u64 q] w (MacDone w b off m zs ys q):=by
 have hm:=hidd hY.len
 go_enter Tryz.func121,Tryz.ntmps121
 go_wp2
 go_loopw [7,13] (fun u i wr=>∃ (k:Nat) (c:Int) (us:List Int),k≤m∧i=.int .i64 k∧u=.int .u64 c∧0≤c∧c<4294967296∧us.length=zs.length∧Row wr 104 b us∧us.take off=zs.take off∧us.drop (off+k)=zs.drop (off+k) ∧
   val ((us.drop off).take k)+pw k*c=val ((zs.drop off).take k)+q*val (ys.take k)∧w.grownBy wr (some b)) (fun _ i _=>m-(intOf i).toNat)
 case atStart=>exact ⟨0,0,zs,Nat.zero_le _,rfl,rfl,zm,zm,rfl,hR,rfl,rfl,by simp [val],World.grownBy.refl _ _⟩
 case round=>
  obtain ⟨k,c,us,hk,rfl,rfl,hc0,hc1,hul,hr,htk,hdr,hv,hg⟩:=hrel
  have HUL:=hidd hul
  have HDR:=hidd hdr
  have HTK:=hidd htk
  have HV:=hidd hv
  have hku:off+k<us.length∨k=m:=zm
  clear hul hdr htk hv
  by_cases hkm:k<m
  ·have hku:off+k<us.length:=zm
   obtain ⟨x,hxc,hx0,hx1,HX⟩:=hr.at hku
   have hfr:=hr.frozen (off+k)
   obtain ⟨b2,off2,rfl,hbl2,y,hyc0,hy0,hy1,HY⟩:=hY.cells.at (k:=k) (by rw [hm.out];exact hkm)
   have hyc:=(zPu (o:=off2+k) hg (hne _ _ rfl zm) hbl2).trans hyc0
   clear hyc0
   obtain ⟨hp0,hp1⟩:=zH5 hq0 hq1 hy0 hy1
   have hknz:k<nz:=zm
   go_wp2
   go_roundw
   case rel=>
    have hkd:k<(us.drop off).length:=by rw [List.length_drop];omega
    have hxz:(zs.drop off).getD k 0=x:=by
     have:=congrArg (fun l:List Int=>l.getD 0 0) HDR.out
     simp only [zC7,Nat.add_zero] at this
     rw [zC7,← this];exact HX.out
    refine ⟨k+1,_,us.set (off+k) ((q*y+x+c) % 4294967296),zm,by go_num,rfl,zm,zm,by simp [HUL.out],hr.set ⟨zm,zm⟩,?_,?_,?_,zG4 hg (zEd _ _ _ _)⟩
    ·rw [List.take_set_of_le zm];exact HTK.out
    ·rw [List.drop_set_of_lt zm]
     have:=congrArg (List.drop 1) HDR.out
     simpa [List.drop_drop,Nat.add_assoc] using this
    ·rw [show (us.set (off+k) ((q*y+x+c) % 4294967296)).drop off=(us.drop off).set k ((q*y+x+c) % 4294967296) from by rw [List.drop_set,if_neg zm,Nat.add_sub_cancel_left]]
     exact mac_step hkd HV.out hxz HY.out
   case measure=>simp [intOf];omega
  ·obtain rfl:k=m:=zm
   go_wp2
   go_ret
   have e:=HV.out
   rw [zAw ys (by rw [hm.out];omega)] at e
   have e1:c % 4294967296=c:=Int.emod_eq_of_lt hc0 hc1
   exact ⟨c,us,by first | rfl | (rw [← e1];rfl),hc0,hc1,hr,HUL.out,HTK.out,HDR.out,e,hg⟩

theorem zH4 (w:World) (ax ay:Option Addr) (n m cx cy:Nat) (xs ys:List Int) (hX:Sl w ax n cx xs) (hY:Sl w ay m cy ys) (hb1:n≤1000000) (hb2:m≤1000000) :
  Calls Tryz.prog 79 #[.slice ax n cx,.slice ay m cy] w fun e w'=>∃ ao c zs,e=.returned (.slice ao (n+m) c)∧Sl w' ao (n+m) c zs∧val zs=val xs*val ys∧Below w.heap.size w w':=by
 have hn:=hidd hX.len
 have hm:=hidd hY.len
 go_enter Tryz.func79,Tryz.ntmps79
 go_wp2_with (at_make;refine zEi _ rfl _ _ 27 rfl 104 Tryz.underlying27 (by kernel_rfl) _ _ _ _ rfl rfl (n+m) rfl rfl zm ?_;intro w1 hrow hb1 hs1)
 go_loopw [16] (fun i wr=>∃ (k:Nat) (zs:List Int),k≤n∧i=.int .i64 k∧zs.length=n+m∧Row wr 104 w.heap.size zs∧Below w.heap.size w wr∧val (zs.take (k+m))=val (xs.take k)*val ys) (fun i _=>n-(intOf i).toNat)
 case atStart=>
  refine ⟨0,_,Nat.zero_le _,rfl,by simp,hrow,hb1,?_⟩
  rw [List.take_replicate,zGq];simp [val]
 case round=>
  obtain ⟨k,zs,hk,rfl,hzl,hr,hbr,hv⟩:=hrel
  have HZ:=hidd hzl
  have HV:=hidd hv
  clear hv
  by_cases hkn:k<n
  ·have hkz:k+m<zs.length:=zm
   have hlen:k+m≤zs.length:=zm
   obtain ⟨b,off,rfl,hbl,x,hxc0,hx0,hx1,HX⟩:=hX.cells.at (k:=k) (by rw [hn.out];exact hkn)
   have hxc:=(hbr.cell (p:=⟨b,off+k,none⟩) hbl).trans hxc0
   have hcne:¬ (n+m=k):=zm
   have hYr:=hY.mono (hbr.mono (Nat.le_refl _))
   have hne:∀ b' o,ay=some ⟨b',o,none⟩→0<m→b'≠w.heap.size:=by
    intro b' o h1 h2
    obtain ⟨b3,off3,h3,h4,_⟩:=hY.cells.at (k:=0) (by rw [hm.out];exact h2)
    rw [h1] at h3;cases h3;omega
   clear hzl hrow hb1 hs1 hxc0
   go_wp2_with fail
   refine (zN0 wr w.heap.size k m (n+m-k) m cy zs ys ay x hr hlen (Nat.le_refl _) hYr hne zm hx0 hx1).mono ?_
   rintro e w2 ⟨r,zs2,rfl,hr0,hr1,hrow2,hl2,ht2,hd2,hv2,hg2⟩
   have HL2:=hidd hl2
   have HT2:=hidd ht2
   have HD2:=hidd hd2
   have HV2:=hidd hv2
   have hkz2:k+m<zs2.length:=zm
   have hb2':Below w.heap.size w w2:=hbr.grown hg2 hbr.size (by intro j hj;cases hj;exact Nat.le_refl _)
   obtain ⟨z,hzc,_,_,_⟩:=hrow2.at hkz2
   have hfr:=hrow2.frozen (k+m)
   clear hl2 ht2 hd2 hv2 hr hxc hYr hg2
   go_wp2
   go_roundw
   case rel=>
    refine ⟨k+1,zs2.set (k+m) r,zm,by go_num,by simp [HL2.out,HZ.out],hrow2.set ⟨hr0,hr1⟩,hb2'.setCell (Nat.le_refl _) _,?_⟩
    rw [show k+1+m=(k+m)+1 from by omega,zAq,zC4 _ _ _ _ (Nat.le_refl _),zB6 _ _ _ hkz2,zAq xs,HX.out]
    have e1:val (zs2.take (k+m))=val (zs2.take k)+pw k*val ((zs2.drop k).take m):=by
     have:=zC3 (zs2.take (k+m)) (k:=k) (by rw [List.length_take];omega)
     rw [this,List.take_take,Nat.min_eq_left zm,List.drop_take,Nat.add_sub_cancel_left]
    have e2:val (zs.take (k+m))=val (zs.take k)+pw k*val ((zs.drop k).take m):=by
     have:=zC3 (zs.take (k+m)) (k:=k) (by rw [List.length_take];omega)
     rw [this,List.take_take,Nat.min_eq_left zm,List.drop_take,Nat.add_sub_cancel_left]
    have e3:=HV2.out
    have e4:=HV.out
    rw [HT2.out] at e1
    have e5:=congrArg (fun t=>pw k*t) e3
    simp only [Int.mul_add] at e5
    have e6:pw k*(pw m*r)=pw (k+m)*r:=by rw [zEs];ac_rfl
    have e7:(val (xs.take k)+pw k*x)*val ys=val (xs.take k)*val ys+pw k*(x*val ys):=by rw [Int.add_mul];congr 1;ac_rfl
    rw [e7]
    omega
   case measure=>simp [intOf];omega
  ·obtain rfl:k=n:=zm
   clear hrow hb1 hs1
   go_wp2
   go_ret
   refine ⟨_,_,zs,rfl,hr.sl HZ.out,?_,hbr⟩
   have e:=HV.out
   rw [zAw _ (by rw [HZ.out];omega),zAw xs (by rw [hn.out];omega)] at e
   exact e

theorem zI2 (w:World) (a1 a2:Value) (t:TypeId) :
  ∃ w0,w0=(w.alloc (.cells #[a1,a2] t)).alloc (.cells #[.bool false,.slice none 0 0] t)∧IntBox w0 w.heap.size a1 a2∧IntBox w0 (w.heap.size+1) (.bool false) (.slice none 0 0) ∧
   Below w.heap.size w w0∧Hid (w0.heap.size=w.heap.size+2):=by
 have l1:=(Below.refl (w.heap.size+1) (w.alloc (.cells #[a1,a2] t))).alloc (by simp) (.cells #[.bool false,.slice none 0 0] t)
 refine ⟨_,rfl,?_,?_,?_,?_⟩
 ·exact (IntBox.new w a1 a2 t).mono l1 zm
 ·have:=IntBox.new (w.alloc (.cells #[a1,a2] t)) (.bool false) (.slice none 0 0) t
  rw [World.size_alloc] at this
  exact this
 ·exact ((Below.refl _ _).alloc (Nat.le_refl _) _).alloc (by simp) _
 ·show _=_
  simp

theorem boxes1 (w:World) (a1 a2:Value) (t:TypeId) :
  ∃ w0,w0=w.alloc (.cells #[a1,a2] t)∧IntBox w0 w.heap.size a1 a2∧Below w.heap.size w w0∧Hid (w0.heap.size=w.heap.size+1):=by
 refine ⟨_,rfl,IntBox.new w a1 a2 t,(Below.refl _ _).alloc (Nat.le_refl _) _,?_⟩
 show _=_
 simp

theorem zF1 (w:World) (ax:Option Addr) (n c:Nat) (xs:List Int) (hX:Sl w ax n c xs) (hb:n≤4000000) :
  Calls Tryz.prog 119 #[.slice ax n c] w fun e w'=>∃ ao co,e=.returned (.slice ao n co)∧Sl w' ao n co xs∧Below w.heap.size w w':=
 (zI7 w ax n c xs hX hb).mono fun _ _ ⟨he,hr,hb⟩=>⟨_,_,he,hr.sl hX.len,hb⟩

theorem sgn_not (b:Bool) (v:Int):sgn (!b) v=-sgn b v:=by cases b <;> simp [sgn]

theorem Neg_any (w:World) (na:Bool) (ax:Option Addr) (n cx:Nat) (xs:List Int) (hX:Sl w ax n cx xs) (hb1:n≤1000000) :
  Calls Tryz.prog 71 #[.agg #[.bool na,.slice ax n cx]] w (zBc w (-sgn na (val xs))):=by
 go_enter Tryz.func71,Tryz.ntmps71
 go_wp2
 obtain ⟨w0,hw0,hA,hC,hbl,HS⟩:=zI2 w (.bool na) (.slice ax n cx) 36
 rw [← hw0]
 clear hw0
 have hXd:=(hX.mono hbl).drew
 have hcut:w.heap.size+1≤w0.heap.size:=by have:=HS.out;omega
 have hCd:IntBox w0.drew (w.heap.size+1) (.bool false) (.slice none 0 0):=hC
 obtain ⟨ca0,ca1,_,_⟩:=hA
 go_region_held3 (fun W=>w.heap.size+1≤W.heap.size∧(∀ b o,b<w.heap.size+1→W.cell? ⟨b,o,none⟩=w0.cell? ⟨b,o,none⟩)∧∀ b o,b<w.heap.size+1→W.frozen? ⟨b,o,none⟩=w0.frozen? ⟨b,o,none⟩)
  (first | exact Kept.start hcut | assumption | exact Kept.call (by assumption) (by assumption) | exact Kept.set (Kept.set (by assumption) zm _) zm _)
  (first | (go_at_call 119;(with_reducible refine (zF1 _ _ _ _ _ hXd zm).mono ?_);rintro e w2 ⟨az,cz,rfl,hsz,hB2⟩) | (go_at_call 78;(with_reducible refine (zCv _ _ _ _ _ _ hsz zm).mono ?_);rintro e w3 ⟨v,rfl,⟨ng,ao,nn,cc,rs,rfl,hrs,hrc,hrn,hrz⟩,hb3⟩;obtain ⟨e0,e1,e2,e3⟩:=(hCd.mono hB2 hCd.lt).mono hb3 (Nat.lt_of_lt_of_le hCd.lt hB2.size)))
 go_wp2
 refine bodyPost_ret (v:=.agg #[.bool ng,.slice ao nn cc]) ?_ rfl ?_
 ·simp [results,Tryz.results71,go_sem,e0,e1]
 ·have hb4:Below w.heap.size w w3:=(hbl.drew.trans (hB2.mono (by have:=HS.out;simp;omega))).trans (hb3.mono (by have:=HS.out;have:=hB2.size;simp at this;omega))
  have hz:-sgn na (val xs)=sgn ng (val rs):=by rw [← hrz,sgn_not]
  exact zB7 ⟨e0,e1,e2,e3⟩ hrs hrc hrn hz hb4 zm

theorem Abs_any (w:World) (na:Bool) (ax:Option Addr) (n cx:Nat) (xs:List Int) (hX:Sl w ax n cx xs) (hb1:n≤1000000) :
  Calls Tryz.prog 117 #[.agg #[.bool na,.slice ax n cx]] w (zBc w (val xs)):=by
 go_enter Tryz.func117,Tryz.ntmps117
 obtain ⟨w0,hw0,hA,hC,hbl,HS⟩:=zI2 w (.bool na) (.slice ax n cx) 36
 have hX0:=hX.mono hbl
 obtain ⟨ca0,ca1,_,_⟩:=hA
 go_wp2_with fail
 rw [← hw0]
 clear hw0
 go_wp2_with (first | (go_at_call 119;(with_reducible refine (zF1 _ _ _ _ _ hX0 zm).mono ?_);rintro e w2 ⟨az,cz,rfl,hsz,hB2⟩) | (go_at_call 78;(with_reducible refine (zCv _ _ _ _ _ _ hsz zm).mono ?_);rintro e w3 ⟨v,rfl,⟨ng,ao,nn,cc,rs,rfl,hrs,hrc,hrn,hrz⟩,hb3⟩;obtain ⟨e0,e1,e2,e3⟩:=(hC.mono hB2 hC.lt).mono hb3 (Nat.lt_of_lt_of_le hC.lt hB2.size)))
 refine bodyPost_ret (v:=.agg #[.bool ng,.slice ao nn cc]) ?_ rfl ?_
 ·simp [results,Tryz.results117,go_sem,e0,e1]
 ·have hb4:Below w.heap.size w w3:=(hbl.trans (hB2.mono (by have:=HS.out;omega))).trans (hb3.mono (by have:=HS.out;have:=hB2.size;omega))
  exact zB7 ⟨e0,e1,e2,e3⟩ hrs hrc hrn (by rw [← hrz];rfl) hb4 zm

theorem sgn_mul (a b:Bool) (x y:Int):sgn (!a == b) (x*y)=sgn a x*sgn b y:=by
 cases a <;> cases b <;> simp [sgn,Int.mul_neg,Int.neg_mul]

theorem Mul_any (w:World) (na nb:Bool) (ax ay:Option Addr) (n m cx cy:Nat) (xs ys:List Int) (hX:Sl w ax n cx xs) (hY:Sl w ay m cy ys) (hb1:n≤1000000) (hb2:m≤1000000) :
  Calls Tryz.prog 34 #[.agg #[.bool na,.slice ax n cx],.agg #[.bool nb,.slice ay m cy]] w (zBc w (sgn na (val xs)*sgn nb (val ys))):=by
 go_enter Tryz.func34,Tryz.ntmps34
 go_wp2
 obtain ⟨w0,hw0,hA,hB,hC,hbl,HS⟩:=zEl w (.bool na) (.slice ax n cx) (.bool nb) (.slice ay m cy) 36
 rw [← hw0]
 clear hw0
 have hXd:=(hX.mono hbl).drew
 have hYd:=(hY.mono hbl).drew
 have hCd:IntBox w0.drew (w.heap.size+1+1) (.bool false) (.slice none 0 0):=hC
 have hcut:w.heap.size+2≤w0.heap.size:=by have:=HS.out;omega
 obtain ⟨ca0,ca1,_,_⟩:=hA
 obtain ⟨cb0,cb1,_,_⟩:=hB
 go_region_held3 (fun W=>w.heap.size+2≤W.heap.size∧(∀ b o,b<w.heap.size+2→W.cell? ⟨b,o,none⟩=w0.cell? ⟨b,o,none⟩)∧∀ b o,b<w.heap.size+2→W.frozen? ⟨b,o,none⟩=w0.frozen? ⟨b,o,none⟩)
  (first | exact Kept.start hcut | assumption | exact Kept.call (by assumption) (by assumption) | exact Kept.set (Kept.set (by assumption) zm _) zm _)
  (first | (go_at_call 80;(with_reducible refine (zBm _ _ _ _ _ hXd zm).mono ?_);rintro e w' ⟨m1,rfl,hm1,hs1,hv1,hc1,rfl⟩) | (go_at_call 80;(with_reducible refine (zBm _ _ _ _ _ hYd zm).mono ?_);rintro e w' ⟨m2,rfl,hm2,hs2,hv2,hc2,rfl⟩) | (go_at_call 79;(with_reducible refine (zH4 _ _ _ _ _ _ _ _ _ hs1 hs2 zm zm).mono ?_);rintro e w2 ⟨az,cz,zs,rfl,hsz,hvz,hB2⟩) | (go_at_call 78;(with_reducible refine (zCv _ _ _ _ _ _ hsz zm).mono ?_);rintro e w3 ⟨v,rfl,⟨ng,ao,nn,cc,rs,rfl,hrs,hrc,hrn,hrz⟩,hb3⟩;obtain ⟨e0,e1,e2,e3⟩:=(hCd.mono hB2 hCd.lt).mono hb3 (Nat.lt_of_lt_of_le hCd.lt hB2.size)))
 go_wp2
 refine bodyPost_ret (v:=.agg #[.bool ng,.slice ao nn cc]) ?_ rfl ?_
 ·simp [results,Tryz.results34,go_sem,e0,e1]
 ·have hb4:Below w.heap.size w w3:=(hbl.drew.trans (hB2.mono (by have:=HS.out;simp;omega))).trans (hb3.mono (by have:=HS.out;have:=hB2.size;simp at this;omega))
  have hz:sgn na (val xs)*sgn nb (val ys)=sgn ng (val rs):=by rw [← hrz,hvz,hv1,hv2,sgn_mul]
  exact zB7 ⟨e0,e1,e2,e3⟩ hrs hrc hrn hz hb4 zm

theorem zNf {v:Int} (b:Bool) (h:v=0):sgn b v=0:=by subst h;cases b <;> rfl

theorem zIt (w:World) (na:Bool) (ax:Option Addr) (n cx:Nat) (xs:List Int) (hX:Sl w ax n cx xs) (hb1:n≤1000000) :
  Calls Tryz.prog 38 #[.agg #[.bool na,.slice ax n cx]] w fun e w'=>e=.returned (.int .i64 (cmpI (sgn na (val xs)) 0))∧Below w.heap.size w w':=by
 have hX0:∀ o,Sl (w.alloc o) ax n cx xs:=fun o=>hX.mono ((Below.refl _ _).alloc (Nat.le_refl _) o)
 go_enter Tryz.func38,Tryz.ntmps38
 go_wp2_with fail
 refine (zBm _ _ _ _ _ (hX0 _) zm).mono ?_
 rintro e w' ⟨m,rfl,hm,hs,hv,hc,rfl⟩
 have hml:=hs.len
 have hz:=hc.zero
 rw [hml,hv] at hz
 have h0:=zAm hX.digs
 by_cases hm0:m=0
 ·have HV:Hid (val xs=0):=hz.1 hm0
  clear hz hml
  subst hm0
  go_wp2
  go_ret
  exact ⟨by rw [HV.out,zNf _ rfl];rfl,(Below.refl _ _).alloc (Nat.le_refl _) _⟩
 ·have hne:val xs≠0:=fun h=>hm0 (hz.2 h)
  have hm1:((m:Int) == 0)=false:=by simp;omega
  clear hz hml
  cases na
  ·have HV:Hid (cmpI (sgn false (val xs)) 0=1):=(if_neg (by simp [sgn];omega)).trans (if_neg (by simp [sgn];omega))
   go_wp2
   go_ret
   exact ⟨by rw [HV.out];rfl,(Below.refl _ _).alloc (Nat.le_refl _) _⟩
  ·have HV:Hid (cmpI (sgn true (val xs)) 0=-1):=if_pos (by simp [sgn];omega)
   go_wp2
   go_ret
   exact ⟨by rw [HV.out];rfl,(Below.refl _ _).alloc (Nat.le_refl _) _⟩

theorem Bits_any (w:World) (na:Bool) (ax:Option Addr) (n cx:Nat) (xs:List Int) (hX:Sl w ax n cx xs) (hb1:n≤1000000) :
  Calls Tryz.prog 137 #[.agg #[.bool na,.slice ax n cx]] w fun e w'=>∃ m:Nat,e=.returned (.int .i64 m)∧zCw (val xs) m∧m≤32*n∧Below w.heap.size w w':=by
 have hX0:∀ o,Sl (w.alloc o) ax n cx xs:=fun o=>hX.mono ((Below.refl _ _).alloc (Nat.le_refl _) o)
 go_enter Tryz.func137,Tryz.ntmps137
 go_wp2_with (first | (go_at_call 80;(with_reducible refine (zBm _ _ _ _ _ (hX0 _) zm).mono ?_);rintro e w' ⟨m,rfl,hm,hs,hv,hc,rfl⟩) | (go_at_call 141;(with_reducible refine (zHm _ _ _ _ _ hs hc zm).mono ?_);rintro e w' ⟨k,rfl,hk,hkb,rfl⟩))
 go_ret
 exact ⟨k,rfl,by rw [← hv];exact hk,zm,(Below.refl _ _).alloc (Nat.le_refl _) _⟩

theorem zFk (w:World) (q:Int) (hq0:0≤q) (hq1:q<18446744073709551616) :
  Calls Tryz.prog 109 #[.int .u64 q] w fun e w'=>∃ ao m c zs,e=.returned (.slice ao m c)∧m≤2∧Sl w' ao m c zs∧Canon zs∧val zs=q∧Below w.heap.size w w':=by
 have hr:Row (w.alloc (.cells #[.int .u32 (q % 4294967296),.int .u32 (q/4294967296)] 104)) 104 w.heap.size [q % 4294967296,q/4294967296]:=by
  refine ⟨fun x hx=>?_,?_⟩
  ·simp at hx
   unfold Dig
   rcases hx with rfl | rfl <;> omega
  ·rw [heap_alloc_new];rfl
 have hs:=hr.sl (n:=2) rfl
 have hbl:Below w.heap.size w (w.alloc (.cells #[.int .u32 (q % 4294967296),.int .u32 (q/4294967296)] 104)):=(Below.refl _ _).alloc (Nat.le_refl _) _
 have hv:val [q % 4294967296,q/4294967296]=q:=by simp only [val];omega
 have HV:=hidd hv
 clear hv hr
 go_enter Tryz.func109,Tryz.ntmps109
 go_wp2_with (go_at_call 80;refine (zBm _ _ _ _ _ hs zm).mono ?_;rintro e w' ⟨m,rfl,hm,hsm,hvm,hcm,rfl⟩)
 go_ret
 exact ⟨_,m,2,_,rfl,hm,hsm,hcm,hvm.trans HV.out,hbl⟩

theorem zS9 (w:World) (b n c:Nat) (zs:List Int) (hR:Row w 104 b zs) (hn:n≤zs.length) (hb:n≤4000000) (d:Int) (hd0:0<d) (hd1:d<4294967296) :
  Calls Tryz.prog 123 #[.slice (some ⟨b,0,none⟩) n c,.int .u32 d] w fun e w'=>∃ r zs',e=.returned (.int .u32 r)∧0≤r∧r<d∧Row w' 104 b zs'∧zs'.length=zs.length∧zs'.drop n=zs.drop n ∧
   val (zs.take n)=val (zs'.take n)*d+r∧w.grownBy w' (some b):=by
 go_enter Tryz.func123,Tryz.ntmps123
 go_wp2
 go_loopw [5,6] (fun u i wr=>∃ (k:Nat) (r:Int) (us:List Int),k≤n∧i=.int .i64 ((k:Int)-1)∧u=.int .u64 r∧0≤r∧r<d∧us.length=zs.length∧Row wr 104 b us∧us.drop n=zs.drop n∧us.take k=zs.take k ∧
   val ((zs.take n).drop k)=val ((us.take n).drop k)*d+r∧w.grownBy wr (some b)) (fun _ i _=>(intOf i+1).toNat)
 case atStart=>exact ⟨n,0,zs,Nat.le_refl _,rfl,rfl,zm,zm,rfl,hR,rfl,rfl,by rw [List.drop_of_length_le (by rw [List.length_take];omega)];simp [val],World.grownBy.refl _ _⟩
 case round=>
  obtain ⟨k,r,us,hk,rfl,rfl,hr0,hr1,hul,hr,hdr,htk,hv,hg⟩:=hrel
  have HUL:=hidd hul
  have HDR:=hidd hdr
  have HTK:=hidd htk
  have HV:=hidd hv
  clear hul hdr htk hv
  by_cases h0:0<k
  ·have hku:k-1<us.length:=by rw [HUL.out];omega
   obtain ⟨x,hxc,hx0,hx1,HX⟩:=hr.at hku
   have hfr:=hr.frozen (k-1)
   obtain ⟨t,hor⟩:∃ t,bits .or .u64 (r*4294967296) x=t:=⟨_,rfl⟩
   have HT:Hid (t=x+r*4294967296):=hor.symm.trans (zIa x r hx0 hx1 hr0 zm).2
   have ht0:0≤t:=by have:=HT.out;omega
   have ht1:t<18446744073709551616:=by have:=HT.out;omega
   have hq0:0≤t/d:=Int.ediv_nonneg ht0 zm
   have hq1:t/d<4294967296:=by
    rw [HT.out]
    refine Int.ediv_lt_of_lt_mul hd0 ?_
    have h1:(r+1)*4294967296≤d*4294967296:=zm
    omega
   have hm0:0≤t % d:=Int.emod_nonneg _ zm
   have hm1:t % d<d:=Int.emod_lt_of_pos _ hd0
   go_wp2
   go_roundw
   case rel=>
    have e1:t/d % 4294967296=t/d:=Int.emod_eq_of_lt hq0 hq1
    refine ⟨k-1,t % d,us.set (k-1) (t/d),zm,by go_num,rfl,hm0,hm1,by simp [HUL.out],?_,?_,?_,?_,?_⟩
    ·first | exact hr.set ⟨hq0,hq1⟩ | (rw [e1];exact hr.set ⟨hq0,hq1⟩)
    ·rw [List.drop_set_of_lt zm];exact HDR.out
    ·rw [List.take_set_of_le (Nat.le_refl _)]
     have:=congrArg (List.take (k-1)) HTK.out
     simpa [List.take_take,Nat.min_eq_left (show k-1≤k by omega)] using this
    ·have hx:zs.getD (k-1) 0=x:=by
      have:=congrArg (fun l:List Int=>l.getD (k-1) 0) HTK.out
      simp only [zJy,if_pos (show k-1<k by omega)] at this
      rw [← this];exact HX.out
     rw [zDj (zs.take n) (k:=k-1) (by rw [List.length_take];omega),zDj ((us.set (k-1) (t/d)).take n) (k:=k-1) (by simp;omega)]
     rw [zJy,zJy,if_pos zm,if_pos zm,zB6 _ _ _ hku,hx,show k-1+1=k from by omega,HV.out]
     rw [List.take_set,List.drop_set_of_lt zm]
     have h3:=Int.mul_ediv_add_emod t d
     have h4:=HT.out
     rw [Int.add_mul,Int.mul_assoc,Int.mul_comm (t/d) d]
     omega
    ·exact zG4 hg (zEd _ _ _ _)
   case measure=>simp [intOf];omega
  ·go_wp2
   go_ret
   obtain rfl:k=0:=zm
   have e1:r % 4294967296=r:=Int.emod_eq_of_lt hr0 zm
   refine ⟨r,us,by first | rfl | (rw [← e1];rfl),hr0,hr1,hr,HUL.out,HDR.out,by simpa using HV.out,hg⟩

theorem zAh (w:World) (o:Obj):Below w.heap.size w (w.alloc o):=(Below.refl _ _).alloc (Nat.le_refl _) o

def zFw (neg:Bool) (xs:List Int):Bool:=if xs.length=0 then !neg else (xs.getD (xs.length-1) 0 != 0)

theorem Valid_any (w:World) (na:Bool) (ax:Option Addr) (n cx:Nat) (xs:List Int) (hX:Sl w ax n cx xs) (hb1:n≤9223372036854775807) :
  Calls Tryz.prog 135 #[.agg #[.bool na,.slice ax n cx]] w fun e w'=>e=.returned (.bool (zFw na xs))∧Below w.heap.size w w':=by
 have hl:=hX.len
 by_cases h0:n=0
 ·have HV:Hid (zFw na xs=!na):=if_pos zm
  subst h0
  go_enter Tryz.func135,Tryz.ntmps135
  go_wp2
  go_ret
  exact ⟨by rw [HV.out];rfl,zAh _ _⟩
 ·obtain ⟨b,off,rfl,hbl,x,hxc,hx0,hx1,HX⟩:=hX.cells.at (k:=n-1) zm
  have HV:Hid (zFw na xs=(x != 0)):=(if_neg zm).trans (by rw [hl,HX.out])
  have h1:((n:Int) == 0)=false:=by simp;omega
  have hxc':(w.alloc (.cells #[.bool na,.slice (some ⟨b,off,none⟩) n cx] 36)).cell? ⟨b,off+(n-1),none⟩=some (.int .u32 x):=
   ((zAh w _).cell (p:=⟨b,off+(n-1),none⟩) hbl).trans hxc
  clear hl
  go_enter Tryz.func135,Tryz.ntmps135
  go_wp2
  go_ret
  exact ⟨by rw [HV.out];rfl,zAh _ _⟩

theorem box1 (w:World) (t:TypeId):IntBox (w.alloc (.cells #[.bool false,.slice none 0 0] t)) w.heap.size (.bool false) (.slice none 0 0):=IntBox.new w _ _ t

theorem Of_any (w:World) (z:Int) (h0:-9223372036854775808≤z) (h1:z≤9223372036854775807) :
  Calls Tryz.prog 58 #[.int .i64 z] w (zBc w z):=by
 have hC:=box1 w 36
 have hCb:=zAh w (.cells #[.bool false,.slice none 0 0] 36)
 by_cases hz:z<0
 ·have hq:IntKind.u64.wrap (-(IntKind.u64.wrap z))=-z:=by rw [zB3,zB3];omega
  have hq':IntKind.u64.wrap (-(z % 18446744073709551616))=-z:=by rw [zB3];omega
  go_enter Tryz.func58,Tryz.ntmps58
  go_wp2_with fail
  refine (zFk _ (-z) zm zm).mono ?_
  rintro e w2 ⟨a2,n2,c2,zs2,rfl,hn2,hs2,hc2,hv2,hB2⟩
  go_wp2_with fail
  refine (zCv _ _ _ _ _ _ hs2 zm).mono ?_
  rintro e w3 ⟨v,rfl,⟨ng,ao,nn,cc,rs,rfl,hrs,hrc,hrn,hrz⟩,hb3⟩
  obtain ⟨e0,e1,e2,e3⟩:=(hC.mono hB2 hC.lt).mono hb3 (Nat.lt_of_lt_of_le hC.lt hB2.size)
  have HZ:Hid (z=sgn ng (val rs)):=by
   show _=_
   rw [← hrz,hv2];simp [sgn]
  have hb4:Below w.heap.size w w3:=(hCb.trans (hB2.mono hCb.size)).trans (hb3.mono (Nat.le_trans hCb.size hB2.size))
  clear hrz hv2 hC hq hq'
  go_wp2
  refine bodyPost_ret (v:=.agg #[.bool ng,.slice ao nn cc]) ?_ rfl ?_
  ·simp [results,Tryz.results58,go_sem,e0,e1]
  ·exact zB7 ⟨e0,e1,e2,e3⟩ hrs hrc hrn HZ.out hb4 (Nat.le_refl _)
 ·have hq:IntKind.u64.wrap z=z:=by rw [zB3];omega
  go_enter Tryz.func58,Tryz.ntmps58
  go_wp2_with fail
  refine (zFk _ z zm zm).mono ?_
  rintro e w2 ⟨a2,n2,c2,zs2,rfl,hn2,hs2,hc2,hv2,hB2⟩
  go_wp2_with fail
  refine (zCv _ _ _ _ _ _ hs2 zm).mono ?_
  rintro e w3 ⟨v,rfl,⟨ng,ao,nn,cc,rs,rfl,hrs,hrc,hrn,hrz⟩,hb3⟩
  obtain ⟨e0,e1,e2,e3⟩:=(hC.mono hB2 hC.lt).mono hb3 (Nat.lt_of_lt_of_le hC.lt hB2.size)
  have HZ:Hid (z=sgn ng (val rs)):=by
   show _=_
   rw [← hrz,hv2];simp [sgn]
  have hb4:Below w.heap.size w w3:=(hCb.trans (hB2.mono hCb.size)).trans (hb3.mono (Nat.le_trans hCb.size hB2.size))
  clear hrz hv2 hC hq
  go_wp2
  refine bodyPost_ret (v:=.agg #[.bool ng,.slice ao nn cc]) ?_ rfl ?_
  ·simp [results,Tryz.results58,go_sem,e0,e1]
  ·exact zB7 ⟨e0,e1,e2,e3⟩ hrs hrc hrn HZ.out hb4 (Nat.le_refl _)

def lowV (z:Int):Value:=if -9223372036854775808≤z∧z≤9223372036854775807 then .tuple #[.int .i64 z,.bool true] else .tuple #[.int .i64 0,.bool false]

theorem Low_any (w:World) (na:Bool) (ax:Option Addr) (n cx:Nat) (xs:List Int) (hX:Sl w ax n cx xs) (hb1:n≤1000000) :
  Calls Tryz.prog 169 #[.agg #[.bool na,.slice ax n cx]] w fun e w'=>e=.returned (lowV (sgn na (val xs)))∧Below w.heap.size w w':=by
 have hX0:=hX.mono (zAh w (.cells #[.bool na,.slice ax n cx] 36))
 have hnn:=zAm hX.digs
 obtain ⟨u,hu⟩:∃ u,u=val xs:=⟨_,rfl⟩
 have HU:=hidd hu
 rw [← hu]
 rw [← hu] at hnn
 clear hu
 go_enter Tryz.func169,Tryz.ntmps169
 go_wp2_with fail
 refine (zBm _ _ _ _ _ hX0 zm).mono ?_
 rintro e w' ⟨m,rfl,hm,hs,hv,hc,rfl⟩
 have hp2:pw 2=18446744073709551616:=rfl
 rw [← HU.out] at hv
 by_cases hm2:m≤2
 ·have hlt:u<18446744073709551616:=by
   have:=zBa hs.digs
   rw [hs.len,hv] at this
   have:=zBu hm2
   omega
  have HV:=hidd hv
  clear hv hp2
  have hs':=zIp _ _ _ _ _ hs hm2
  rw [HV.out] at hs'
  have HS:=hidd hs'
  clear hs'
  cases na
  ·by_cases hg:u≤9223372036854775807
   ·have HL:Hid (lowV (sgn false u)=.tuple #[.int .i64 u,.bool true]):=if_pos ⟨by simp [sgn];omega,by simp [sgn];omega⟩
    go_wp2_with (go_at_call 122;(with_reducible refine (Calls.mono HS.out ?_));rintro e w' ⟨rfl,rfl⟩)
    go_ret2
    exact ⟨by rw [HL.out];rfl,zAh _ _⟩
   ·have HL:Hid (lowV (sgn false u)=.tuple #[.int .i64 0,.bool false]):=if_neg (by simp [sgn];omega)
    go_wp2_with (go_at_call 122;(with_reducible refine (Calls.mono HS.out ?_));rintro e w' ⟨rfl,rfl⟩)
    go_ret2
    exact ⟨by rw [HL.out];rfl,zAh _ _⟩
  ·by_cases hg:u≤9223372036854775808
   ·have HL:Hid (lowV (sgn true u)=.tuple #[.int .i64 (-u),.bool true]):=if_pos ⟨by simp [sgn];omega,by simp [sgn];omega⟩
    have HW:Hid (wrap64 (IntKind.u64.wrap (-u))=-u):=by show _=_;rw [zB3];unfold wrap64;omega
    go_wp2_with (go_at_call 122;(with_reducible refine (Calls.mono HS.out ?_));rintro e w' ⟨rfl,rfl⟩)
    go_ret2
    refine ⟨?_,zAh _ _⟩
    rw [HL.out]
    first | rfl | (simp [HW.out];done) | (show Ending.returned (.tuple #[.int .i64 (wrap64 (IntKind.u64.wrap (-u))),.bool true])=_;rw [HW.out])
   ·have HL:Hid (lowV (sgn true u)=.tuple #[.int .i64 0,.bool false]):=if_neg (by simp [sgn];omega)
    go_wp2_with (go_at_call 122;(with_reducible refine (Calls.mono HS.out ?_));rintro e w' ⟨rfl,rfl⟩)
    go_ret2
    exact ⟨by rw [HL.out];rfl,zAh _ _⟩
 ·have hge:18446744073709551616≤u:=by
   rcases hc.2 with h | h
   ·rw [hs.len] at h;omega
   ·rw [hs.len,hv] at h
    have:=zBu (show 2≤m-1 by omega)
    omega
  have HL:Hid (lowV (sgn na u)=.tuple #[.int .i64 0,.bool false]):=if_neg (by cases na <;> simp [sgn] <;> omega)
  clear hp2 hv
  go_wp2
  go_ret2
  exact ⟨by rw [HL.out];rfl,zAh _ _⟩

end Go.Proofs.YtjadciofpgjofaaGreatDoor
namespace Go.Proofs.YtjadciofpgjofaaGreatDoor
open Go Go.RowKit

section
variable {ops : Array Oper} {Q : Exit → Act → World → Prop} {K : Act → World → Prop} {a : Act} {w : World} {i : Nat} {d : Option Tmp} {ty : TypeId} {ps : String} {af : Array Edge}

theorem op_load {x:Operand} {b:Nat} {p q:Value} (ho:ops[i]?=some { dst:=d,op:=.load 36 x,type:=ty,pos:=ps,after:=af,guard:=none }) (hx:a.eval x=.pointer (some ⟨b,0,none⟩)) (h0:w.cell? ⟨b,0,none⟩=some p) (h1:w.cell? ⟨b,1,none⟩=some q)
  (h:K (a.put d (.agg #[p,q])) w):wpOp Tryz.prog ops Q i K a w:=by
 refine wpOp_step ho fun K' hK=>?_
 have e:(execOp a.eval ({ dst:=d,op:=.load 36 x,type:=ty,pos:=ps,after:=af,guard:=none }:Oper)).run Tryz.prog w=(.ok (.value (.agg #[p,q])) w):=by
  generalize a.eval=ρ at hx
  simp [execOp,go_sem,hx,h0,h1]
 have hwn:Region.wanted ({ dst:=d,op:=.load 36 x,type:=ty,pos:=ps,after:=af,guard:=none }:Oper) (yielded ops a.tmps)=true:=rfl
 rw [if_pos hwn]
 unfold Oper.wp
 rw [e]
 exact hK _ _ h

theorem zMn {x y:Operand} {b:Nat} {p q:Value} {n':Bool} {a':Option Addr} {k' c':Nat} (ho:ops[i]?=some { dst:=d,op:=.store 36 x y,type:=ty,pos:=ps,after:=af,guard:=none }) (hx:a.eval x=.pointer (some ⟨b,0,none⟩)) (hy:a.eval y=.agg #[.bool n',.slice a' k' c']) (h0:IntBox w b p q)
  (h:K (a.put d undef) ((w.setCell ⟨b,0,none⟩ (.bool n')).setCell ⟨b,1,none⟩ (.slice a' k' c'))):wpOp Tryz.prog ops Q i K a w:=by
 refine wpOp_step ho fun K' hK=>?_
 obtain ⟨e0,e1,e2,e3⟩:=h0
 have e:(execOp a.eval ({ dst:=d,op:=.store 36 x y,type:=ty,pos:=ps,after:=af,guard:=none }:Oper)).run Tryz.prog w=(.ok .skip ((w.setCell ⟨b,0,none⟩ (.bool n')).setCell ⟨b,1,none⟩ (.slice a' k' c'))):=by
  generalize a.eval=ρ at hx hy
  simp [execOp,go_sem,hx,hy,e0,e1,e2,e3]
 have hwn:Region.wanted ({ dst:=d,op:=.store 36 x y,type:=ty,pos:=ps,after:=af,guard:=none }:Oper) (yielded ops a.tmps)=true:=rfl
 rw [if_pos hwn]
 unfold Oper.wp
 rw [e]
 exact hK _ _ h

theorem zQx (ho:ops[i]?=some { dst:=d,op:=.alloc 36,type:=ty,pos:=ps,after:=af,guard:=none })
  (h:K (a.put d (.pointer (some ⟨w.heap.size,0,none⟩))) (w.alloc (.cells #[.bool false,.slice none 0 0] 36))):wpOp Tryz.prog ops Q i K a w:=by
 refine wpOp_step ho fun K' hK=>?_
 have e:(execOp a.eval ({ dst:=d,op:=.alloc 36,type:=ty,pos:=ps,after:=af,guard:=none }:Oper)).run Tryz.prog w=(.ok (.value (.pointer (some ⟨w.heap.size,0,none⟩))) (w.alloc (.cells #[.bool false,.slice none 0 0] 36))):=by
  generalize a.eval=ρ
  simp [execOp,go_sem]
 have hwn:Region.wanted ({ dst:=d,op:=.alloc 36,type:=ty,pos:=ps,after:=af,guard:=none }:Oper) (yielded ops a.tmps)=true:=rfl
 rw [if_pos hwn]
 unfold Oper.wp
 rw [e]
 exact hK _ _ h

theorem op_move {x:Operand} {v:Value} (ho:ops[i]?=some { dst:=d,op:=.move x,type:=ty,pos:=ps,after:=af,guard:=none }) (hx:a.eval x=v)
  (h:K (a.put d v) w):wpOp Tryz.prog ops Q i K a w:=by
 refine wpOp_step ho fun K' hK=>?_
 have e:(execOp a.eval ({ dst:=d,op:=.move x,type:=ty,pos:=ps,after:=af,guard:=none }:Oper)).run Tryz.prog w=(.ok (.value v) w):=by
  generalize a.eval=ρ at hx
  simp [execOp,go_sem,hx]
 have hwn:Region.wanted ({ dst:=d,op:=.move x,type:=ty,pos:=ps,after:=af,guard:=none }:Oper) (yielded ops a.tmps)=true:=rfl
 rw [if_pos hwn]
 unfold Oper.wp
 rw [e]
 exact hK _ _ h

theorem op_assign {x:Operand} {v:Value} (ho:ops[i]?=some { dst:=d,op:=.assign x,type:=ty,pos:=ps,after:=af,guard:=none }) (hx:a.eval x=v)
  (h:K (a.put d v) w):wpOp Tryz.prog ops Q i K a w:=by
 refine wpOp_step ho fun K' hK=>?_
 have e:(execOp a.eval ({ dst:=d,op:=.assign x,type:=ty,pos:=ps,after:=af,guard:=none }:Oper)).run Tryz.prog w=(.ok (.value v) w):=by
  generalize a.eval=ρ at hx
  simp [execOp,go_sem,hx]
 have hwn:Region.wanted ({ dst:=d,op:=.assign x,type:=ty,pos:=ps,after:=af,guard:=none }:Oper) (yielded ops a.tmps)=true:=rfl
 rw [if_pos hwn]
 unfold Oper.wp
 rw [e]
 exact hK _ _ h

theorem zWp {x:Operand} {k:Nat} {vs:Array Value} {v:Value} (ho:ops[i]?=some { dst:=d,op:=.extract x k,type:=ty,pos:=ps,after:=af,guard:=none }) (hx:a.eval x=.tuple vs) (hv:vs[k]?=some v)
  (h:K (a.put d v) w):wpOp Tryz.prog ops Q i K a w:=by
 refine wpOp_step ho fun K' hK=>?_
 have e:(execOp a.eval ({ dst:=d,op:=.extract x k,type:=ty,pos:=ps,after:=af,guard:=none }:Oper)).run Tryz.prog w=(.ok (.value v) w):=by
  generalize a.eval=ρ at hx
  simp [execOp,go_sem,hx,hv]
 have hwn:Region.wanted ({ dst:=d,op:=.extract x k,type:=ty,pos:=ps,after:=af,guard:=none }:Oper) (yielded ops a.tmps)=true:=rfl
 rw [if_pos hwn]
 unfold Oper.wp
 rw [e]
 exact hK _ _ h

theorem op_call {f:FuncId} {xs:Array Operand} {ts:Array TypeId} {args:Array Value} (ho:ops[i]?=some { dst:=d,op:=.call { callee:=.value (.func f),args:=xs,argTypes:=ts },type:=ty,pos:=ps,after:=af,guard:=none }) (hx:xs.map a.eval=args)
  (hen:∀ args w,(callFunc f args).run Tryz.prog w=.ok (.enter f args) w) (h:Calls Tryz.prog f args w fun e w'=>∃ v,e=.returned v∧K (a.put d v) w'):wpOp Tryz.prog ops Q i K a w:=by
 refine wpOp_step ho fun K' hK=>?_
 have e:(execOp a.eval ({ dst:=d,op:=.call { callee:=.value (.func f),args:=xs,argTypes:=ts },type:=ty,pos:=ps,after:=af,guard:=none }:Oper)).run Tryz.prog w=(.ok (.enter f args) w):=by
  have hf:a.eval (.func f)=.func (.func f) #[] #[]:=rfl
  generalize a.eval=ρ at hx hf
  simp [execOp,go_sem,hx,hf,hen]
 have hwn:Region.wanted ({ dst:=d,op:=.call { callee:=.value (.func f),args:=xs,argTypes:=ts },type:=ty,pos:=ps,after:=af,guard:=none }:Oper) (yielded ops a.tmps)=true:=rfl
 rw [if_pos hwn]
 unfold Oper.wp
 rw [e]
 refine Calls.mono h ?_
 rintro e' w' ⟨v,rfl,hv⟩
 exact hK _ _ hv

end

abbrev En (f:Nat):Prop:=∀ (args:Array Value) (w:World),(callFunc f args).run Tryz.prog w=.ok (.enter f args) w
theorem zAd {f : FuncId} {fn : Func} {c : Code} (hf : Tryz.prog.funcs[f]? = some fn) (hname : (fn.name == "runtime.NumGoroutine") = false) (hb : fn.body = some c) (args : Array Value) (w : World) :
  (callFunc f args).run Tryz.prog w=.ok (.enter f args) w:=by
 have h1 : ¬ fn.name = "runtime.NumGoroutine" := by simpa using hname
 simp [callFunc,hf,h1,hb,go_sem]

theorem zO1:En 37:=zAd Tryz.func37 (by kernel_rfl) rfl

def Num (w:World) (v:Value) (z:Int):Prop:=
 ∃ (neg:Bool) (ao:Option Addr) (n c:Nat) (xs:List Int),v=.agg #[.bool neg,.slice ao n c]∧Sl w ao n c xs∧n≤900000∧z=sgn neg (val xs)∧Canon xs∧(neg=true→n≠0)

theorem Num.mono {w w':World} {v:Value} {z:Int} (h:Num w v z) (hb:Below w.heap.size w w'):Num w' v z:=by
 obtain ⟨neg,ao,n,c,xs,hv,hs,hn,hz⟩:=h
 exact ⟨neg,ao,n,c,xs,hv,hs.mono hb,hn,hz⟩

def BoxNum (w:World) (b:Nat) (z:Int):Prop:=∃ (n:Bool) (ao:Option Addr) (k c:Nat),IntBox w b (.bool n) (.slice ao k c)∧Num w (.agg #[.bool n,.slice ao k c]) z

theorem BoxNum.lt {w:World} {b:Nat} {z:Int} (h:BoxNum w b z):b<w.heap.size:=by
 obtain ⟨n,ao,k,c,hI,_⟩:=h
 exact hI.lt

theorem BoxNum.mono {w w':World} {b:Nat} {z:Int} (h:BoxNum w b z) (hb:Below w.heap.size w w'):BoxNum w' b z:=by
 have hl:=h.lt
 obtain ⟨n,ao,k,c,hI,hN⟩:=h
 exact ⟨n,ao,k,c,hI.mono hb hl,hN.mono hb⟩

def putBox (w:World) (b:Nat) (n:Bool) (ao:Option Addr) (k c:Nat):World:=(w.setCell ⟨b,0,none⟩ (.bool n)).setCell ⟨b,1,none⟩ (.slice ao k c)

theorem zMt (w:World) (b:Nat) (n:Bool) (ao:Option Addr) (k c:Nat):(putBox w b n ao k c).heap.size=w.heap.size:=by
 unfold putBox;rw [World.size_setCell,World.size_setCell]

theorem Sl.putBox {w:World} {ao:Option Addr} {n c:Nat} {xs:List Int} (h:Sl w ao n c xs) {b:Nat} {p':Bool} {q':Option Addr} {r' s':Nat} (hI:IntBox w b (.bool p') (.slice q' r' s')) (n':Bool) (a':Option Addr) (k' c':Nat):Sl (putBox w b n' a' k' c') ao n c xs:=by
 have h1:(w.setCell ⟨b,0,none⟩ (.bool n')).cell? ⟨b,1,none⟩=some (.slice q' r' s'):=by
  rw [World.cell?_setCell_other _ _ _ _ (by intro e;cases e)];exact hI.2.1
 exact (h.setOther hI.1 (by intro q e;cases e) _).setOther h1 (by intro q e;cases e) _

theorem Num.putBox {w:World} {v:Value} {z y:Int} {b:Nat} (h:Num w v z) (hb:BoxNum w b y) (n':Bool) (a':Option Addr) (k' c':Nat):Num (putBox w b n' a' k' c') v z:=by
 obtain ⟨neg,ao,n,c,xs,hv,hs,hn,hz⟩:=h
 obtain ⟨_,_,_,_,hI,_⟩:=hb
 exact ⟨neg,ao,n,c,xs,hv,hs.putBox hI _ _ _ _,hn,hz⟩

theorem IntBox.putOther {w:World} {b b':Nat} {p q:Value} (h:IntBox w b p q) (hne:b≠b') (n':Bool) (a':Option Addr) (k' c':Nat):IntBox (putBox w b' n' a' k' c') b p q:=by
 unfold Go.Proofs.YtjadciofpgjofaaGreatDoor.putBox
 refine ⟨?_,?_,?_,?_⟩
 ·rw [World.cell?_setCell_other _ _ _ _ (by intro e;exact hne (congrArg Addr.block e).symm),World.cell?_setCell_other _ _ _ _ (by intro e;exact hne (congrArg Addr.block e).symm)];exact h.1
 ·rw [World.cell?_setCell_other _ _ _ _ (by intro e;exact hne (congrArg Addr.block e).symm),World.cell?_setCell_other _ _ _ _ (by intro e;exact hne (congrArg Addr.block e).symm)];exact h.2.1
 ·rw [World.frozen?_setCell,World.frozen?_setCell];exact h.2.2.1
 ·rw [World.frozen?_setCell,World.frozen?_setCell];exact h.2.2.2

theorem BoxNum.putOther {w:World} {b b':Nat} {z y:Int} (h:BoxNum w b z) (hb:BoxNum w b' y) (hne:b≠b') (n':Bool) (a':Option Addr) (k' c':Nat):BoxNum (putBox w b' n' a' k' c') b z:=by
 obtain ⟨n,ao,k,c,hI,hN⟩:=h
 exact ⟨n,ao,k,c,hI.putOther hne _ _ _ _,hN.putBox hb _ _ _ _⟩

theorem BoxNum.putSame {w:World} {b:Nat} {z y:Int} {n':Bool} {a':Option Addr} {k' c':Nat} (h:BoxNum w b y) (hN:Num w (.agg #[.bool n',.slice a' k' c']) z):BoxNum (putBox w b n' a' k' c') b z:=by
 have hN':=hN.putBox h n' a' k' c'
 obtain ⟨n,ao,k,c,hI,_⟩:=h
 refine ⟨n',a',k',c',⟨?_,?_,?_,?_⟩,hN'⟩
 ·unfold Go.Proofs.YtjadciofpgjofaaGreatDoor.putBox
  rw [World.cell?_setCell_other _ _ _ _ (by intro e;cases e)]
  exact World.cell?_setCell_same' _ _ _ (by rw [hI.1];rfl)
 ·unfold Go.Proofs.YtjadciofpgjofaaGreatDoor.putBox
  refine World.cell?_setCell_same' _ _ _ ?_
  rw [World.cell?_setCell_other _ _ _ _ (by intro e;cases e),hI.2.1];rfl
 ·unfold Go.Proofs.YtjadciofpgjofaaGreatDoor.putBox
  rw [World.frozen?_setCell,World.frozen?_setCell];exact hI.2.2.1
 ·unfold Go.Proofs.YtjadciofpgjofaaGreatDoor.putBox
  rw [World.frozen?_setCell,World.frozen?_setCell];exact hI.2.2.2

theorem zI1 {B:Nat} {w w':World} (h:Below B w w') {b:Nat} (hb:B≤b) (n':Bool) (a':Option Addr) (k' c':Nat):Below B w (putBox w' b n' a' k' c'):=(h.setCell hb _).setCell hb _

structure Plan where
 C:Nat→Value→World→Prop
 old:List (Nat × Nat × Int × Int)
 new:List (Nat × Nat × Int)

structure Plan.G (p:Plan) (B B0:Nat) (w0:World) (L:Nat→Bool) (vs:Nat→Value) (w:World):Prop where
 below:Below B w0 w
 size:B0≤w.heap.size
 val:∀ j,L j=true→p.C j (vs j) w
 old:∀ o∈p.old,BoxNum w o.1 (if L o.2.1 then o.2.2.2 else o.2.2.1)
 new:∀ n∈p.new,L n.1=true→∃ b,vs n.1=.pointer (some ⟨b,0,none⟩)∧B0≤b∧BoxNum w b (if L n.2.1 then n.2.2 else 0)
 apart:∀ n∈p.new,∀ m∈p.new,n.1≠m.1→L n.1=true→L m.1=true→vs n.1≠vs m.1

structure Plan.Ok (p:Plan) (B B0:Nat):Prop where
 mono:∀ j v w w',p.C j v w→Below w.heap.size w w'→p.C j v w'
 put:∀ j v w b y n' a' k' c',p.C j v w→BoxNum w b y→p.C j v (putBox w b n' a' k' c')
 oldlt:∀ o∈p.old,B≤o.1∧o.1<B0
 oldne:∀ o∈p.old,∀ q∈p.old,o.2.1≠q.2.1→o.1≠q.1
 newinj:∀ n∈p.new,∀ m∈p.new,n.1=m.1→n=m
 le:B≤B0

theorem Plan.G.plain {p:Plan} {B B0:Nat} {w0 w w':World} {L:Nat→Bool} {vs:Nat→Value} (h:p.G B B0 w0 L vs w) (hp:p.Ok B B0) {i:Nat} {v:Value} (hL:L i=false) (hb:Below w.heap.size w w') (hC:p.C i v w')
  (h1:∀ o∈p.old,o.2.1≠i) (h2:∀ n∈p.new,n.1≠i∧n.2.1≠i):p.G B B0 w0 (up L i true) (up vs i v) w' where
 below:=h.below.trans (hb.mono (Nat.le_trans hp.le h.size))
 size:=Nat.le_trans h.size hb.size
 val:=fun j hj=>by
  by_cases hji:j=i
  ·subst hji;rw [zBx];exact hC
  ·rw [zAg _ _ hji] at hj ⊢;exact hp.mono _ _ _ _ (h.val j hj) hb
 old:=fun o ho=>by rw [zAg _ _ (h1 o ho)];exact (h.old o ho).mono hb
 new:=fun n hn hj=>by
  rw [zAg _ _ (h2 n hn).1] at hj ⊢
  rw [zAg _ _ (h2 n hn).2]
  obtain ⟨b,e1,e2,e3⟩:=h.new n hn hj
  exact ⟨b,e1,e2,e3.mono hb⟩
 apart:=fun n hn m hm hne hj hk=>by
  rw [zAg _ _ (h2 n hn).1] at hj ⊢
  rw [zAg _ _ (h2 m hm).1] at hk ⊢
  exact h.apart n hn m hm hne hj hk

theorem BoxNum.zero {w:World} {b:Nat} (h:IntBox w b (.bool false) (.slice none 0 0)):BoxNum w b 0:=
 ⟨false,none,0,0,h,false,none,0,0,[],rfl,Sl.nil _,zm,by simp [sgn,Go.Proofs.YtjadciofpgjofaaGreatDoor.val],⟨fun _ hx=>by simp at hx,.inl rfl⟩,by simp⟩

theorem Plan.G.alloc {p:Plan} {B B0:Nat} {w0 w:World} {L:Nat→Bool} {vs:Nat→Value} (h:p.G B B0 w0 L vs w) (hp:p.Ok B B0) {i k:Nat} {z:Int} (hL:L i=false) (hk:L k=false) (hi:(i,k,z)∈p.new)
  (hC:∀ v w',p.C i v w') (h1:∀ o∈p.old,o.2.1≠i) (h2:∀ n∈p.new,n.2.1≠i∧(n.1=i→n=(i,k,z))) (t:TypeId) :
  p.G B B0 w0 (up L i true) (up vs i (.pointer (some ⟨w.heap.size,0,none⟩))) (w.alloc (.cells #[.bool false,.slice none 0 0] t)):=by
 have hb:=zAh w (.cells #[.bool false,.slice none 0 0] t)
 refine ⟨h.below.trans (hb.mono (Nat.le_trans hp.le h.size)),Nat.le_trans h.size hb.size,fun j hj=>?_,fun o ho=>?_,fun n hn hj=>?_,fun n hn m hm hne hj hk'=>?_⟩
 ·by_cases hji:j=i
  ·subst hji;exact hC _ _
  ·rw [zAg _ _ hji] at hj ⊢;exact hp.mono _ _ _ _ (h.val j hj) hb
 ·rw [zAg _ _ (h1 o ho)];exact (h.old o ho).mono hb
 ·rw [zAg _ _ (h2 n hn).1]
  by_cases hni:n.1=i
  ·have e:=(h2 n hn).2 hni
   subst e
   rw [zBx]
   refine ⟨_,rfl,h.size,?_⟩
   show BoxNum _ _ (if L k then z else 0)
   rw [hk]
   exact BoxNum.zero (IntBox.new w _ _ t)
  ·rw [zAg _ _ hni] at hj ⊢
   obtain ⟨b,e1,e2,e3⟩:=h.new n hn hj
   exact ⟨b,e1,e2,e3.mono hb⟩
 ·by_cases hni:n.1=i
  ·have hmi:m.1≠i:=fun e=>hne (hni.trans e.symm)
   rw [hni,zBx]
   rw [zAg _ _ hmi] at hk' ⊢
   obtain ⟨b,e1,e2,e3⟩:=h.new m hm hk'
   rw [e1]
   intro e
   have:=e3.lt
   injection e with e
   injection e with e
   injection e with e
   omega
  ·rw [zAg _ _ hni] at hj ⊢
   by_cases hmi:m.1=i
   ·rw [hmi,zBx]
    obtain ⟨b,e1,e2,e3⟩:=h.new n hn hj
    rw [e1]
    intro e
    have:=e3.lt
    injection e with e
    injection e with e
    injection e with e
    omega
   ·rw [zAg _ _ hmi] at hk' ⊢
    exact h.apart n hn m hm hne hj hk'

theorem Plan.G.storeNew {p:Plan} {B B0:Nat} {w0 w:World} {L:Nat→Bool} {vs:Nat→Value} (h:p.G B B0 w0 L vs w) (hp:p.Ok B B0) {i k:Nat} {z:Int} (hL:L k=false) (hi:(i,k,z)∈p.new) (hLi:L i=true)
  {n':Bool} {a':Option Addr} {k' c':Nat} (hN:Num w (.agg #[.bool n',.slice a' k' c']) z) (hC:∀ v w',p.C k v w') (h1:∀ o∈p.old,o.2.1≠k) (h2:∀ n∈p.new,n.1≠k∧(n.2.1=k→n=(i,k,z))) {b:Nat} (hb:vs i=.pointer (some ⟨b,0,none⟩)) (v:Value) :
  p.G B B0 w0 (up L k true) (up vs k v) (putBox w b n' a' k' c'):=by
 obtain ⟨b',hb',hB0,hbox⟩:=h.new _ hi hLi
 have hbb:b'=b:=by
  have:=hb'.symm.trans hb
  injection this with e
  injection e with e
  injection e with e
 subst hbb
 have hsz:B0≤(putBox w b' n' a' k' c').heap.size:=by rw [zMt];exact h.size
 refine ⟨zI1 h.below (Nat.le_trans hp.le hB0) _ _ _ _,hsz,fun j hj=>?_,fun o ho=>?_,fun n hn hj=>?_,fun n hn m hm hne hj hk'=>?_⟩
 ·by_cases hji:j=k
  ·subst hji;exact hC _ _
  ·rw [zAg _ _ hji] at hj ⊢;exact hp.put _ _ _ _ _ _ _ _ _ (h.val j hj) hbox
 ·rw [zAg _ _ (h1 o ho)]
  exact (h.old o ho).putOther hbox (by have:=(hp.oldlt o ho).2;omega) _ _ _ _
 ·rw [zAg _ _ (h2 n hn).1] at hj ⊢
  by_cases hnk:n.2.1=k
  ·have e:=(h2 n hn).2 hnk
   subst e
   refine ⟨b',hb',hB0,?_⟩
   show BoxNum _ _ (if up L k true k then z else 0)
   rw [zBx]
   exact hbox.putSame hN
  ·rw [zAg _ _ hnk]
   obtain ⟨b2,e1,e2,e3⟩:=h.new n hn hj
   refine ⟨b2,e1,e2,e3.putOther hbox (fun e=>?_) _ _ _ _⟩
   have hni:n.1≠i:=fun e'=>by
    have e2:=hp.newinj n hn _ hi e'
    exact hnk (by rw [e2])
   exact h.apart n hn _ hi hni hj hLi (by rw [e1,hb',e])
 ·rw [zAg _ _ (h2 n hn).1] at hj ⊢
  rw [zAg _ _ (h2 m hm).1] at hk' ⊢
  exact h.apart n hn m hm hne hj hk'

theorem Plan.G.storeOld {p:Plan} {B B0:Nat} {w0 w:World} {L:Nat→Bool} {vs:Nat→Value} (h:p.G B B0 w0 L vs w) (hp:p.Ok B B0) {b k:Nat} {z z':Int} (hi:(b,k,z,z')∈p.old)
  {n':Bool} {a':Option Addr} {k' c':Nat} (hN:Num w (.agg #[.bool n',.slice a' k' c']) z') (hC:∀ v w',p.C k v w') (h1:∀ o∈p.old,o.2.1=k→o=(b,k,z,z')) (h2:∀ n∈p.new,n.1≠k∧n.2.1≠k) (v:Value) :
  p.G B B0 w0 (up L k true) (up vs k v) (putBox w b n' a' k' c'):=by
 have hbox:=h.old _ hi
 have hblt:=hp.oldlt _ hi
 have hsz:B0≤(putBox w b n' a' k' c').heap.size:=by rw [zMt];exact h.size
 refine ⟨zI1 h.below hblt.1 _ _ _ _,hsz,fun j hj=>?_,fun o ho=>?_,fun n hn hj=>?_,fun n hn m hm hne hj hk'=>?_⟩
 ·by_cases hji:j=k
  ·subst hji;exact hC _ _
  ·rw [zAg _ _ hji] at hj ⊢;exact hp.put _ _ _ _ _ _ _ _ _ (h.val j hj) hbox
 ·by_cases hok:o.2.1=k
  ·have e:=h1 o ho hok
   subst e
   show BoxNum _ _ (if up L k true k then z' else z)
   rw [zBx]
   exact hbox.putSame hN
  ·rw [zAg _ _ hok]
   exact (h.old o ho).putOther hbox (hp.oldne o ho _ hi hok) _ _ _ _
 ·rw [zAg _ _ (h2 n hn).1] at hj ⊢
  rw [zAg _ _ (h2 n hn).2]
  obtain ⟨b2,e1,e2,e3⟩:=h.new n hn hj
  exact ⟨b2,e1,e2,e3.putOther hbox (by have:=hblt.2;simp at this;omega) _ _ _ _⟩
 ·rw [zAg _ _ (h2 n hn).1] at hj ⊢
  rw [zAg _ _ (h2 m hm).1] at hk' ⊢
  exact h.apart n hn m hm hne hj hk'

end Go.Proofs.YtjadciofpgjofaaGreatDoor
set_option linter.unusedSimpArgs false
namespace Go.Proofs.YtjadciofpgjofaaGreatDoor

theorem g_init (B P U V lo u2 t lv s f g r:Int) (hlo:lo<P) (hU:U=lo+P*(u2+B*t)) (hV:V=lv+P*(s+B*f)) (hlv:0≤lv) (hs:0≤s) (hP:0<P) (hB:0<B) (hu2:u2<B)
  (ht:t=g*f+r) (hr:r<f) (hg:0≤g):U<(g+1)*V:=by
 have h0:0≤(g+1)*f-(t+1):=by rw [Int.add_mul,ht];omega
 have h1:=Int.mul_nonneg (Int.mul_nonneg (Int.le_of_lt hP) (Int.le_of_lt hB)) h0
 have h2:0≤(g+1)*lv:=Int.mul_nonneg zm hlv
 have h3:0≤(g+1)*(P*s):=Int.mul_nonneg zm (Int.mul_nonneg zm hs)
 have h4:0≤P*(B-1-u2):=Int.mul_nonneg zm zm
 subst hU hV ht
 simp only [Int.mul_add,Int.add_mul,Int.mul_sub,Int.sub_mul,Int.mul_one,Int.one_mul,Int.mul_comm,Int.mul_left_comm,Int.mul_assoc] at *
 omega
theorem g_down1 (B P U V lo u2 t lv s f g r:Int) (hlo:lo<P) (hU:U=lo+P*(u2+B*t)) (hV:V=lv+P*(s+B*f)) (hlv:0≤lv) (hP:0<P) 
  (ht:t=g*f+r)  (hg:0≤g) (hc:r*B+u2<g*s):U<g*V:=by
 have h1:0≤P*(g*s-(r*B+u2+1)):=Int.mul_nonneg zm zm
 have h2:0≤g*lv:=Int.mul_nonneg hg hlv
 subst hU hV ht
 simp only [Int.mul_add,Int.add_mul,Int.mul_sub,Int.sub_mul,Int.mul_one,Int.one_mul,Int.mul_comm,Int.mul_left_comm,Int.mul_assoc] at *
 omega
theorem g_end (B P U V lo u2 t lv s f g r:Int) (hlo:0≤lo) (hU:U=lo+P*(u2+B*t)) (hV:V=lv+P*(s+B*f)) (hlv0:0≤lv) (hlv:lv<P) (hs:0≤s) (hP:0<P) (hf:1≤f)
  (ht:t=g*f+r)  (hg:0≤g) (hgB:g<B) (hc:g*s≤r*B+u2):(g-1)*V≤U:=by
 have h1:0≤P*(r*B+u2-g*s):=Int.mul_nonneg zm zm
 have h2:0≤g*(P-1-lv):=Int.mul_nonneg hg zm
 have h3:0≤P*(B-1-g):=Int.mul_nonneg zm zm
 have h4:0≤P*s:=Int.mul_nonneg zm hs
 have h5:0≤P*B*(f-1):=Int.mul_nonneg (Int.mul_nonneg zm zm) zm
 subst hU hV ht
 simp only [Int.mul_add,Int.add_mul,Int.mul_sub,Int.sub_mul,Int.mul_one,Int.one_mul,Int.mul_comm,Int.mul_left_comm,Int.mul_assoc] at *
 omega
theorem g_top (B P U V lo u2 u1 u0 lv s f:Int) (hlo:0≤lo) (hU:U=lo+P*(u2+B*(u1+B*u0))) (hV:V=lv+P*(s+B*f)) (hlv:lv<P) (hs:s<B) (hP:0<P) (hB:0<B) (hu2:0≤u2) (hu1:0≤u1)
  (h:U<V*B):u0≤f:=by
 have h1:0≤P*u2:=Int.mul_nonneg zm hu2
 have h2:0≤P*B*u1:=Int.mul_nonneg (Int.mul_nonneg zm zm) hu1
 have h3:0≤B*(P-1-lv):=Int.mul_nonneg zm zm
 have h4:0≤P*B*(B-1-s):=Int.mul_nonneg (Int.mul_nonneg zm zm) zm
 refine Int.not_lt.1 fun hn=>?_
 have h5:0≤P*B*B*(u0-f-1):=Int.mul_nonneg (Int.mul_nonneg (Int.mul_nonneg zm zm) zm) zm
 subst hU hV
 simp only [Int.mul_add,Int.add_mul,Int.mul_sub,Int.sub_mul,Int.mul_one,Int.one_mul,Int.mul_comm,Int.mul_left_comm,Int.mul_assoc] at *
 omega

end Go.Proofs.YtjadciofpgjofaaGreatDoor
namespace Go.Proofs.YtjadciofpgjofaaGreatDoor
open Go.RowKit

theorem zSg (x a b:Int) (_:0≤x) (_:x<4294967296) (_:0≤a) (_:a<4294967296) (_:0≤b) (_:b≤1) :
  IntKind.u64.wrap (IntKind.u64.wrap (x-a)-b) % 4294967296=(x-a-b) % 4294967296:=by
 rw [zB3,zB3];omega
theorem zSf (x a b:Int) (_:0≤x) (_:x<4294967296) (_:0≤a) (_:a<4294967296) (_:0≤b) (_:b≤1) :
  IntKind.u64.wrap (IntKind.u64.wrap (x-a)-b)/9223372036854775808=-((x-a-b)/4294967296):=by
 rw [zB3,zB3];omega

theorem zQj {k:Nat} {vs ws ys:List Int} {g c d x y p:Int} (hk:k<ws.length) (h:val (ws.take k)=val (vs.take k)-g*val (ys.take k)+pw k*(c+d))
  (hx:vs.getD k 0=x) (hy:ys.getD k 0=y) (hp:p=g*y+c) :
  val ((ws.set k ((x-p % 4294967296-d) % 4294967296)).take (k+1))=val (vs.take (k+1))-g*val (ys.take (k+1))+pw (k+1)*(p/4294967296+-((x-p % 4294967296-d)/4294967296)):=by
 rw [zAq,zC4 _ _ _ _ (Nat.le_refl _),zB6 _ _ _ hk,zAq vs,zAq ys,hx,hy]
 have h1:=zDz k (x-p % 4294967296-d)
 have h2:=zDz k p
 rw [Int.mul_sub,Int.mul_sub] at h1
 rw [hp,Int.mul_add,← hp] at h2
 rw [Int.mul_add] at h ⊢
 rw [Int.mul_add,Int.mul_neg]
 have h3:g*(pw k*y)=pw k*(g*y):=by ac_rfl
 rw [h3]
 omega

def MsbDone (w:World) (b off m:Nat) (zs ys:List Int) (g:Int) (e:Ending) (w':World):Prop:=
 ∃ (neg:Bool) (zs':List Int),e=.returned (.bool neg)∧Row w' 104 b zs'∧zs'.length=zs.length∧zs'.take off=zs.take off∧zs'.drop (off+m+1)=zs.drop (off+m+1) ∧
  val ((zs'.drop off).take (m+1))=val ((zs.drop off).take (m+1))-g*val ys+(if neg then pw (m+1) else 0)∧w.grownBy w' (some b)

theorem zXz (w:World) (b off nz cz m cy:Nat) (zs ys:List Int) (ay:Option Addr) (g:Int) (hR:Row w 104 b zs) (hlen:off+m<zs.length) (hnz:m<nz) (hY:Sl w ay m cy ys)
  (hne:∀ b' o,ay=some ⟨b',o,none⟩→0<m→b'≠b) (hb:m≤4000000) (hg0:0≤g) (hg1:g<4294967296) :
  Calls Tryz.prog 144 #[.slice (some ⟨b,off,none⟩) nz cz,.slice ay m cy,.int .u64 g] w (MsbDone w b off m zs ys g):=by
 have hm:=hidd hY.len
 go_enter Tryz.func144,Tryz.ntmps144
 go_wp2
 go_loopw [7,8,16] (fun u v i wr=>∃ (k:Nat) (c d:Int) (us:List Int),k≤m∧i=.int .i64 k∧u=.int .u64 c∧v=.int .u64 d∧0≤c∧c<4294967296∧0≤d∧d≤1∧us.length=zs.length∧Row wr 104 b us∧us.take off=zs.take off∧us.drop (off+k)=zs.drop (off+k) ∧
   val ((us.drop off).take k)=val ((zs.drop off).take k)-g*val (ys.take k)+pw k*(c+d)∧w.grownBy wr (some b)) (fun _ _ i _=>m-(intOf i).toNat)
 case atStart=>exact ⟨0,0,0,zs,Nat.zero_le _,rfl,rfl,rfl,zm,zm,zm,zm,rfl,hR,rfl,rfl,by simp [val],World.grownBy.refl _ _⟩
 case round=>
  obtain ⟨k,c,d,us,hk,rfl,rfl,rfl,hc0,hc1,hd0,hd1,hul,hr,htk,hdr,hv,hg⟩:=hrel
  have HUL:=hidd hul
  have HDR:=hidd hdr
  have HTK:=hidd htk
  have HV:=hidd hv
  have hku:off+k<us.length:=zm
  clear hul hdr htk hv
  obtain ⟨x,hxc,hx0,hx1,HX⟩:=hr.at hku
  have hfr:=hr.frozen (off+k)
  have hkd:k<(us.drop off).length:=by rw [List.length_drop];omega
  have hxz:(zs.drop off).getD k 0=x:=by
   have:=congrArg (fun l:List Int=>l.getD 0 0) HDR.out
   simp only [zC7,Nat.add_zero] at this
   rw [zC7,← this];exact HX.out
  have HXZ:=hidd hxz
  clear hxz
  by_cases hkm:k<m
  ·obtain ⟨b2,off2,rfl,hbl2,y,hyc0,hy0,hy1,HY⟩:=hY.cells.at (k:=k) (by rw [hm.out];exact hkm)
   have hyc:=(zPu (o:=off2+k) hg (hne _ _ rfl zm) hbl2).trans hyc0
   clear hyc0
   obtain ⟨hp0,hp1⟩:=zH5 hg0 hg1 hy0 hy1
   have hknz:k<nz:=zm
   go_wp2
   go_roundw
   case rel=>
    rw [zSg x ((g*y+c) % 4294967296) d hx0 hx1 zm zm hd0 hd1,zSf x ((g*y+c) % 4294967296) d hx0 hx1 zm zm hd0 hd1]
    refine ⟨k+1,_,_,us.set (off+k) ((x-(g*y+c) % 4294967296-d) % 4294967296),zm,by go_num,rfl,rfl,zm,zm,zm,zm,by simp [HUL.out],hr.set ⟨zm,zm⟩,?_,?_,?_,zG4 hg (zEd _ _ _ _)⟩
    ·rw [List.take_set_of_le zm];exact HTK.out
    ·rw [List.drop_set_of_lt zm]
     have:=congrArg (List.drop 1) HDR.out
     simpa [List.drop_drop,Nat.add_assoc] using this
    ·rw [show (us.set (off+k) ((x-(g*y+c) % 4294967296-d) % 4294967296)).drop off=(us.drop off).set k ((x-(g*y+c) % 4294967296-d) % 4294967296) from by rw [List.drop_set,if_neg zm,Nat.add_sub_cancel_left]]
     exact zQj hkd HV.out HXZ.out HY.out rfl
   case measure=>simp [intOf];omega
  ·obtain rfl:k=m:=zm
   obtain ⟨t,ht⟩:∃ t,IntKind.u64.wrap (IntKind.u64.wrap (x-c)-d)=t:=⟨_,rfl⟩
   have e1:=zSg x c d hx0 hx1 hc0 hc1 hd0 hd1
   have e2:=zSf x c d hx0 hx1 hc0 hc1 hd0 hd1
   rw [ht] at e1 e2
   have ht0:0≤t∧t<18446744073709551616:=by rw [← ht,zB3];omega
   obtain ⟨ht0,ht1⟩:=ht0
   have E1:=hidd e1
   have E2:=hidd e2
   clear e1 e2
   go_wp2
   go_ret
   refine ⟨_,us.set (off+k) (t % 4294967296),rfl,hr.set ⟨zm,zm⟩,by simp [HUL.out],?_,?_,?_,zG4 hg (zEd _ _ _ _)⟩
   ·rw [List.take_set_of_le zm];exact HTK.out
   ·rw [List.drop_set_of_lt zm]
    have:=congrArg (List.drop 1) HDR.out
    simpa [List.drop_drop,Nat.add_assoc] using this
   ·rw [show (us.set (off+k) (t % 4294967296)).drop off=(us.drop off).set k (t % 4294967296) from by rw [List.drop_set,if_neg zm,Nat.add_sub_cancel_left],E1.out]
    have h:=zQj (p:=c) (g:=g) (y:=0) (ys:=ys) hkd HV.out HXZ.out (zEc (by rw [hm.out];omega)) zm
    rw [Int.emod_eq_of_lt hc0 hc1,Int.ediv_eq_zero_of_lt hc0 hc1,zAw ys (by rw [hm.out];omega)] at h
    rw [h]
    have e2:=E2.out
    rw [Int.zero_add,← e2]
    rcases (by omega:t/9223372036854775808=0∨t/9223372036854775808=1) with h0 | h0
    ·rw [h0];simp
    ·rw [h0];simp

theorem Sl.drawn {w w':World} {ao:Option Addr} {n c:Nat} {xs:List Int} (h:Sl w ao n c xs) (d:Drawn w w'):Sl w' ao n c xs:=
 h.mono (d.below _)

def Guess (U V g:Int):Prop:=U<(g+1)*V∧(g-1)*V≤U∧0≤g∧g<4294967296

theorem val_top3 {us:List Int} {n:Nat} {u0 u1 u2:Int} (hn:2≤n) (hl:us.length=n+1) (h0:us.getD n 0=u0) (h1:us.getD (n-1) 0=u1) (h2:us.getD (n-2) 0=u2) :
  val us=val (us.take (n-2))+pw (n-2)*(u2+4294967296*(u1+4294967296*u0)):=by
 rw [zC3 us (k:=n-2) zm,zDj us zm,zDj us zm,zDj us zm,List.drop_of_length_le zm]
 rw [show n-2+1=n-1 from by omega,show n-1+1=n from by omega,h0,h1,h2]
 simp [val]

theorem val_top2 {us:List Int} {n:Nat} {u1 u2:Int} (hn:2≤n) (hl:us.length=n) (h1:us.getD (n-1) 0=u1) (h2:us.getD (n-2) 0=u2) :
  val us=val (us.take (n-2))+pw (n-2)*(u2+4294967296*u1):=by
 rw [zC3 us (k:=n-2) zm,zDj us zm,zDj us zm,List.drop_of_length_le zm]
 rw [show n-2+1=n-1 from by omega,h1,h2]
 simp [val]

theorem g_big {g U V:Int} (h:4294967296≤g) (hlt:U<V*4294967296) (hV:0≤V):U<g*V:=by
 have:=Int.mul_le_mul_of_nonneg_right h hV
 omega

theorem guess_any (w:World) (au ay:Option Addr) (n cu cy:Nat) (us ys:List Int) (hU:Sl w au (n+1) cu us) (hY:Sl w ay n cy ys) (hn:2≤n) (hb:n≤4000000)
  (htop:2147483648≤ys.getD (n-1) 0) (hlt:val us<val ys*4294967296) :
  Calls Tryz.prog 143 #[.slice au (n+1) cu,.slice ay n cy] w fun e w'=>∃ g,e=.returned (.int .u64 g)∧Guess (val us) (val ys) g∧Drawn w w':=by
 have hul:=hidd hU.len
 have hyl:=hidd hY.len
 obtain ⟨b,off,rfl,hbl,u0,hu0c,hu00,hu01,HU0⟩:=hU.cells.at (k:=n) (by rw [hul.out];omega)
 obtain ⟨u1,hu1c,hu10,hu11,HU1⟩:=hU.cells.at' (k:=n-1) (by rw [hul.out];omega)
 obtain ⟨u2,hu2c,hu20,hu21,HU2⟩:=hU.cells.at' (k:=n-2) (by rw [hul.out];omega)
 obtain ⟨b2,off2,rfl,hbl2,f,hfc,hf0,hf1,HF⟩:=hY.cells.at (k:=n-1) (by rw [hyl.out];omega)
 obtain ⟨s,hsc,hs0,hs1,HS⟩:=hY.cells.at' (k:=n-2) (by rw [hyl.out];omega)
 have hfp:2147483648≤f:=by have:=HF.out;rw [this] at htop;exact htop
 clear htop
 -- the numbers
 obtain ⟨P,hP⟩:∃ P,P=pw (n-2):=⟨_,rfl⟩
 obtain ⟨lo,hlo⟩:∃ lo,lo=val (us.take (n-2)):=⟨_,rfl⟩
 obtain ⟨lv,hlv⟩:∃ lv,lv=val (ys.take (n-2)):=⟨_,rfl⟩
 have hP0:0<P:=by rw [hP];exact zA0 _
 have hlo0:0≤lo:=by rw [hlo];exact zAm (hU.digs.take _)
 have hlo1:lo<P:=by
  have:=zBa (hU.digs.take (n-2))
  rw [List.length_take,hul.out,Nat.min_eq_left zm] at this
  rw [hlo,hP];exact this
 have hlv0:0≤lv:=by rw [hlv];exact zAm (hY.digs.take _)
 have hlv1:lv<P:=by
  have:=zBa (hY.digs.take (n-2))
  rw [List.length_take,hyl.out,Nat.min_eq_left zm] at this
  rw [hlv,hP];exact this
 have hVU:=val_top3 hn hul.out HU0.out HU1.out HU2.out
 have hVV:=val_top2 hn hyl.out HF.out HS.out
 rw [← hP,← hlo] at hVU
 rw [← hP,← hlv] at hVV
 generalize val us=U at *
 generalize val ys=V at *
 have htopf:u0≤f:=g_top 4294967296 P U V lo u2 u1 u0 lv s f hlo0 hVU hVV hlv1 hs1 hP0 zd hu20 hu10 hlt
 obtain ⟨t,hor⟩:∃ t,bits .or .u64 (u0*4294967296) u1=t:=⟨_,rfl⟩
 have htv:t=u1+4294967296*u0:=hor.symm.trans ((zIa u1 u0 hu10 hu11 hu00 hu01).2.trans zm)
 rw [← htv] at hVU
 have ht0:0≤t:=zm
 have ht1:t<18446744073709551616:=zm
 have htf:t≤f*4294967296+4294967295:=zm
 have HVU:=hidd hVU
 have HVV:=hidd hVV
 clear htv hVU hVV hP hlo hlv HU0 HU1 HU2 HF HS
 have hq0:0≤t/f:=Int.ediv_nonneg ht0 zm
 have hq1:t/f≤t:=Int.ediv_le_self _ ht0
 have hm0:0≤t % f:=Int.emod_nonneg _ zm
 have hm1:t % f<f:=Int.emod_lt_of_pos _ zm
 go_enter Tryz.func143,Tryz.ntmps143
 go_wp2
 go_quiet (fail)
 go_wp2
 obtain ⟨w2,hw2⟩:∃ w2,w2=w.drewN nq:=⟨_,rfl⟩
 rw [← hw2]
 have hd2:Drawn w w2:=⟨nq,hw2⟩
 have hu0c2:=(hd2.cell _).trans hu0c
 have hu1c2:=(hd2.cell _).trans hu1c
 clear hw2
 go_quiet (fail)
 go_wp2
 obtain ⟨w3,hw3⟩:∃ w3,w3=w2.drewN nq:=⟨_,rfl⟩
 rw [← hw3]
 have hd3:Drawn w w3:=by rw [hw3];exact hd2.drewN _
 have hu2c3:=(hd3.cell _).trans hu2c
 clear hw3 hd2 hu0c hu1c hu2c hfc hsc hu0c2 hu1c2
 have hfne:¬ f=0:=zm
 have hfb:(f == 0)=false:=by simp;omega
 have hqv:IntKind.u64.wrap (t.tdiv f)=t/f:=IntWalk.u64_quo _ _ ⟨ht0,zm,zm⟩
 have hmv:t.tmod f=t % f:=IntWalk.rem_in _ _ ht0
 have hqw:IntKind.u64.wrap (t/f)=t/f:=IntWalk.u64_in _ ⟨hq0,zm⟩
 have hmw:IntKind.u64.wrap (t % f)=t % f:=IntWalk.u64_in _ ⟨hm0,zm⟩
 go_quiet (fail)
 clear hqv hmv hqw hmw hfb
 obtain ⟨w4,hw4⟩:∃ w4,w4=w3.drewN nq:=⟨_,rfl⟩
 rw [← hw4]
 have hd4:Drawn w w4:=by rw [hw4];exact hd3.drewN _
 have hu2c4:=(hd4.cell _).trans ((hd3.cell _).symm.trans hu2c3)
 clear hw4 hd3 hu2c3
 go_wp2
 go_loop [9,10] (fun u v=>∃ (g r:Int),u=.int .u64 g∧v=.int .u64 r∧0≤g∧g≤t∧0≤r∧r<8589934592∧t=g*f+r∧U<(g+1)*V) (fun _ v=>(4294967296-intOf v).toNat)
 case atStart=>
  have e:=Int.mul_ediv_add_emod t f
  rw [Int.mul_comm] at e
  exact ⟨_,_,rfl,rfl,hq0,hq1,hm0,zm,e.symm,g_init 4294967296 P U V lo u2 t lv s f (t/f) (t % f) hlo1 HVU.out HVV.out hlv0 hs0 hP0 zd hu21 e.symm hm1 hq0⟩
 case round=>
  obtain ⟨g,r,rfl,rfl,hg0,hg1,hr0,hr1,htg,hug⟩:=hrel
  have HT:=hidd htg
  have HUG:=hidd hug
  clear htg hug
  by_cases hr:r<4294967296
  ·obtain ⟨l,hor2⟩:∃ l,bits .or .u64 (r*4294967296) u2=l:=⟨_,rfl⟩
   have hlv':l=r*4294967296+u2:=hor2.symm.trans ((zIa u2 r hu20 hu21 hr0 hr).2.trans zm)
   have hl0:0≤l:=zm
   have hl1:l<18446744073709551616:=zm
   have HL:=hidd hlv'
   clear hlv'
   by_cases hgB:4294967296≤g
   ·have hdown:U<g*V:=by
     have h1:=g_big hgB hlt (by have:=HVV.out;have:=Int.mul_nonneg (Int.le_of_lt hP0) (show (0:Int)≤s+4294967296*f by omega);omega)
     exact h1
    have HD:=hidd hdown
    clear hdown
    go_wp2
    go_round
    case rel=>
     refine ⟨g-1,r+f,rfl,rfl,zm,zm,zm,zm,?_,?_⟩
     ·have:=HT.out;rw [Int.sub_mul];omega
     ·rw [show g-1+1=g from by omega];exact HD.out
    case measure=>simp [intOf];omega
   ·have hgs0:0≤g*s:=Int.mul_nonneg hg0 hs0
    have hgs1:g*s≤18446744065119617025:=(zH5 hg0 zm hs0 hs1).2
    by_cases hgs:l<g*s
    ·have hdown:U<g*V:=g_down1 4294967296 P U V lo u2 t lv s f g r hlo1 HVU.out HVV.out hlv0 hP0 HT.out hg0 (by have:=HL.out;omega)
     have HD:=hidd hdown
     have hgp:1≤g:=by
      rcases (by omega:g=0∨1≤g) with h | h
      ·rw [h,Int.zero_mul] at hgs;omega
      ·exact h
     clear hdown
     go_wp2
     go_round
     case rel=>
      refine ⟨g-1,r+f,rfl,rfl,zm,zm,zm,zm,?_,?_⟩
      ·have:=HT.out;rw [Int.sub_mul];omega
      ·rw [show g-1+1=g from by omega];exact HD.out
     case measure=>simp [intOf];omega
    ·have hend:(g-1)*V≤U:=g_end 4294967296 P U V lo u2 t lv s f g r hlo0 HVU.out HVV.out hlv0 hlv1 hs0 hP0 zm HT.out hg0 zm (by have:=HL.out;omega)
     have HG:Hid (Guess U V g):=⟨HUG.out,hend,hg0,zm⟩
     clear hend
     go_wp2
     go_ret
     exact ⟨g,rfl,HG.out,hd4⟩
  ·have hgB:g<4294967296:=by
    have h1:=HT.out
    rcases (by omega:g<4294967296∨4294967296≤g) with h | h
    ·exact h
    ·have:=Int.mul_le_mul_of_nonneg_right h (show 0≤f by omega)
     omega
   have hgs1:g*s≤18446744065119617025:=(zH5 hg0 hgB hs0 hs1).2
   have hend:(g-1)*V≤U:=g_end 4294967296 P U V lo u2 t lv s f g r hlo0 HVU.out HVV.out hlv0 hlv1 hs0 hP0 zm HT.out hg0 hgB zm
   have HG:Hid (Guess U V g):=⟨HUG.out,hend,hg0,hgB⟩
   clear hend
   go_wp2
   go_ret
   exact ⟨g,rfl,HG.out,hd4⟩

def BackDone (w:World) (b off m:Nat) (zs ys:List Int) (e:Ending) (w':World):Prop:=
 ∃ zs',e=.returned (.tuple #[])∧Row w' 104 b zs'∧zs'.length=zs.length∧zs'.take off=zs.take off∧zs'.drop (off+m+1)=zs.drop (off+m+1) ∧
  (∃ k,val ((zs'.drop off).take (m+1))=val ((zs.drop off).take (m+1))+val ys-k*pw (m+1))∧w.grownBy w' (some b)

theorem zWb {w w':World} {r:Option Nat} (h:w.drew.grownBy w' r):w.grownBy w' r:=⟨h.os,h.tape,h.output,h.size,h.block⟩

theorem zS5 {w2:World} {e:TypeId} {b off m:Nat} {zs zs2:List Int} {x:Int} (hr:Row w2 e b zs2) (hl:zs2.length=zs.length) (hd:zs2.drop (off+m)=zs.drop (off+m)) (hlen:off+m<zs.length) (hx:Hid (zs.getD (off+m) 0=x)) :
  w2.cell? ⟨b,off+m,none⟩=some (.int .u32 x):=by
 have h:=hr.cell (j:=off+m) zm
 have:=congrArg (fun l:List Int=>l.getD 0 0) hd
 simp only [zC7,Nat.add_zero] at this
 rw [h,this,hx.out]

theorem zSx (w:World) (b off cz m cy:Nat) (zs ys:List Int) (ay:Option Addr) (hR:Row w 104 b zs) (hlen:off+m<zs.length) (hcz:m+1≤cz) (hY:Sl w ay m cy ys)
  (hne:∀ b' o,ay=some ⟨b',o,none⟩→0<m→b'≠b) (hb:m≤4000000) :
  Calls Tryz.prog 145 #[.slice (some ⟨b,off,none⟩) (m+1) cz,.slice ay m cy] w (BackDone w b off m zs ys):=by
 have hm:=hidd hY.len
 obtain ⟨x,hxc,hx0,hx1,HX⟩:=hR.at hlen
 have hfr:=hR.frozen (off+m)
 have hlm:(m:Int)<((m+1:Nat):Int):=zm
 have hm0:(0:Int)≤(m:Int):=zm
 have hmc:(m:Int)≤(cz:Int):=zm
 have hRd:Row w.drew 104 b zs:=hR
 have hYd:Sl w.drew ay m cy ys:=⟨hY.len,hY.cap,hY.cells⟩
 have hlm2:(m:Int)<(m:Int)+1:=zm
 go_enter Tryz.func145,Tryz.ntmps145
 go_wp2
 go_region_with (first | (go_at_call 121;(with_reducible refine (zN0 _ _ _ _ _ _ _ _ _ _ _ hRd zm (Nat.le_refl _) hYd hne hb zm zm).mono ?_);rintro e w2 ⟨r,zs2,rfl,hr0,hr1,hrow2,hl2,ht2,hd2,hv2,hg2⟩;have hfr2:=hrow2.frozen (off+m);have hxc2:=zS5 hrow2 hl2 hd2 hlen HX))
 all_goals
  go_end0
  rw [IntKind.wrap_u32]
  refine ⟨zs2.set (off+m) ((x+r) % 4294967296),rfl,hrow2.set ⟨zm,zm⟩,by simp [hl2],?_,?_,?_,zG4 (zWb hg2) (zEd _ _ _ _)⟩
  ·rw [List.take_set_of_le zm];exact ht2
  ·rw [List.drop_set_of_lt zm]
   have:=congrArg (List.drop 1) hd2
   simpa [List.drop_drop,Nat.add_assoc] using this
  ·refine ⟨(x+r)/4294967296,?_⟩
   rw [show (zs2.set (off+m) ((x+r) % 4294967296)).drop off=(zs2.drop off).set m ((x+r) % 4294967296) from by rw [List.drop_set,if_neg zm,Nat.add_sub_cancel_left]]
   rw [zAq,zC4 _ _ _ _ (Nat.le_refl _),zB6 _ _ _ (by rw [List.length_drop];omega),zAq,zC7,HX.out]
   have h1:=zDz m (x+r)
   rw [Int.mul_add] at h1
   rw [Int.mul_comm ((x+r)/4294967296)]
   omega

theorem zJb {a P V r:Int} (h:a=P*V+r) (h0:0≤r) (h1:r<P) (hP:0<P):V=a/P:=by
 subst h
 rw [Int.mul_add_ediv_left _ _ (Int.ne_of_gt hP),Int.ediv_eq_zero_of_lt h0 h1,Int.add_zero]

theorem shl_step {zs xs:List Int} {k wd:Nat} {p x z:Int} (hk:k+wd+1<zs.length) (h:val (zs.take (k+wd+1))=val (xs.take k)*p*pw wd) (hz:zs.getD (k+wd) 0=z) (hx:xs.getD k 0=x) :
  val (((zs.set (k+wd) (z+x*p % 4294967296)).set (k+wd+1) (x*p/4294967296)).take (k+1+wd+1))=val (xs.take (k+1))*p*pw wd:=by
 rw [show k+1+wd+1=(k+wd+1)+1 from by omega,zAq,zC4 _ _ _ _ (Nat.le_refl _),zB6 _ _ _ (by simpa using hk),zAq,zC4 _ _ _ _ (Nat.le_refl _),zB6 _ _ _ zm]
 rw [zAq,hz] at h
 rw [zAq,hx,Int.add_mul,Int.add_mul,← h]
 have h1:=zDz (k+wd) (x*p)
 have h2:pw k*x*p*pw wd=pw (k+wd)*(x*p):=by rw [zEs];ac_rfl
 rw [Int.mul_add]
 omega

theorem zIq (r:Nat) (h:r<32):(1:Int)≤2^r∧(2:Int)^r≤2147483648:=by
 refine ⟨zA6 r,?_⟩
 have h1:=Nat.pow_le_pow_right (n:=2) zd (show r≤31 by omega)
 have e:((2^r:Nat):Int)=2^r:=by simp
 rw [← e];omega

theorem zQo (x:Int) (r:Nat) (h:r≤32):x*2^r % 4294967296 % 2^r=0:=by
 have e:(4294967296:Int)=2^r*2^(32-r):=by rw [← Int.pow_add,show r+(32-r)=32 from by omega];rfl
 rw [e,Int.mul_comm x,Int.mul_emod_mul_of_pos _ _ (zA6 r)]
 exact Int.mul_emod_right _ _

theorem zR7 (w:World) (ax:Option Addr) (n c:Nat) (xs:List Int) (hX:Sl w ax n c xs) (hb:n≤1000000) (s:Nat) (hs:s≤1000000) :
  Calls Tryz.prog 142 #[.slice ax n c,.int .i64 s] w fun e w'=>∃ zs,e=.returned (.slice (some ⟨w.heap.size,0,none⟩) (n+s/32+1) (n+s/32+1))∧zs.length=n+s/32+1∧Row w' 104 w.heap.size zs∧val zs=val xs*2^s∧Below w.heap.size w w':=by
 have hn:=hidd hX.len
 have hrs:s % 32<32:=Nat.mod_lt _ zd
 obtain ⟨hp0,hp1⟩:=zIq _ hrs
 go_enter Tryz.func142,Tryz.ntmps142
 go_wp2_with (at_make;refine zEi _ rfl _ _ 27 rfl 104 Tryz.underlying27 (by kernel_rfl) _ _ _ _ rfl rfl (n+s/32+1) rfl rfl zm ?_;intro w1 hrow hb1 hs1)
 go_loopw [23] (fun i wr=>∃ (k:Nat) (zs:List Int),k≤n∧i=.int .i64 k∧zs.length=n+s/32+1∧Row wr 104 w.heap.size zs∧Below w.heap.size w wr∧val (zs.take (k+s/32+1))=val (xs.take k)*2^(s % 32)*pw (s/32)∧zs.getD (k+s/32) 0<2^(s % 32)) (fun i _=>n-(intOf i).toNat)
 case atStart=>
  refine ⟨0,_,Nat.zero_le _,rfl,by simp,hrow,hb1,?_,?_⟩
  ·rw [List.take_replicate,zGq];simp [val]
  ·rw [show (List.replicate (n+s/32+1) (0:Int)).getD (0+s/32) 0=0 from by simp [List.getD,List.getElem?_replicate];split <;> rfl];omega
 case round=>
  obtain ⟨k,zs,hk,rfl,hzl,hr,hbr,hv,hlt⟩:=hrel
  have HZ:=hidd hzl
  have HV:=hidd hv
  have HL:=hidd hlt
  clear hv hlt
  by_cases hkn:k<n
  ·have hkz:k+s/32<zs.length:=zm
   have hkz2:k+s/32+1<zs.length:=zm
   have hfr:=hr.frozen (k+s/32)
   have hfr2:=hr.frozen (k+s/32+1)
   clear hzl hrow hb1 hs1
   obtain ⟨b,off,rfl,hbl,x,hxc0,hx0,hx1,HX⟩:=hX.cells.at (k:=k) (by rw [hn.out];exact hkn)
   have hxc:=(hbr.cell (p:=⟨b,off+k,none⟩) hbl).trans hxc0
   clear hxc0
   obtain ⟨z,hzc,hz0,hz1,HZK⟩:=hr.at hkz
   obtain ⟨z2,hzc2,_,_,_⟩:=hr.at hkz2
   have hxp0:0≤x*2^(s % 32):=Int.mul_nonneg hx0 zm
   have hxp2:x*2^(s % 32)≤4294967295*2^(s % 32):=Int.mul_le_mul_of_nonneg_right zm zm
   have hxp1:x*2^(s % 32)≤9223372036854775807:=zm
   have hzp:z<2^(s % 32):=by have:=HL.out;rw [HZK.out] at this;exact this
   obtain ⟨u,hor⟩:∃ u,bits .or .u32 z (x*2^(s % 32) % 4294967296)=u:=⟨_,rfl⟩
   have HU:Hid (u=z+x*2^(s % 32) % 4294967296):=by
    have:=(or_u32 (s % 32) (x*2^(s % 32) % 4294967296) z zm zm hz0 hz1 hzp (zQo x _ zm)).2
    exact hor.symm.trans (this.trans (Int.add_comm _ _))
   have hu0:0≤u:=by have:=HU.out;omega
   have hu1:u<4294967296:=by
    rw [← hor]
    obtain ⟨a,rfl⟩:=Int.eq_ofNat_of_zero_le hz0
    have hnn:0≤x*2^(s % 32) % 4294967296:=zm
    have hlt:x*2^(s % 32) % 4294967296<4294967296:=zm
    generalize x*2^(s % 32) % 4294967296=y at *
    obtain ⟨b',rfl⟩:=Int.eq_ofNat_of_zero_le hnn
    rw [u32_or_nat a b' zm zm]
    have:=Nat.or_lt_two_pow (x:=a) (y:=b') (n:=32) zm zm
    omega
   go_wp2
   go_roundw
   case rel=>
    have h2:x*2^(s % 32)/4294967296<2^(s % 32):=Int.ediv_lt_of_lt_mul zd zm
    refine ⟨k+1,_,zm,by go_num,?_,(hr.set ⟨hu0,hu1⟩).set ⟨zm,zm⟩,(hbr.setCell (Nat.le_refl _) _).setCell (Nat.le_refl _) _,?_,?_⟩
    ·simp [HZ.out]
    ·rw [HU.out];exact shl_step hkz2 HV.out HZK.out HX.out
    ·rw [show k+1+s/32=k+s/32+1 from by omega,zB6 _ _ _ (by simpa using hkz2)];exact h2
   case measure=>simp [intOf];omega
  ·obtain rfl:k=n:=zm
   clear hrow hb1 hs1
   go_wp2
   go_ret
   refine ⟨zs,rfl,HZ.out,hr,?_,hbr⟩
   have:=HV.out
   rw [zAw _ (by rw [HZ.out];omega),zAw _ (by rw [hn.out];omega)] at this
   rw [this,zCb,Int.mul_assoc,← Int.pow_add]
   congr 2
   omega

theorem zNg {zs ys:List Int} {k:Nat} {p y y2 z:Int} (hk:k<zs.length) (h:p*val (zs.take k)=val (ys.take k)-ys.getD 0 0 % p+pw k*(ys.getD k 0 % p))
  (hy:ys.getD k 0=y) (hy2:ys.getD (k+1) 0=y2) (hz:p*z=y-y % p+4294967296*(y2 % p)) :
  p*val ((zs.set k z).take (k+1))=val (ys.take (k+1))-ys.getD 0 0 % p+pw (k+1)*(ys.getD (k+1) 0 % p):=by
 rw [zAq,zC4 _ _ _ _ (Nat.le_refl _),zB6 _ _ _ hk,zAq,hy,hy2,Int.mul_add,h,hy,zCy]
 have h1:p*(pw k*z)=pw k*(p*z):=by ac_rfl
 rw [h1,hz,Int.mul_add,Int.mul_sub]
 have h2:pw k*4294967296*(y2 % p)=pw k*(4294967296*(y2 % p)):=by ac_rfl
 rw [h2]
 omega

theorem shr_end {xs ys:List Int} {p:Int} {s n:Nat} {V:Int} (hp:p=2^(s % 32)) (hn:xs.length=n) (hd:Digs xs) (hs:s≤32*n) (hys:ys=xs.drop (s/32)) (h:p*V=val ys-ys.getD 0 0 % p):V=val xs/2^s:=by
 have hp0:0<p:=by rw [hp];exact zA6 _
 have e:=zC3 xs (k:=s/32) zm
 rw [← hys] at e
 have hd1:=zAm (hd.take (s/32))
 have hd2:=zBa (hd.take (s/32))
 rw [List.length_take,Nat.min_eq_left zm] at hd2
 have hm0:=Int.emod_nonneg (ys.getD 0 0) (Int.ne_of_gt hp0)
 have hm1:=Int.emod_lt_of_pos (ys.getD 0 0) hp0
 have e2:(2:Int)^s=pw (s/32)*p:=by
  rw [hp,zCb,← Int.pow_add];congr 1;omega
 have h3:val ys=p*V+ys.getD 0 0 % p:=zm
 rw [h3,Int.mul_add] at e
 have hle:=Int.mul_le_mul_of_nonneg_left (show ys.getD 0 0 % p+1≤p by omega) (Int.le_of_lt (zA0 (s/32)))
 rw [Int.mul_add] at hle
 have h4:=Int.mul_nonneg (Int.le_of_lt (zA0 (s/32))) hm0
 have e5:pw (s/32)*(p*V)=(pw (s/32)*p)*V:=by ac_rfl
 rw [e5] at e
 rw [e2]
 generalize hP:pw (s/32)*p=P at *
 have hP0:0<P:=by rw [← hP];exact Int.mul_pos (zA0 _) hp0
 refine zJb (r:=val (xs.take (s/32))+pw (s/32)*(ys.getD 0 0 % p)) (by rw [e];omega) ?_ ?_ hP0
 ·omega
 ·omega

theorem Sl.drop {w:World} {ao:Option Addr} {n c:Nat} {xs:List Int} (h:Sl w ao n c xs) {k:Nat} (hk:k≤n):Sl w (if c=k then ao else ao.map (·.add k)) (n-k) (c-k) (xs.drop k):=by
 have hc:=h.cap
 refine ⟨by rw [List.length_drop,h.len],zm,h.digs.drop k,?_⟩
 by_cases hkn:k<n
 ·rw [if_neg zm]
  rcases h.cells.2 with h0 | ⟨b,off,hao,hlt,hcell⟩
  ·have:=h.len;rw [h0] at this;simp at this;omega
  ·have hadd:(⟨b,off,none⟩:Addr).add k=⟨b,off+k,none⟩:=by unfold Addr.add;split <;> simp_all
   refine .inr ⟨b,off+k,by rw [hao];simp [hadd],hlt,fun j hj=>?_⟩
   rw [List.length_drop] at hj
   rw [zC7,Nat.add_assoc]
   exact hcell (k+j) zm
 ·exact .inl (by rw [List.drop_of_length_le (by rw [h.len];omega)])

theorem shr_word (z y:Int) (r:Nat) (hr:r<32) (hz0:0≤z) (hz1:z<4294967296) (_:0≤y) (_:y<4294967296) :
  0≤bits .or .u32 (z/2^r) (y*4294967296/2^r % 4294967296)∧bits .or .u32 (z/2^r) (y*4294967296/2^r % 4294967296)<4294967296 ∧
   2^r*bits .or .u32 (z/2^r) (y*4294967296/2^r % 4294967296)=z-z % 2^r+4294967296*(y % 2^r):=by
 have e:(4294967296:Int)=2^r*2^(32-r):=by rw [← Int.pow_add,show r+(32-r)=32 from by omega];rfl
 have hp:=zA6 r
 have hq:=zA6 (32-r)
 have e1:y*4294967296/2^r=y*2^(32-r):=by
  have:y*4294967296=2^r*(y*2^(32-r)):=by rw [e];ac_rfl
  rw [this,Int.mul_ediv_cancel_left _ zm]
 have e2:y*4294967296/2^r % 4294967296=(y % 2^r)*2^(32-r):=by
  rw [e1,e,Int.mul_comm y,Int.mul_comm (2^r),Int.mul_emod_mul_of_pos _ _ hq,Int.mul_comm]
 have m0:=Int.emod_nonneg y (Int.ne_of_gt hp)
 have m1:=Int.emod_lt_of_pos y hp
 have z1:z/2^r<2^(32-r):=Int.ediv_lt_of_lt_mul hp (by rw [Int.mul_comm,← e];exact hz1)
 have z0:0≤z/2^r:=Int.ediv_nonneg hz0 zm
 have z2:z/2^r≤z:=Int.ediv_le_self _ hz0
 rw [e2]
 have b0:0≤(y % 2^r)*2^(32-r):=Int.mul_nonneg m0 zm
 have b1:(y % 2^r+1)*2^(32-r)≤2^r*2^(32-r):=Int.mul_le_mul_of_nonneg_right zm zm
 rw [← e,Int.add_mul] at b1
 have o:=(or_u32 (32-r) (y % 2^r*2^(32-r)) (z/2^r) b0 zm z0 zm z1 (Int.mul_emod_left _ _)).2
 rw [o]
 refine ⟨zm,zm,?_⟩
 have h1:=Int.mul_ediv_add_emod z (2^r)
 have h2:2^r*(y % 2^r*2^(32-r))=4294967296*(y % 2^r):=by rw [e];ac_rfl
 rw [Int.mul_add,h2]
 omega

theorem zR6 (w:World) (ax:Option Addr) (n c:Nat) (xs:List Int) (hX:Sl w ax n c xs) (hb:n≤1000000) (s:Nat) (hs:s≤32*n) :
  Calls Tryz.prog 146 #[.slice ax n c,.int .i64 s] w fun e w'=>∃ zs,e=.returned (.slice (some ⟨w.heap.size,0,none⟩) (n-s/32) (n-s/32))∧zs.length=n-s/32∧Row w' 104 w.heap.size zs∧val zs=val xs/2^s∧Below w.heap.size w w':=by
 have hn:=hidd hX.len
 have hwd:s/32≤n:=zm
 have hcap:=hX.cap
 have hrs:s % 32<32:=Nat.mod_lt _ zd
 obtain ⟨hp0,hp1⟩:=zIq _ hrs
 have hdl:(xs.drop (s/32)).length=n-s/32:=by rw [List.length_drop,hn.out]
 by_cases hcw:c=s/32
 ·subst hcw
  obtain rfl:n=s/32:=zm
  have hD:Sl w ax 0 0 (xs.drop (s/32)):=by have:=hX.drop hwd;rw [if_pos rfl,Nat.sub_self] at this;exact this
  have HE:Hid (val (xs.drop (s/32))=0):=by
   have:=List.eq_nil_of_length_eq_zero hD.len
   show val _=0
   rw [this];rfl
  have HDL:Hid ((xs.drop (s/32)).length=0):=hD.len
  clear hdl hwd hcap
  go_enter Tryz.func146,Tryz.ntmps146
  go_wp2_with (go_at_call 119;refine (zI7 _ _ _ _ _ hD zm).mono ?_;rintro e w1 ⟨rfl,hr,hb1⟩)
  go_loop [19] (fun i=>i=.int .i64 0) (fun _=>0)
  case atStart=>rfl
  case round=>
   obtain rfl:=hrel
   go_wp2
   go_ret
   have hnil:xs.drop (s/32)=[]:=List.eq_nil_of_length_eq_zero HDL.out
   rw [hnil] at hr
   refine ⟨rfl,hr,?_,hb1⟩
   refine shr_end (ys:=xs.drop (s/32)) rfl hn.out hX.digs hs rfl ?_
   rw [HE.out,zEc (by rw [HDL.out];omega)]
   simp [val]
 ·have hD:=hX.drop hwd
  rw [if_neg hcw] at hD
  go_enter Tryz.func146,Tryz.ntmps146
  go_wp2_with (go_at_call 119;refine (zI7 _ _ _ _ _ hD zm).mono ?_;rintro e w1 ⟨rfl,hr,hb1⟩)
  generalize Option.map (fun x=>Addr.add x (s/32)) ax=aD at *
  obtain ⟨ys,hys⟩:∃ ys,ys=xs.drop (s/32):=⟨_,rfl⟩
  rw [← hys] at hr hdl hD
  have HYS:=hidd hys
  have HDL:=hidd hdl
  have hyd:=hr.1
  clear hys hdl
  go_loopw [19] (fun i wr=>∃ (k:Nat) (zs:List Int),k≤n-s/32∧i=.int .i64 k∧zs.length=n-s/32∧Row wr 104 w.heap.size zs∧Below w.heap.size w wr∧zs.drop k=ys.drop k∧2^(s % 32)*val (zs.take k)=val (ys.take k)-ys.getD 0 0 % 2^(s % 32)+pw k*(ys.getD k 0 % 2^(s % 32))) (fun i _=>n-(intOf i).toNat)
  case atStart=>exact ⟨0,ys,Nat.zero_le _,rfl,HDL.out,hr,hb1,rfl,by simp only [List.take_zero,val,zDo];omega⟩
  case round=>
   obtain ⟨k,zs,hk,rfl,hzl,hr,hbr,hdr,hv⟩:=hrel
   have HZ:=hidd hzl
   have HV:=hidd hv
   have HDR:=hidd hdr
   clear hv hdr
   by_cases hkn:k<n-s/32
   ·have hkz:k<zs.length:=zm
    have hfr:=hr.frozen k
    clear hzl
    obtain ⟨z,hzc,hz0,hz1,HZK⟩:=hr.at hkz
    by_cases hk1:k+1<n-s/32
    ·obtain ⟨b,off,rfl,hbl,y,hyc0,hy0,hy1,HY⟩:=hX.cells.at (k:=s/32+k+1) (by rw [hn.out];omega)
     have hyc:=(hbr.cell (p:=⟨b,off+(s/32+k+1),none⟩) hbl).trans hyc0
     clear hyc0
     have hq0:0≤z/2^(s % 32):=Int.ediv_nonneg hz0 zm
     have hq1:z/2^(s % 32)≤z:=Int.ediv_le_self _ hz0
     go_wp2
     obtain ⟨w3,hw3⟩:∃ w3,w3=wr.setCell ⟨w.heap.size,k,none⟩ (.int .u32 (z/2^(s % 32))):=⟨_,rfl⟩
     rw [← hw3]
     have hr3:Row w3 104 w.heap.size (zs.set k (z/2^(s % 32))):=by rw [hw3];exact hr.set ⟨hq0,zm⟩
     have hb3:Below w.heap.size w w3:=by rw [hw3];exact hbr.setCell (Nat.le_refl _) _
     have hyc3:w3.cell? ⟨b,off+(s/32+k+1),none⟩=some (.int .u32 y):=by rw [hw3,World.cell?_setCell_other _ _ _ _ (by intro e;cases e)];exact hyc
     have hz3:w3.cell? ⟨w.heap.size,k,none⟩=some (.int .u32 (z/2^(s % 32))):=by
      have:=hr3.cell (j:=k) (by simpa using hkz)
      rwa [zB6 _ _ _ hkz] at this
     have hf3:=hr3.frozen k
     clear hw3 hyc hzc hfr hr hbr hb1
     have g1:IntKind.i64.wrap ((s:Int)/32+k)=(s:Int)/32+k:=IntWalk.i64_in _ zm
     have g2:IntKind.i64.wrap ((s:Int)/32+k+1)=(s:Int)/32+k+1:=IntWalk.i64_in _ zm
     have g3:((s:Int)/32+k+1).toNat=s/32+k+1:=zm
     have g4:0≤(s:Int)/32+k+1:=zm
     have g5:(s:Int)/32+k+1<n:=zm
     have g6:(k:Int)<((n-s/32:Nat):Int):=zm
     go_still_tail 18,(by kernel_rfl)
     go_wp2
     go_roundw
     case rel=>
      have hyk:ys.getD k 0=z:=by
       have:=congrArg (fun l:List Int=>l.getD 0 0) HDR.out
       simp only [zC7,Nat.add_zero] at this
       rw [← this];exact HZK.out
      have hyk1:ys.getD (k+1) 0=y:=by rw [HYS.out,zC7,← Nat.add_assoc];exact HY.out
      obtain ⟨e1,e2,e3⟩:=shr_word z y (s % 32) hrs hz0 hz1 hy0 hy1
      refine ⟨k+1,(zs.set k (z/2^(s % 32))).set k (bits BinOp.or IntKind.u32 (z/2^(s % 32)) (y*4294967296/2^(s % 32) % 4294967296)),zm,by go_num,by simp [HZ.out],hr3.set ⟨e1,e2⟩,(hb3.setCell (Nat.le_refl _) _).drew,?_,?_⟩
      ·rw [List.set_set,List.drop_set_of_lt zm]
       have:=congrArg (List.drop 1) HDR.out
       simpa [List.drop_drop] using this
      ·rw [List.set_set]
       exact zNg hkz HV.out hyk hyk1 e3
     case measure=>simp [intOf];omega
    ·have hq0:0≤z/2^(s % 32):=Int.ediv_nonneg hz0 zm
     have hq1:z/2^(s % 32)≤z:=Int.ediv_le_self _ hz0
     go_wp2
     go_roundw
     case rel=>
      have hyk:ys.getD k 0=z:=by
       have:=congrArg (fun l:List Int=>l.getD 0 0) HDR.out
       simp only [zC7,Nat.add_zero] at this
       rw [← this];exact HZK.out
      have hyk1:ys.getD (k+1) 0=0:=zEc (by rw [HDL.out];omega)
      refine ⟨k+1,zs.set k (z/2^(s % 32)),zm,by go_num,by simp [HZ.out],hr.set ⟨hq0,zm⟩,hbr.setCell (Nat.le_refl _) _,?_,?_⟩
      ·rw [List.drop_set_of_lt zm]
       have:=congrArg (List.drop 1) HDR.out
       simpa [List.drop_drop] using this
      ·refine zNg hkz HV.out hyk hyk1 ?_
       have:=Int.mul_ediv_add_emod z (2^(s % 32))
       rw [Int.zero_emod]
       omega
     case measure=>simp [intOf];omega
   ·clear hb1
    go_wp2
    go_ret
    refine ⟨zs,rfl,HZ.out,hr,?_,hbr⟩
    obtain rfl:k=n-s/32:=zm
    have e:=HV.out
    rw [zAw _ (by rw [HZ.out];omega),zAw _ (by rw [HDL.out];omega),zEc (xs:=ys) (k:=n-s/32) (by rw [HDL.out];omega),Int.zero_emod,Int.mul_zero,Int.add_zero] at e
    exact shr_end rfl hn.out hX.digs hs HYS.out e
theorem Row.grown {w w':World} {e:TypeId} {b b':Nat} {zs:List Int} (h:Row w e b zs) (hg:w.grownBy w' (some b')) (hne:b≠b'):Row w' e b zs:=
 ⟨h.1,by rw [hg.block b h.lt (by simpa using hne)];exact h.2⟩

theorem Row.drawn {w w':World} {e:TypeId} {b:Nat} {zs:List Int} (h:Row w e b zs) (d:Drawn w w'):Row w' e b zs:=h.mono (d.below (b+1)) (Nat.lt_succ_self _)

theorem Row.win {w:World} {e:TypeId} {b:Nat} {zs:List Int} (h:Row w e b zs) (off m c:Nat) (hl:off+m≤zs.length) (hc:m≤c):Sl w (some ⟨b,off,none⟩) m c ((zs.drop off).take m):=by
 refine ⟨by rw [List.length_take,List.length_drop];omega,hc,(h.1.drop off).take m,.inr ⟨b,off,rfl,h.lt,fun j hj=>?_⟩⟩
 rw [List.length_take,List.length_drop] at hj
 rw [zJy,if_pos zm,zC7]
 exact h.cell zm

theorem zR8 (w:World) (ax:Option Addr) (n c:Nat) (xs:List Int) (hX:Sl w ax n c xs) (hb:n≤1000000) (s N:Nat) (hs:s≤1000000) (hN:N=n+s/32+1) :
  Calls Tryz.prog 142 #[.slice ax n c,.int .i64 s] w fun e w'=>∃ b zs,e=.returned (.slice (some ⟨b,0,none⟩) N N)∧w.heap.size≤b∧zs.length=N∧Row w' 104 b zs∧val zs=val xs*2^s∧Below w.heap.size w w':=by
 subst hN
 exact (zR7 w ax n c xs hX hb s hs).mono fun _ _ ⟨zs,he,hl,hr,hv,hb⟩=>⟨_,zs,he,Nat.le_refl _,hl,hr,hv,hb⟩

theorem zX7 {P:Program} (w:World) {ops:Array Oper} {rest:List Oper} {o:Oper} {a:Act} {Q:Exit→Act→World→Prop}
  (hg:o.guard=none) (l c:Operand) (t:TypeId) (hop:o.op=Op.makeSlice t l c)
  (e:TypeId) (h1:P.underlying t=some (.slice e)) (h2:(P.info? e).map (fun i=>(i.zero,i.size,i.bytes))=some (some (.int .u32 0),1,4))
  (kl kc:IntKind) (L C:Int) (hl:a.eval l=.int kl L) (hc:a.eval c=.int kc C) (n:Nat) (hL:L=(n:Int)) (hC:C=(n:Int)) (b2:n≤70368744177664)
  (hK:∀ b w',w.heap.size≤b→Row w' e b (List.replicate n 0)→Below w.heap.size w w'→wpList P ops Q rest (a.put o.dst (.slice (some ⟨b,0,none⟩) n n)) w') :
  wpList P ops Q (o::rest) a w:=
 zEi w hg l c t hop e h1 h2 kl kc L C hl hc n hL hC b2 fun w' hr hb _=>hK _ w' (Nat.le_refl _) hr hb

theorem shift_of {ys:List Int} {m k:Nat} (hc:Canon ys) (hl:ys.length=m) (hm:2≤m) (hk:zCw (val ys) k) (hkm:k≤32*m):32*m-k<32∧2^(32*m-1)≤val ys*2^(32*m-k)∧val ys*2^(32*m-k)<pw m:=by
 have h0:pw (m-1)≤val ys:=by
  rcases hc.2 with h | h
  ·omega
  ·rw [hl] at h;exact h
 have hp:=zA0 (m-1)
 rcases hk with ⟨h1,h2⟩ | ⟨h1,h2,h3⟩
 ·omega
 ·have h4:32*(m-1)<k:=by
   refine Nat.lt_of_not_le fun hle=>?_
   have h5:(2:Int)^k≤2^(32*(m-1)):=by
    have e:=Nat.pow_le_pow_right (n:=2) zd hle
    have e1:((2^k:Nat):Int)=2^k:=by simp
    have e2:((2^(32*(m-1)):Nat):Int)=2^(32*(m-1)):=by simp
    rw [← e1,← e2];omega
   rw [← zCb] at h5;omega
  refine ⟨zm,?_,?_⟩
  ·have:=Int.mul_le_mul_of_nonneg_right h2 (Int.le_of_lt (zA6 (32*m-k)))
   rw [← Int.pow_add,show k-1+(32*m-k)=32*m-1 from by omega] at this
   exact this
  ·have:=Int.mul_lt_mul_of_pos_right h3 (zA6 (32*m-k))
   rw [← Int.pow_add,show k+(32*m-k)=32*m from by omega,← zCb] at this
   exact this

theorem win_val {us:List Int} {i m:Nat} (hd:Digs us) (hl:i+m+1≤us.length) (h:val (us.drop (i+1))<pw m) :
  val (us.drop i)=val ((us.drop i).take (m+1))∧val ((us.drop i).take (m+1))=us.getD i 0+4294967296*val (us.drop (i+1)):=by
 have e1:=zC3 (us.drop (i+1)) (k:=m) (by rw [List.length_drop];omega)
 have h1:=zAm ((hd.drop (i+1)).take m)
 have h2:=zAm ((hd.drop (i+1)).drop m)
 have h3:val ((us.drop (i+1)).drop m)=0:=by
  rcases (by omega:val ((us.drop (i+1)).drop m)=0∨1≤val ((us.drop (i+1)).drop m)) with h3 | h3
  ·exact h3
  ·have:=Int.mul_le_mul_of_nonneg_left h3 (Int.le_of_lt (zA0 m));omega
 have e2:=zC3 (us.drop i) (k:=m+1) (by rw [List.length_drop];omega)
 rw [List.drop_drop] at e2 h3
 rw [show i+(m+1)=i+1+m from by omega,h3,Int.mul_zero,Int.add_zero] at e2
 exact ⟨e2,e2.symm.trans (zDj us zm)⟩

theorem zQe {us us' qs:List Int} {i m:Nat} {W V U g:Int} (hl:i+m+1≤us.length) (hl':us'.length=us.length) (htk:us'.take i=us.take i) (hdr:us'.drop (i+m+1)=us.drop (i+m+1))
  (hcut:val (us.drop i)=W) (hW:val ((us.drop i).take (m+1))=W) (hW':val ((us'.drop i).take (m+1))=W-g*V) (hlt:W-g*V<V) (hq:i<qs.length)
  (hsum:val us+V*pw (i+1)*val (qs.drop (i+1))=U):val (us'.drop i)<V∧val us'+V*pw i*val ((qs.set i g).drop i)=U:=by
 have e1:=zC3 (us.drop i) (k:=m+1) (by rw [List.length_drop];omega)
 have e2:=zC3 (us'.drop i) (k:=m+1) (by rw [List.length_drop];omega)
 rw [List.drop_drop,show i+(m+1)=i+m+1 from by omega] at e1 e2
 rw [hdr,hW'] at e2
 rw [hcut,hW] at e1
 have e3:val (us'.drop i)=W-g*V:=zm
 refine ⟨zm,?_⟩
 have e4:=zC3 us' (k:=i) zm
 have e5:=zC3 us (k:=i) zm
 rw [htk,e3,Int.mul_sub] at e4
 rw [hcut] at e5
 rw [zDj _ (by simpa using hq),zB6 _ _ _ hq,List.drop_set_of_lt zm,Int.mul_add]
 rw [zCy] at hsum
 have h1:V*pw i*(4294967296*val (qs.drop (i+1)))=V*(pw i*4294967296)*val (qs.drop (i+1)):=by ac_rfl
 have h2:pw i*(g*V)=V*pw i*g:=by ac_rfl
 omega

theorem back_once {W V g P κ:Int} (h0:0≤W-(g-1)*V) (h1:W-(g-1)*V<V) (hV:V<P) (h2:0≤W-g*V+P+V-κ*P) (h3:W-g*V+P+V-κ*P<P) :
  W-g*V+P+V-κ*P=W-(g-1)*V:=by
 rw [Int.sub_mul] at h0 h1 ⊢
 rcases (by omega:κ=1∨κ≤0∨2≤κ) with h | h | h
 ·subst h;omega
 ·have:=Int.mul_le_mul_of_nonneg_right h (show 0≤P by omega);omega
 ·have:=Int.mul_le_mul_of_nonneg_right h (show 0≤P by omega);omega

theorem long_end {X Y Q R p V:Int} (hV:V=Y*p) (hp:0<p) (hsum:R+V*Q=X*p) (h0:0≤R) (h1:R<V):X=Q*Y+R/p∧0≤R/p∧R/p<Y:=by
 have e:R=p*(X-Q*Y):=by
  rw [Int.mul_sub,Int.mul_comm p X,← hsum,hV]
  have:p*(Q*Y)=Y*p*Q:=by ac_rfl
  omega
 have e2:R/p=X-Q*Y:=by rw [e,Int.mul_ediv_cancel_left _ (Int.ne_of_gt hp)]
 rw [e2]
 refine ⟨zm,?_,?_⟩
 ·rw [← e2];exact Int.ediv_nonneg h0 zm
 ·refine Int.lt_of_mul_lt_mul_left (a:=p) ?_ zm
  rw [← e,Int.mul_comm p Y,← hV];exact h1

theorem top_lt {us:List Int} {X Y p V:Int} {n m:Nat} (hm:1≤m) (hmn:m≤n) (hd:Digs us) (hl:us.length=n+1) (hX:X<pw n) (hY:pw (m-1)≤Y) (hp:0<p) (hV:V=Y*p) (hu:val us=X*p):val (us.drop (n-m+1))<V:=by
 refine Int.not_le.1 fun hle=>?_
 have e:=zC3 us (k:=n-m+1) zm
 have h1:=zAm (hd.take (n-m+1))
 have h2:=Int.mul_le_mul_of_nonneg_left hle (Int.le_of_lt (zA0 (n-m+1)))
 have h3:=Int.mul_le_mul_of_nonneg_right hY (Int.le_of_lt hp)
 have h4:=Int.mul_le_mul_of_nonneg_left h3 (Int.le_of_lt (zA0 (n-m+1)))
 have h5:=Int.mul_lt_mul_of_pos_right hX hp
 have h6:pw (n-m+1)*(pw (m-1)*p)=pw n*p:=by rw [← Int.mul_assoc,← zEs,show n-m+1+(m-1)=n from by omega]
 rw [← hV] at h4
 omega

theorem zS8 (w:World) (ax ay:Option Addr) (n m cx cy:Nat) (xs ys:List Int) (hX:Sl w ax n cx xs) (hY:Sl w ay m cy ys) (hcy:Canon ys) (hm2:2≤m) (hmn:m≤n) (hb:n≤900000) :
  Calls Tryz.prog 124 #[.slice ax n cx,.slice ay m cy] w fun e w'=>∃ aq ar nq nr cq cr qs rs,e=.returned (.tuple #[.slice aq nq cq,.slice ar nr cr])∧Sl w' aq nq cq qs∧Sl w' ar nr cr rs∧nq≤n∧nr≤n+1 ∧
   val xs=val qs*val ys+val rs∧0≤val rs∧val rs<val ys∧Below w.heap.size w w':=by
 have hxl:=hidd hX.len
 have hyl:=hidd hY.len
 have hXlt:val xs<pw n:=by have:=zBa hX.digs;rw [hX.len] at this;exact this
 have hYge:pw (m-1)≤val ys:=by
  rcases hcy.2 with h | h
  ·have:=hY.len;omega
  ·rw [hY.len] at h;exact h
 go_enter Tryz.func124,Tryz.ntmps124
 go_wp2_with fail
 refine (zHm _ _ _ _ _ hY hcy zm).mono ?_
 rintro e w' ⟨k,rfl,hk,hkm,rfl⟩
 obtain ⟨hs1,hs2,hs3⟩:=shift_of hcy hyl.out hm2 hk hkm
 obtain ⟨s,hs⟩:∃ s,s=32*m-k:=⟨_,rfl⟩
 rw [← hs] at hs1 hs2 hs3
 have hks:(32:Int)*m-k=(s:Int):=zm
 have HSV:=hidd hs2
 have HSW:=hidd hs3
 clear hs hs2 hs3 hk
 go_wp2_with fail
 refine (zR8 _ _ _ _ _ hX zm s (n+1) zm zm).mono ?_
 rintro e w1 ⟨bu,us0,rfl,hbu,hul,hru,huv,hB1⟩
 go_wp2_with fail
 refine (zR8 _ _ _ _ _ (hY.mono hB1) zm s (m+1) zm zm).mono ?_
 rintro e w2 ⟨bv,vs0,rfl,hbv,hvl,hrv,hvv,hB2⟩
 go_wp2_with fail
 refine (zBm _ _ _ _ _ (hrv.sl hvl) zm).mono ?_
 rintro e w3 ⟨mv,rfl,hmv,hsv,hvt,hcv,rfl⟩
 -- the divisor has m words,its first bit is 1
 have hV:val (vs0.take mv)=val ys*2^s:=by rw [hvt,hvv]
 have hmvm:mv=m:=by
  have h1:=hcv.length_le (k:=m) (by rw [hV];exact HSW.out)
  rw [hsv.len] at h1
  refine Nat.le_antisymm h1 (Nat.le_of_not_lt fun h2=>?_)
  have h3:=zBa hsv.digs
  rw [hsv.len,hV] at h3
  have h4:=zBu (show mv≤m-1 by omega)
  have h5:=HSV.out
  rw [show 32*m-1=32*(m-1)+31 from by omega,Int.pow_add,← zCb] at h5
  have:=zA0 (m-1)
  omega
 subst hmvm
 obtain ⟨V,hVd⟩:∃ V,V=val (vs0.take mv):=⟨_,rfl⟩
 have htop:2147483648≤(vs0.take mv).getD (mv-1) 0:=by
  have h1:=zAq (vs0.take mv) (mv-1)
  rw [show mv-1+1=mv from by omega,zAw _ (by rw [hsv.len];omega),hV] at h1
  have h2:=zBa (hsv.digs.take (mv-1))
  rw [List.length_take,hsv.len,Nat.min_eq_left zm] at h2
  have h5:=HSV.out
  rw [show 32*mv-1=32*(mv-1)+31 from by omega,Int.pow_add,← zCb] at h5
  refine Int.not_lt.1 fun hn=>?_
  have h6:=Int.mul_le_mul_of_nonneg_left (show (vs0.take mv).getD (mv-1) 0+1≤2147483648 by omega) (Int.le_of_lt (zA0 (mv-1)))
  rw [Int.mul_add] at h6
  omega
 have hVp:0<V:=by
  have h5:=HSV.out
  rw [← hV,← hVd] at h5
  have:=zA6 (32*mv-1)
  omega
 have hVw:V<pw mv:=by rw [hVd];have:=zBa hsv.digs;rw [hsv.len] at this;exact this
 have HVD:=hidd hVd
 have HV:=hidd hV
 have HT:=hidd htop
 have hu0:val us0=val xs*2^s:=huv
 have HU:=hidd hu0
 have HVP:=hidd hVp
 have HVW:=hidd hVw
 have HVL:=hidd hvl
 have hruB:bu<w1.heap.size:=hru.lt
 have hru2:=hru.mono hB2 hruB
 have hbuv:bu≠bv:=zm
 have hB12:Below w.heap.size w w2:=hB1.trans (hB2.mono hB1.size)
 have hbuw:w.heap.size≤bu:=hbu
 have hbvw:w.heap.size≤bv:=Nat.le_trans hB1.size hbv
 have hbv2:bv<w2.heap.size:=hrv.lt
 have hbu2:bu<w2.heap.size:=hru2.lt
 clear hV hVd htop huv hu0 hvv hvt hcv hsv hVp hVw hmv hru hB1 hB2 hbu hbv
 go_wp2_with (at_make;refine zX7 _ rfl _ _ 27 rfl 104 Tryz.underlying27 (by kernel_rfl) _ _ _ _ rfl rfl (n-mv+1) zm zm zm ?_;intro bq w4 hbq hrq hB4)
 have hbqu:bu≠bq:=zm
 have hbqv:bv≠bq:=zm
 have hbqw:w.heap.size≤bq:=zm
 have hru4:=hru2.mono hB4 hbu2
 have hrv4:=hrv.mono hB4 hbv2
 have hB:Below w.heap.size w w4:=hB12.trans (hB4.mono hB12.size)
 have hUL:=hidd hul
 clear hB4 hB12 hru2 hrv hul hvl hbq hbu2 hbv2 hruB hX hY
 go_loopw [11] (fun i wr=>∃ (k:Nat) (us qs:List Int),k≤n-mv+1∧i=.int .i64 ((k:Int)-1)∧Row wr 104 bu us∧us.length=n+1∧Row wr 104 bv vs0∧Row wr 104 bq qs∧qs.length=n-mv+1∧Below w.heap.size w wr ∧
   val (us.drop k)<V∧val us+V*pw k*val (qs.drop k)=val us0) (fun i _=>(intOf i+1).toNat)
 case atStart=>
  refine ⟨n-mv+1,us0,_,Nat.le_refl _,by congr 1;omega,hru4,hUL.out,hrv4,hrq,by simp,hB,?_,?_⟩
  ·exact top_lt zm hmn hru4.1 hUL.out hXlt hYge (zA6 s) (HVD.out.trans HV.out) HU.out
  ·rw [List.drop_of_length_le (by simp)];simp [val]
 case round=>
  obtain ⟨k,us,qs,hk,rfl,hru,hul,hrv,hrq,hql,hB,hlt,hsum⟩:=hrel
  have HL:=hidd hlt
  have HS:=hidd hsum
  clear hlt hsum hru4 hrv4
  by_cases h0:0<k
  ·have hwl:k-1+(mv+1)≤us.length:=zm
   have hul2:=hidd hul
   have hql2:=hidd hql
   have hcne:¬ (n+1=k-1):=zm
   have hwin:=hru.win (k-1) (mv+1) (n+1-(k-1)) hwl zm
   have hvs:=(hrv.sl HVL.out).take (show mv≤mv+1 by omega)
   clear hul hql
   have hcut:=win_val (us:=us) (i:=k-1) (m:=mv) hru.1 zm (by rw [show k-1+1=k from by omega];exact Int.lt_trans HL.out HVW.out)
   rw [show k-1+1=k from by omega] at hcut
   obtain ⟨W,hW⟩:∃ W,W=val ((us.drop (k-1)).take (mv+1)):=⟨_,rfl⟩
   have hWlt:val ((us.drop (k-1)).take (mv+1))<val (vs0.take mv)*4294967296:=by
    rw [hcut.2,← HVD.out]
    have:=(hru.1.getD (k-1)).2
    have:=HL.out
    omega
   have HW:=hidd hW
   have HW0:Hid (0≤W):=by rw [hW];exact zAm ((hru.1.drop (k-1)).take (mv+1))
   have HWLT:=hidd hWlt
   have HCUT:=hidd hcut
   clear hW hWlt hcut
   go_wp2_with fail
   rw [show k-1+mv+1-(k-1)=mv+1 from by omega]
   refine (guess_any _ _ _ _ _ _ _ _ hwin hvs hm2 zm HT.out HWLT.out).mono ?_
   rintro e w5 ⟨g,rfl,hG,hd⟩
   rw [← HW.out,← HVD.out] at hG
   obtain ⟨hg1,hg2,hg3,hg4⟩:=hG
   have HG1:=hidd hg1
   have HG2:=hidd hg2
   have hru5:=hru.drawn hd
   have hrv5:=hrv.drawn hd
   have hrq5:=hrq.drawn hd
   have hvs5:=hvs.mono (hd.below _)
   have hB5:=hB.trans (hd.below _)
   have hwB:w.heap.size≤w5.heap.size:=hB5.size
   have hne:∀ b' o,(some ⟨bv,0,none⟩:Option Addr)=some ⟨b',o,none⟩→0<mv→b'≠bu:=by intro b' o h;cases h;intro _;exact fun e=>hbuv e.symm
   clear hg1 hg2 hru hrv hrq hvs hwin hd hB
   go_wp2_with fail
   refine (zXz _ _ _ _ _ _ _ _ _ _ _ hru5 (by have:=hul2.out;omega) zm hvs5 hne zm hg3 hg4).mono ?_
   rintro e w6 ⟨neg,us2,rfl,hru6,hul6,htk6,hdr6,hval6,hgr6⟩
   rw [← HW.out,← HVD.out] at hval6
   have hrv6:=hrv5.grown hgr6 (fun e=>hbuv e.symm)
   have hrq6:=hrq5.grown hgr6 (fun e=>hbqu e.symm)
   have hB6:=hB5.grown hgr6 hwB (by intro j hj;cases hj;exact hbuw)
   have hvs6:=(hrv6.sl HVL.out).take (show mv≤mv+1 by omega)
   have HUL6:=hidd hul6
   have HTK6:=hidd htk6
   have HDR6:=hidd hdr6
   have HVAL6:=hidd hval6
   have hwB6:w.heap.size≤w6.heap.size:=hB6.size
   clear hul6 htk6 hdr6 hval6 hgr6 hru5 hrv5 hrq5 hvs5 hB5
   cases neg
   ·have hkq:k-1<qs.length:=by have:=hql2.out;omega
    have hfq:=hrq6.frozen (k-1)
    obtain ⟨z,hzq,_,_,_⟩:=hrq6.at hkq
    have hkI:((k:Int)-1)<((n-mv+1:Nat):Int):=zm
    go_wp2
    go_roundw
    case rel=>
     have hv:=HVAL6.out
     simp only [Bool.false_eq_true,if_false,Int.add_zero] at hv
     have h1:=zQe (i:=k-1) (m:=mv) (qs:=qs) (U:=val us0) (by have:=hul2.out;omega) HUL6.out HTK6.out HDR6.out (by rw [HCUT.out.1];exact HW.out.symm) HW.out.symm hv (by have:=HG1.out;rw [Int.add_mul] at this;omega) hkq (by rw [show k-1+1=k from by omega];exact HS.out)
     exact ⟨k-1,us2,qs.set (k-1) g,zm,by go_num,hru6.grown (zEd _ _ _ _) hbqu,HUL6.out.trans hul2.out,hrv6.grown (zEd _ _ _ _) hbqv,hrq6.set ⟨hg3,hg4⟩,by simp [hql2.out],hB6.setCell hbqw _,h1.1,h1.2⟩
    case measure=>simp [intOf];omega
   ·have hWlt2:W<g*V:=by
     have h1:=HVAL6.out
     simp only [if_true] at h1
     have h2:=zBa ((hru6.1.drop (k-1)).take (mv+1))
     rw [List.length_take,List.length_drop,HUL6.out,hul2.out,Nat.min_eq_left zm] at h2
     omega
    have hgp:1≤g:=by
     rcases (by omega:g=0∨1≤g) with h | h
     ·rw [h,Int.zero_mul] at hWlt2
      have:=zAm ((hru6.1.drop (k-1)).take (mv+1))
      have h3:=HG2.out
      rw [h] at h3
      have:=HVP.out
      exact absurd (Int.lt_of_le_of_lt HW0.out hWlt2) zm
     ·exact h
    have HWL2:=hidd hWlt2
    clear hWlt2
    go_wp2_with fail
    refine (zSx _ _ _ _ _ _ _ _ _ hru6 (by have:=hul2.out;have:=HUL6.out;omega) zm hvs6 hne zm).mono ?_
    rintro e w7 ⟨us3,rfl,hru7,hul7,htk7,hdr7,hval7,hgr7⟩
    have hrv7:=hrv6.grown hgr7 (fun e=>hbuv e.symm)
    have hrq7:=hrq6.grown hgr7 (fun e=>hbqu e.symm)
    have hB7:=hB6.grown hgr7 hwB6 (by intro j hj;cases hj;exact hbuw)
    have HUL7:=hidd hul7
    have HTK7:=hidd htk7
    have HDR7:=hidd hdr7
    have HVAL7:=hidd hval7
    have hkq:k-1<qs.length:=by have:=hql2.out;omega
    have hfq:=hrq7.frozen (k-1)
    obtain ⟨z,hzq,_,_,_⟩:=hrq7.at hkq
    have hkI:((k:Int)-1)<((n-mv+1:Nat):Int):=zm
    clear hul7 htk7 hdr7 hval7 hgr7 hru6 hrv6 hrq6 hvs6 hB6
    go_wp2
    go_roundw
    case rel=>
     have hv:=HVAL6.out
     simp only [if_true] at hv
     obtain ⟨κ,hκ⟩:=HVAL7.out
     rw [hv,← HVD.out] at hκ
     have n0:=zAm ((hru7.1.drop (k-1)).take (mv+1))
     have n1:=zBa ((hru7.1.drop (k-1)).take (mv+1))
     rw [List.length_take,List.length_drop,HUL7.out,HUL6.out,hul2.out,Nat.min_eq_left zm] at n1
     rw [hκ] at n0 n1
     have g2:=HG2.out
     have g4:=HWL2.out
     have hVP2:V<pw (mv+1):=zu HVW.out
     have hlt:W-(g-1)*V<V:=by rw [Int.sub_mul];omega
     have hb:=back_once zm hlt hVP2 n0 n1
     rw [hb] at hκ
     have h1:=zQe (i:=k-1) (m:=mv) (qs:=qs) (U:=val us0) (us:=us) (us':=us3) (g:=g-1) (by have:=hul2.out;omega) (HUL7.out.trans HUL6.out) (HTK7.out.trans HTK6.out) (HDR7.out.trans HDR6.out) (by rw [HCUT.out.1];exact HW.out.symm) HW.out.symm hκ hlt hkq (by rw [show k-1+1=k from by omega];exact HS.out)
     exact ⟨k-1,us3,qs.set (k-1) (g-1),zm,by go_num,hru7.grown (zEd _ _ _ _) hbqu,(HUL7.out.trans HUL6.out).trans hul2.out,hrv7.grown (zEd _ _ _ _) hbqv,hrq7.set ⟨zm,zm⟩,by simp [hql2.out],hB7.setCell hbqw _,h1.1,h1.2⟩
    case measure=>simp [intOf];omega
  ·obtain rfl:k=0:=zm
   have hsl:=hru.sl hul
   have hqs:=hrq.sl hql
   have hvr:=hsl.digs
   go_wp2_with fail
   refine (zR6 _ _ _ _ _ hsl zm s zm).mono ?_
   rintro e w5 ⟨rs,rfl,hrl,hrr,hrval,hB5⟩
   have hrsl:=hrr.sl hrl
   go_wp2
   go_ret2
   have e1:=HS.out
   rw [zDo,Int.mul_one,List.drop_zero] at e1
   obtain ⟨f1,f2,f3⟩:=long_end (X:=val xs) (Y:=val ys) (Q:=val qs) (R:=val us) (HVD.out.trans HV.out) (zA6 s) (by rw [e1];exact HU.out) (zAm hvr) (by simpa using HL.out)
   rw [← hrval] at f1 f2 f3
   exact ⟨_,_,_,_,_,_,qs,rs,rfl,hqs.mono hB5,hrsl,zm,zm,f1,f2,f3,hB.trans (hB5.mono hB.size)⟩

def DivDone (w:World) (X Y:Int) (e:Ending) (w':World):Prop:=
 ∃ aq ar nq nr cq cr qs rs,e=.returned (.tuple #[.slice aq nq cq,.slice ar nr cr])∧Sl w' aq nq cq qs∧Sl w' ar nr cr rs∧Canon qs∧Canon rs∧val qs=X/Y∧val rs=X % Y∧Below w.heap.size w w'

theorem div_rem {X Y Q R:Int} (h:X=Q*Y+R) (h0:0≤R) (h1:R<Y):Q=X/Y∧R=X % Y:=by
 have hY:0<Y:=zm
 have e1:=zJb (P:=Y) (V:=Q) (r:=R) (a:=X) (by rw [h,Int.mul_comm]) h0 h1 hY
 refine ⟨e1,?_⟩
 have:=Int.mul_ediv_add_emod X Y
 rw [← e1,Int.mul_comm] at this
 omega

theorem zI4 {x y:Int}:cmpI x y<0 ↔ x<y:=by
 unfold cmpI
 split
 ·simp_all
 ·split <;> simp_all

theorem zJa (w:World) (ax ay:Option Addr) (n m cx cy:Nat) (xs ys:List Int) (hX:Sl w ax n cx xs) (hY:Sl w ay m cy ys) (hcx:Canon xs) (hcy:Canon ys) (h0:0<val ys) (hb1:n≤900000) (hb2:m≤900000) :
  Calls Tryz.prog 85 #[.slice ax n cx,.slice ay m cy] w (DivDone w (val xs) (val ys)):=by
 have hnn:=zAm hX.digs
 by_cases hlt:val xs<val ys
 ·have hcm:cmpI (val xs) (val ys)=-1:=if_pos hlt
  go_enter Tryz.func85,Tryz.ntmps85
  go_wp2_with (go_at_call 82;(with_reducible refine (zD6 _ _ _ _ _ _ _ _ _ hX hY hcx hcy zm zm).mono ?_);rintro e w2 ⟨rfl,hd⟩)
  have hX2:=hX.drawn' hd
  go_wp2_with (go_at_call 119;(with_reducible refine (zF1 _ _ _ _ _ hX2 zm).mono ?_);rintro e w3 ⟨az,cz,rfl,hsz,hB2⟩)
  go_ret2
  exact ⟨_,_,_,_,_,_,[],xs,rfl,Sl.nil _,hsz,⟨fun _ h=>by simp at h,.inl rfl⟩,hcx,(Int.ediv_eq_zero_of_lt hnn hlt).symm,(Int.emod_eq_of_lt hnn hlt).symm,(hd.below _).trans (by rw [← hd.size];exact hB2)⟩
 ·have hmn:m≤n:=zDx hcy hY hX zm
  have hcm:0≤cmpI (val xs) (val ys):=by
   have:=(not_congr (zI4 (x:=val xs) (y:=val ys))).2 hlt;omega
  have hm1:1≤m:=by
   rcases Nat.eq_zero_or_pos m with h | h
   ·have:=hcy.zero.1 (by rw [hY.len];exact h);omega
   ·exact h
  by_cases hn2:n≤2
  ·go_enter Tryz.func85,Tryz.ntmps85
   go_wp2_with (go_at_call 82;(with_reducible refine (zD6 _ _ _ _ _ _ _ _ _ hX hY hcx hcy zm zm).mono ?_);rintro e w2 ⟨rfl,hd⟩)
   have hX2:=hX.drawn' hd
   have hY2:=hY.drawn' hd
   go_wp2_with (first | (go_at_call 122;(with_reducible refine (zIp _ _ _ _ _ hX2 hn2).mono ?_);rintro e w3 ⟨rfl,rfl⟩) | (go_at_call 122;(with_reducible refine (zIp _ _ _ _ _ hY2 zm).mono ?_);rintro e w3 ⟨rfl,rfl⟩))
   have hXb:val xs<18446744073709551616:=by
    have:=zBa hX.digs
    have h2:=zBu (show xs.length≤2 by rw [hX.len];exact hn2)
    have e:pw 2=18446744073709551616:=by rfl
    omega
   have hB2:Below w.heap.size w w2:=hd.below _
   have hsz2:=hd.size
   have HSZ:=hidd hsz2
   clear hX2 hY2 hX hY hcx hcy hd hsz2
   generalize val xs=X at *
   generalize val ys=Y at *
   have hq0:0≤X/Y:=Int.ediv_nonneg hnn zm
   have hq1:X/Y≤X:=Int.ediv_le_self _ hnn
   have hr0:0≤X % Y:=Int.emod_nonneg _ zm
   have hr1:X % Y<Y:=Int.emod_lt_of_pos _ h0
   have hfne:¬ Y=0:=zm
   have hfb:(Y == 0)=false:=by simp;omega
   have hqv:IntKind.u64.wrap (X.tdiv Y)=X/Y:=IntWalk.u64_quo _ _ ⟨hnn,zm,zm⟩
   have hmv:X.tmod Y=X % Y:=IntWalk.rem_in _ _ hnn
   have hqw:IntKind.u64.wrap (X/Y)=X/Y:=IntWalk.u64_in _ ⟨hq0,zm⟩
   have hmw:IntKind.u64.wrap (X % Y)=X % Y:=IntWalk.u64_in _ ⟨hr0,zm⟩
   go_region_held3 (fun W=>w2.heap.size≤W.heap.size) (first | exact Nat.le_refl _ | exact hB3.size | exact Nat.le_trans hB3.size hB4.size)
    (first | (go_at_call 109;(with_reducible refine (zFk _ (X/Y) hq0 zm).mono ?_);rintro e w3 ⟨aq,nq,cq,qs,rfl,hnq,hsq,hcq,hvq,hB3⟩) | (go_at_call 109;(with_reducible refine (zFk _ (X % Y) hr0 zm).mono ?_);rintro e w4 ⟨ar,nr,cr,rs,rfl,hnr,hsr,hcr,hvr,hB4⟩))
   go_wp2
   go_ret2
   exact ⟨_,_,_,_,_,_,qs,rs,rfl,hsq.mono hB4,hsr,hcq,hcr,hvq,hvr,(hB2.drew.trans (hB3.mono hB2.size)).trans (hB4.mono (Nat.le_trans hB2.size hB3.size))⟩
  ·by_cases hm2:m=1
   ·subst hm2
    go_enter Tryz.func85,Tryz.ntmps85
    go_wp2_with (go_at_call 82;(with_reducible refine (zD6 _ _ _ _ _ _ _ _ _ hX hY hcx hcy zm zm).mono ?_);rintro e w2 ⟨rfl,hd⟩)
    have hX2:=hX.drawn' hd
    have hY2:=hY.drawn' hd
    have hB2:Below w.heap.size w w2:=hd.below _
    obtain ⟨b,off,rfl,hbl,y,hyc,hy0,hy1,HY⟩:=hY2.cells.at (k:=0) (by rw [hY.len];omega)
    have hvy:val ys=y:=by
     have h1:=zAq ys 0
     rw [zAw ys (by rw [hY.len];omega),HY.out,zDo] at h1
     simp [val] at h1
     exact h1
    have HVY:=hidd hvy
    have hyp:0<y:=zm
    simp only [Nat.add_zero] at hyc
    clear hvy hd
    go_wp2_with fail
    refine (zI7 _ _ _ _ _ hX2 zm).mono ?_
    rintro e w3 ⟨rfl,hr3,hB3⟩
    have hyc3:=(hB3.cell (p:=⟨b,off,none⟩) hbl).trans hyc
    have hr3l:xs.length=n:=hX.len
    have HR3:=hidd hr3l
    clear hr3l hyc
    go_wp2_with fail
    refine (zS9 _ _ _ _ _ hr3 (by rw [HR3.out];exact Nat.le_refl _) zm y hyp hy1).mono ?_
    rintro e w4 ⟨r,qs,rfl,hr0,hr1,hrq,hql,hqd,hqv,hg4⟩
    rw [zAw xs (by rw [HR3.out];exact Nat.le_refl _),zAw qs (by rw [hql,HR3.out];exact Nat.le_refl _)] at hqv
    have hB4:Below w.heap.size w w4:=(hB2.trans (hB3.mono hB2.size)).grown hg4 (Nat.le_trans hB2.size hB3.size) (by intro j hj;cases hj;exact hB2.size)
    have hsq:=hrq.sl (hql.trans HR3.out)
    have HQV:=hidd hqv
    clear hql hqd hqv hg4 hr3 hB3
    go_wp2_with fail
    refine (zBm _ _ _ _ _ hsq zm).mono ?_
    rintro e w5 ⟨mq,rfl,hmq,hsq2,hvq,hcq,rfl⟩
    go_wp2_with fail
    refine (zFk _ r hr0 zm).mono ?_
    rintro e w6 ⟨ar,nr,cr,rs,rfl,hnr,hsr,hcr,hvr,hB6⟩
    go_wp2
    go_ret2
    obtain ⟨f1,f2⟩:=div_rem (HQV.out) hr0 hr1
    rw [← HVY.out] at f1 f2
    exact ⟨_,_,_,_,_,_,_,rs,rfl,hsq2.mono hB6,hsr,hcq,hcr,hvq.trans f1,hvr.trans f2,hB4.trans (hB6.mono hB4.size)⟩
   ·go_enter Tryz.func85,Tryz.ntmps85
    go_wp2_with (go_at_call 82;(with_reducible refine (zD6 _ _ _ _ _ _ _ _ _ hX hY hcx hcy zm zm).mono ?_);rintro e w2 ⟨rfl,hd⟩)
    have hX2:=hX.drawn' hd
    have hY2:=hY.drawn' hd
    have hB2:Below w.heap.size w w2:=hd.below _
    have hmb:((m:Int) == 1)=false:=by simp;omega
    clear hd
    go_wp2_with fail
    refine (zS8 _ _ _ _ _ _ _ _ _ hX2 hY2 hcy zm hmn zm).mono ?_
    rintro e w3 ⟨aq,ar,nq,nr,cq,cr,qs,rs,rfl,hsq,hsr,hnq,hnr,hsum,hr0,hr1,hB3⟩
    obtain ⟨f1,f2⟩:=div_rem hsum hr0 hr1
    have F1:=hidd f1
    have F2:=hidd f2
    clear f1 f2 hsum hr0 hr1
    go_wp2_with fail
    refine (zBm _ _ _ _ _ hsq zm).mono ?_
    rintro e w5 ⟨mq,rfl,hmq,hsq2,hvq,hcq,rfl⟩
    go_wp2_with fail
    refine (zBm _ _ _ _ _ hsr zm).mono ?_
    rintro e w6 ⟨mr,rfl,hmr,hsr2,hvr,hcr,rfl⟩
    go_wp2
    go_ret2
    exact ⟨_,_,_,_,_,_,_,_,rfl,hsq2,hsr2,hcq,hcr,hvq.trans F1.out,hvr.trans F2.out,hB2.trans (hB3.mono hB2.size)⟩

theorem zN2 (w:World) (o:Obj):Below w.heap.size w (w.alloc o):=(Below.refl _ _).alloc (Nat.le_refl _) o

theorem boxes4 (w:World) (a1 a2 b1 b2:Value) (t:TypeId) :
  ∃ w0,w0=(((w.alloc (.cells #[a1,a2] t)).alloc (.cells #[b1,b2] t)).alloc (.cells #[.bool false,.slice none 0 0] t)).alloc (.cells #[.bool false,.slice none 0 0] t)∧IntBox w0 w.heap.size a1 a2∧IntBox w0 (w.heap.size+1) b1 b2 ∧
   IntBox w0 (w.heap.size+1+1) (.bool false) (.slice none 0 0)∧IntBox w0 (w.heap.size+1+1+1) (.bool false) (.slice none 0 0)∧Below w.heap.size w w0∧Hid (w0.heap.size=w.heap.size+4):=by
 obtain ⟨w3,h3,hA,hB,hC,hb,hs⟩:=zEl w a1 a2 b1 b2 t
 have hs':=hs.out
 have l:=zN2 w3 (.cells #[.bool false,.slice none 0 0] t)
 have hn:=IntBox.new w3 (.bool false) (.slice none 0 0) t
 rw [hs'] at hn
 refine ⟨w3.alloc (.cells #[.bool false,.slice none 0 0] t),by rw [h3],hA.mono l hA.lt,hB.mono l hB.lt,hC.mono l hC.lt,hn,hb.trans (l.mono hb.size),?_⟩
 show _=_
 simp [hs']

theorem zJz {w w3:World} {r1 r2:Nat} {n1 n2:Bool} {a1 a2:Option Addr} {k1 k2 c1 c2:Nat} {s1 s2:List Int} (h1:IntBox w3 r1 (.bool false) (.slice none 0 0)) (h2:IntBox w3 r2 (.bool false) (.slice none 0 0)) (hne:r1≠r2)
  (hs1:Sl w3 a1 k1 c1 s1) (hs2:Sl w3 a2 k2 c2 s2) (hb:Below w.heap.size w w3) (hr1:w.heap.size≤r1) (hr2:w.heap.size≤r2) :
  Sl ((((w3.setCell ⟨r1,0,none⟩ (.bool n1)).setCell ⟨r1,1,none⟩ (.slice a1 k1 c1)).setCell ⟨r2,0,none⟩ (.bool n2)).setCell ⟨r2,1,none⟩ (.slice a2 k2 c2)) a1 k1 c1 s1 ∧
  Sl ((((w3.setCell ⟨r1,0,none⟩ (.bool n1)).setCell ⟨r1,1,none⟩ (.slice a1 k1 c1)).setCell ⟨r2,0,none⟩ (.bool n2)).setCell ⟨r2,1,none⟩ (.slice a2 k2 c2)) a2 k2 c2 s2 ∧
  Below w.heap.size w ((((w3.setCell ⟨r1,0,none⟩ (.bool n1)).setCell ⟨r1,1,none⟩ (.slice a1 k1 c1)).setCell ⟨r2,0,none⟩ (.bool n2)).setCell ⟨r2,1,none⟩ (.slice a2 k2 c2)):=by
 have f1:(w3.setCell ⟨r1,0,none⟩ (.bool n1)).cell? ⟨r1,1,none⟩=some (.slice none 0 0):=by
  rw [World.cell?_setCell_other _ _ _ _ (by intro e;cases e)];exact h1.2.1
 have f2:((w3.setCell ⟨r1,0,none⟩ (.bool n1)).setCell ⟨r1,1,none⟩ (.slice a1 k1 c1)).cell? ⟨r2,0,none⟩=some (.bool false):=by
  rw [World.cell?_setCell_other _ _ _ _ (by intro e;cases e),World.cell?_setCell_other _ _ _ _ (by intro e;cases e;exact hne rfl)];exact h2.1
 have f3:(((w3.setCell ⟨r1,0,none⟩ (.bool n1)).setCell ⟨r1,1,none⟩ (.slice a1 k1 c1)).setCell ⟨r2,0,none⟩ (.bool n2)).cell? ⟨r2,1,none⟩=some (.slice none 0 0):=by
  rw [World.cell?_setCell_other _ _ _ _ (by intro e;cases e),World.cell?_setCell_other _ _ _ _ (by intro e;cases e;exact hne rfl),World.cell?_setCell_other _ _ _ _ (by intro e;cases e)];exact h2.2.1
 have g:∀ {ao n c xs},Sl w3 ao n c xs→Sl ((((w3.setCell ⟨r1,0,none⟩ (.bool n1)).setCell ⟨r1,1,none⟩ (.slice a1 k1 c1)).setCell ⟨r2,0,none⟩ (.bool n2)).setCell ⟨r2,1,none⟩ (.slice a2 k2 c2)) ao n c xs:=fun h=>
  (((h.setOther h1.1 (by intro q e;cases e) _).setOther f1 (by intro q e;cases e) _).setOther f2 (by intro q e;cases e) _).setOther f3 (by intro q e;cases e) _
 exact ⟨g hs1,g hs2,(((hb.setCell hr1 _).setCell hr1 _).setCell hr2 _).setCell hr2 _⟩

theorem zLb {a Y q r:Int} (nb:Bool) (h:a=Y*q+r) (h0:0≤r) (h1:r<Y):sgn nb q=a/sgn nb Y∧r=a % sgn nb Y:=by
 have hY:0<Y:=zm
 have e1:=zJb h h0 h1 hY
 have e2:r=a % Y:=by have:=Int.mul_ediv_add_emod a Y;rw [← e1] at this;omega
 cases nb
 ·exact ⟨e1,e2⟩
 ·simp only [sgn,if_true]
  rw [Int.ediv_neg,Int.emod_neg]
  exact ⟨by rw [e1],e2⟩

def zIs (w:World) (a b:Int) (e:Ending) (w':World):Prop:=
 Below w.heap.size w w'∧((b=0∧e=.returned (.tuple #[.agg #[.bool false,.slice none 0 0],.agg #[.bool false,.slice none 0 0],.int .i64 4])) ∨
  (b≠0∧∃ vq vr,e=.returned (.tuple #[vq,vr,.int .i64 0])∧IsInt w' vq (a/b)∧IsInt w' vr (a % b)))

theorem zSw (w:World) (na nb:Bool) (ax ay:Option Addr) (n m cx cy:Nat) (xs ys:List Int) (hX:Sl w ax n cx xs) (hY:Sl w ay m cy ys) (hb1:n≤900000) (hb2:m≤900000) :
  Calls Tryz.prog 37 #[.agg #[.bool na,.slice ax n cx],.agg #[.bool nb,.slice ay m cy]] w (zIs w (sgn na (val xs)) (sgn nb (val ys))):=by
 go_enter Tryz.func37,Tryz.ntmps37
 go_wp2
 obtain ⟨w0,hw0,hA,hB,hC,hD,hbl,HS⟩:=boxes4 w (.bool na) (.slice ax n cx) (.bool nb) (.slice ay m cy) 36
 rw [← hw0]
 clear hw0
 have hXd:=(hX.mono hbl).drew
 have hYd:=(hY.mono hbl).drew
 have hcut:w.heap.size+2≤w0.heap.size:=by have:=HS.out;omega
 obtain ⟨ca0,ca1,_,_⟩:=hA
 obtain ⟨cb0,cb1,_,_⟩:=hB
 go_region_held3 (fun W=>w.heap.size+2≤W.heap.size∧(∀ b o,b<w.heap.size+2→W.cell? ⟨b,o,none⟩=w0.cell? ⟨b,o,none⟩)∧∀ b o,b<w.heap.size+2→W.frozen? ⟨b,o,none⟩=w0.frozen? ⟨b,o,none⟩)
  (first | exact Kept.start hcut | assumption)
  (first | (go_at_call 80;(with_reducible refine (zBm _ _ _ _ _ hXd zm).mono ?_);rintro e w' ⟨m1,rfl,hm1,hs1,hv1,hc1,rfl⟩) | (go_at_call 80;(with_reducible refine (zBm _ _ _ _ _ hYd zm).mono ?_);rintro e w' ⟨m2,rfl,hm2,hs2,hv2,hc2,rfl⟩))
 obtain ⟨w1,hw1⟩:∃ w1,w1=w0.drew:=⟨_,rfl⟩
 rw [← hw1] at hs1 hs2 ⊢
 have da0:w1.cell? ⟨w.heap.size,0,none⟩=some (.bool na):=by rw [hw1];exact ca0
 have db0:w1.cell? ⟨w.heap.size+1,0,none⟩=some (.bool nb):=by rw [hw1];exact cb0
 have hC1:IntBox w1 (w.heap.size+1+1) (.bool false) (.slice none 0 0):=by rw [hw1];exact hC
 have hD1:IntBox w1 (w.heap.size+1+1+1) (.bool false) (.slice none 0 0):=by rw [hw1];exact hD
 have hbl1:Below w.heap.size w w1:=by rw [hw1];exact hbl.drew
 have HS1:Hid (w1.heap.size=w.heap.size+4):=by rw [hw1];exact HS
 have HV1:=hidd hv1
 have HV2:=hidd hv2
 clear hw1 ca0 ca1 cb0 cb1 hXd hYd hcut hbl hC hD HS hv1 hv2
 have hml:=hs2.len
 have hz:=hc2.zero
 rw [hml,HV2.out] at hz
 by_cases hm0:m2=0
 ·have HY0:Hid (sgn nb (val ys)=0):=zNf nb (hz.1 hm0)
  clear hz hml
  subst hm0
  obtain ⟨e0,e1,e2,e3⟩:=hC1
  obtain ⟨g0,g1,g2,g3⟩:=hD1
  go_wp2
  refine bodyPost_ret (v:=.tuple #[.agg #[.bool false,.slice none 0 0],.agg #[.bool false,.slice none 0 0],.int .i64 4]) ?_ rfl ⟨?_,.inl ⟨HY0.out,rfl⟩⟩
  ·simp [results,Tryz.results37,go_sem,e0,e1,g0,g1]
  ·exact (((hbl1.setCell (by show w.heap.size≤w.heap.size+1+1;omega) _).setCell (by show w.heap.size≤w.heap.size+1+1;omega) _).setCell (by show w.heap.size≤w.heap.size+1+1+1;omega) _).setCell (by show w.heap.size≤w.heap.size+1+1+1;omega) _
 ·have hYp:0<val ys:=by
   have:=zAm hY.digs
   have:val ys≠0:=fun h=>hm0 (hz.2 h)
   omega
  have hm2b:((m2:Int) == 0)=false:=by simp;omega
  clear hz hml
  go_wp2_with fail
  refine (zJa _ _ _ _ _ _ _ _ _ hs1 hs2 hc1 hc2 (by rw [HV2.out];exact hYp) zm zm).mono ?_
  rintro e w2 ⟨aq,ar,nq,nr,cq,cr,qs,rs,rfl,hsq,hsr,hcq,hcr,hvq,hvr,hB2⟩
  rw [HV1.out,HV2.out] at hvq hvr
  have hda2:=(hB2.cell (p:=⟨w.heap.size,0,none⟩) (by have:=HS1.out;show w.heap.size<_;omega)).trans da0
  have hdb2:=(hB2.cell (p:=⟨w.heap.size+1,0,none⟩) (by have:=HS1.out;show w.heap.size+1<_;omega)).trans db0
  have hC2:=hC1.mono hB2 hC1.lt
  have hD2:=hD1.mono hB2 hD1.lt
  have hbl2:=hbl1.trans (hB2.mono hbl1.size)
  have hsy2:=hs2.mono hB2
  have hs1d:=hs1.digs
  have hs1l:=hs1.len
  have HS1L:=hidd hs1l
  have HVQ:=hidd hvq
  have HVR:=hidd hvr
  have hrl:=hsr.len
  have hrz:=hcr.zero
  rw [hrl] at hrz
  clear hvq hvr hrl hC1 hD1 da0 db0 hs1 hs2 hs1l
  have hXnn:=zAm hX.digs
  have hdm:=Int.mul_ediv_add_emod (val xs) (val ys)
  have hr0:=Int.emod_nonneg (val xs) (Int.ne_of_gt hYp)
  have hr1:=Int.emod_lt_of_pos (val xs) hYp
  have hq0:0≤val xs/val ys:=Int.ediv_nonneg hXnn zm
  have hnq:nq≤m1:=by
   have h1:=hcq.length_le (k:=m1) (by
    rw [HVQ.out]
    have:=Int.ediv_le_self (val ys) hXnn
    have h2:=zBa hs1d
    rw [HS1L.out,HV1.out] at h2
    omega)
   rw [hsq.len] at h1;exact h1
  have hnr:nr≤m2:=zDx hcr hsr hsy2 (by rw [HVR.out,HV2.out];omega)
  have HS2:w.heap.size+4≤w2.heap.size:=by have:=HS1.out;have:=hB2.size;omega
  cases na
  ·obtain ⟨f1,f2⟩:=zLb nb hdm.symm hr0 hr1
   have F1:=hidd f1
   have F2:=hidd f2
   have hC3:=hC2
   have hD3:=hD2
   have hbl3:=hbl2
   clear f1 f2 hdm hr0 hr1 hq0 hB2
   ·go_wp2_with fail
    refine (zCv _ _ _ _ _ _ hsq zm).mono ?_
    rintro e v3 ⟨v,rfl,⟨ng,ao,nn,cc,rq,rfl,hrs,hrc,hrn,hrz⟩,hb3⟩
    have hsr3:=hsr.mono hb3
    go_wp2_with fail
    refine (zCv _ _ _ _ _ _ hsr3 zm).mono ?_
    rintro e v4 ⟨v',rfl,⟨ng',ao',nn',cc',rr,rfl,hrs',hrc',hrn',hrz'⟩,hb4⟩
    have hC4:=(hC3.mono hb3 hC3.lt).mono hb4 (Nat.lt_of_lt_of_le hC3.lt hb3.size)
    have hD4:=(hD3.mono hb3 hD3.lt).mono hb4 (Nat.lt_of_lt_of_le hD3.lt hb3.size)
    have hB4:=(hbl3.trans (hb3.mono hbl3.size)).trans (hb4.mono (Nat.le_trans hbl3.size hb3.size))
    have hrs4:=hrs.mono hb4
    have hfin:=zJz (n1:=ng) (n2:=ng') hC4 hD4 zm hrs4 hrs' hB4 zm zm
    obtain ⟨e0,e1,e2,e3⟩:=hC4
    obtain ⟨g0,g1,g2,g3⟩:=hD4
    have HRZ:=hidd hrz
    have HRZ':=hidd hrz'
    clear hrz hrz' hb3 hb4 hsr3 hrs hC3 hD3
    go_wp2
    refine bodyPost_ret (v:=.tuple #[.agg #[.bool ng,.slice ao nn cc],.agg #[.bool ng',.slice ao' nn' cc'],.int .i64 0]) ?_ rfl ⟨hfin.2.2,.inr ⟨?_,_,_,rfl,⟨ng,ao,nn,cc,rq,rfl,hfin.1,hrc,hrn,?_⟩,⟨ng',ao',nn',cc',rr,rfl,hfin.2.1,hrc',hrn',?_⟩⟩⟩
    ·simp [results,Tryz.results37,go_sem,e0,e1,g0,g1]
    ·cases nb <;> simp [sgn] <;> omega
    ·rw [← HRZ.out,HVQ.out,F1.out];refine F1.out.symm.trans ?_;cases nb <;> simp [sgn]
    ·rw [← HRZ'.out,HVR.out];exact F2.out.symm
  ·by_cases hnr0:nr=0
   ·have hr00:val xs % val ys=0:=by have:=hrz.1 hnr0;rw [HVR.out] at this;exact this
    obtain ⟨f1,f2⟩:=zLb (a:=-val xs) (Y:=val ys) (q:=-(val xs/val ys)) (r:=0) nb (by rw [Int.mul_neg];omega) (Int.le_refl _) hYp
    have F1:=hidd f1
    have F2:=hidd f2
    have R0:=hidd hr00
    have hC3:=hC2
    have hD3:=hD2
    have hbl3:=hbl2
    clear f1 f2 hdm hr0 hr1 hq0 hB2 hr00 hrz
    subst hnr0
    go_wp2_with fail
    refine (zCv _ _ _ _ _ _ hsq zm).mono ?_
    rintro e v3 ⟨v,rfl,⟨ng,ao,nn,cc,rq,rfl,hrs,hrc,hrn,hrz⟩,hb3⟩
    have hsr3:=hsr.mono hb3
    go_wp2_with fail
    refine (zCv _ _ _ _ _ _ hsr3 zm).mono ?_
    rintro e v4 ⟨v',rfl,⟨ng',ao',nn',cc',rr,rfl,hrs',hrc',hrn',hrz'⟩,hb4⟩
    have hC4:=(hC3.mono hb3 hC3.lt).mono hb4 (Nat.lt_of_lt_of_le hC3.lt hb3.size)
    have hD4:=(hD3.mono hb3 hD3.lt).mono hb4 (Nat.lt_of_lt_of_le hD3.lt hb3.size)
    have hB4:=(hbl3.trans (hb3.mono hbl3.size)).trans (hb4.mono (Nat.le_trans hbl3.size hb3.size))
    have hrs4:=hrs.mono hb4
    have hfin:=zJz (n1:=ng) (n2:=ng') hC4 hD4 zm hrs4 hrs' hB4 zm zm
    obtain ⟨e0,e1,e2,e3⟩:=hC4
    obtain ⟨g0,g1,g2,g3⟩:=hD4
    have HRZ:=hidd hrz
    have HRZ':=hidd hrz'
    clear hrz hrz' hb3 hb4 hsr3 hrs hC3 hD3
    go_wp2
    refine bodyPost_ret (v:=.tuple #[.agg #[.bool ng,.slice ao nn cc],.agg #[.bool ng',.slice ao' nn' cc'],.int .i64 0]) ?_ rfl ⟨hfin.2.2,.inr ⟨?_,_,_,rfl,⟨ng,ao,nn,cc,rq,rfl,hfin.1,hrc,hrn,?_⟩,⟨ng',ao',nn',cc',rr,rfl,hfin.2.1,hrc',hrn',?_⟩⟩⟩
    ·simp [results,Tryz.results37,go_sem,e0,e1,g0,g1]
    ·cases nb <;> simp [sgn] <;> omega
    ·rw [← HRZ.out,HVQ.out];refine F1.out.symm.trans ?_;cases nb <;> simp [sgn]
    ·rw [← HRZ'.out,HVR.out,R0.out];exact F2.out.symm
   ·have hrp:1≤val xs % val ys:=by
     rcases (by omega:val xs % val ys=0∨1≤val xs % val ys) with h | h
     ·exact absurd (hrz.2 (by rw [HVR.out];exact h)) hnr0
     ·exact h
    obtain ⟨f1,f2⟩:=zLb (a:=-val xs) (Y:=val ys) (q:=-(val xs/val ys+1)) (r:=val ys-val xs % val ys) nb (by rw [Int.mul_neg,Int.mul_add,Int.mul_one];omega) zm zm
    have F1:=hidd f1
    have F2:=hidd f2
    have hnri:(0:Int)<(nr:Int):=zm
    have hone:Row (w2.alloc (.cells #[.int .u32 1] 104)) 104 w2.heap.size [1]:=by
     refine ⟨fun x hx=>?_,?_⟩
     ·simp at hx;subst hx;exact ⟨zm,zm⟩
     ·rw [heap_alloc_new];rfl
    have hb5:=zN2 w2 (.cells #[.int .u32 1] 104)
    have hsq5:=hsq.mono hb5
    have h1s:=hone.sl (n:=1) rfl
    have hle:val rs≤val (ys.take m2):=by rw [HVR.out,HV2.out];omega
    clear f1 f2 hdm hq0 hB2 hrz
    go_wp2_with fail
    refine (zIw _ _ _ _ _ _ _ _ _ hsq5 h1s zm zm).mono ?_
    rintro e w6 ⟨a6,n6,c6,zs6,rfl,hn6,hs6,hv6,hB6⟩
    have hb6:=hb5.trans (hB6.mono hb5.size)
    have hsy6:=hsy2.mono hb6
    have hsr6:=hsr.mono hb6
    go_wp2_with fail
    refine (zNm _ _ _ _ _ _ _ _ _ hsy6 hsr6 hnr hle zm).mono ?_
    rintro e w7 ⟨a7,c7,zs7,rfl,hs7,hv7,hB7⟩
    have hb7:=hb6.trans (hB7.mono hb6.size)
    have hs67:=hs6.mono hB7
    have hC3:=hC2.mono hb7 hC2.lt
    have hD3:=hD2.mono hb7 hD2.lt
    have hbl3:=hbl2.trans (hb7.mono hbl2.size)
    have hda7:=(hb7.cell (p:=⟨w.heap.size,0,none⟩) (by show w.heap.size<_;omega)).trans hda2
    have hdb7:=(hb7.cell (p:=⟨w.heap.size+1,0,none⟩) (by show w.heap.size+1<_;omega)).trans hdb2
    have V6:Hid (val zs6=val xs/val ys+1):=by show _=_;rw [hv6,HVQ.out];simp [val]
    have V7:Hid (val zs7=val ys-val xs % val ys):=by show _=_;rw [hv7,HV2.out,HVR.out]
    clear hv6 hv7 hle hb5 hb6 hb7 hB6 hB7 hsq5 h1s hone hs6 hsy6 hsr6 hda2 hdb2
    go_wp2_with fail
    refine (zCv _ _ _ _ _ _ hs67 zm).mono ?_
    rintro e v3 ⟨v,rfl,⟨ng,ao,nn,cc,rq,rfl,hrs,hrc,hrn,hrz⟩,hb3⟩
    have hsr3:=hs7.mono hb3
    go_wp2_with fail
    refine (zCv _ _ _ _ _ _ hsr3 zm).mono ?_
    rintro e v4 ⟨v',rfl,⟨ng',ao',nn',cc',rr,rfl,hrs',hrc',hrn',hrz'⟩,hb4⟩
    have hC4:=(hC3.mono hb3 hC3.lt).mono hb4 (Nat.lt_of_lt_of_le hC3.lt hb3.size)
    have hD4:=(hD3.mono hb3 hD3.lt).mono hb4 (Nat.lt_of_lt_of_le hD3.lt hb3.size)
    have hB4:=(hbl3.trans (hb3.mono hbl3.size)).trans (hb4.mono (Nat.le_trans hbl3.size hb3.size))
    have hrs4:=hrs.mono hb4
    have hfin:=zJz (n1:=ng) (n2:=ng') hC4 hD4 zm hrs4 hrs' hB4 zm zm
    obtain ⟨e0,e1,e2,e3⟩:=hC4
    obtain ⟨g0,g1,g2,g3⟩:=hD4
    have HRZ:=hidd hrz
    have HRZ':=hidd hrz'
    clear hrz hrz' hb3 hb4 hsr3 hrs hC3 hD3
    go_wp2
    refine bodyPost_ret (v:=.tuple #[.agg #[.bool ng,.slice ao nn cc],.agg #[.bool ng',.slice ao' nn' cc'],.int .i64 0]) ?_ rfl ⟨hfin.2.2,.inr ⟨?_,_,_,rfl,⟨ng,ao,nn,cc,rq,rfl,hfin.1,hrc,hrn,?_⟩,⟨ng',ao',nn',cc',rr,rfl,hfin.2.1,hrc',hrn',?_⟩⟩⟩
    ·simp [results,Tryz.results37,go_sem,e0,e1,g0,g1]
    ·cases nb <;> simp [sgn] <;> omega
    ·rw [← HRZ.out,V6.out];refine F1.out.symm.trans ?_;cases nb <;> simp [sgn]
    ·rw [← HRZ'.out,V7.out];exact F2.out.symm

theorem Sub_any (w:World) (na nb:Bool) (ax ay:Option Addr) (n m cx cy:Nat) (xs ys:List Int) (hX:Sl w ax n cx xs) (hY:Sl w ay m cy ys) (hb1:n≤1000000) (hb2:m≤1000000) :
  Calls Tryz.prog 72 #[.agg #[.bool na,.slice ax n cx],.agg #[.bool nb,.slice ay m cy]] w (zBc w (sgn na (val xs)-sgn nb (val ys))):=by
 go_enter Tryz.func72,Tryz.ntmps72
 go_wp2_with fail
 obtain ⟨w0,hw0,hA,hB,hC,hbl,HS⟩:=zEl w (.bool na) (.slice ax n cx) (.bool !nb) (.slice ay m cy) 36
 rw [← hw0]
 clear hw0
 have hX0:=hX.mono hbl
 have hY0:=hY.mono hbl
 refine (Add_any _ _ _ _ _ _ _ _ _ _ _ hX0 hY0 hb1 hb2).mono ?_
 rintro e w3 ⟨v,rfl,⟨ng,ao,nn,cc,rs,rfl,hrs,hrc,hrn,hrz⟩,hb3⟩
 obtain ⟨e0,e1,e2,e3⟩:=hC.mono hb3 hC.lt
 have hb4:=hbl.trans (hb3.mono hbl.size)
 have HZ:Hid (sgn na (val xs)-sgn nb (val ys)=sgn ng (val rs)):=by
  show _=_
  rw [← hrz];cases nb <;> simp [sgn] <;> omega
 clear hrz
 go_wp2
 refine bodyPost_ret (v:=.agg #[.bool ng,.slice ao nn cc]) ?_ rfl ?_
 ·simp [results,Tryz.results72,go_sem,e0,e1]
 ·exact zB7 ⟨e0,e1,e2,e3⟩ hrs hrc hrn HZ.out hb4 zm

theorem cmp_same {a b:Bool} {x y:Int} (hx:0≤x) (hy:0≤y) (h:cmpI (sgn a x) 0=cmpI (sgn b y) 0):cmpI (sgn a x) 0*cmpI x y=cmpI (sgn a x) (sgn b y):=by
 unfold cmpI sgn at *
 cases a <;> cases b <;> simp only [Bool.false_eq_true,if_false,if_true] at*<;> (repeat' split at h) <;> (repeat' split) <;> omega

theorem cmp_diff {a b:Int} (h:cmpI a 0≠cmpI b 0):(if cmpI a 0<cmpI b 0 then (-1:Int) else 1)=cmpI a b:=by
 unfold cmpI at *
 (repeat' split at h) <;> (repeat' split) <;> omega

theorem zI3 (a b:Int):-1≤cmpI a b∧cmpI a b≤1:=by
 unfold cmpI;split
 ·omega
 ·split <;> omega

theorem Cmp_any (w:World) (na nb:Bool) (ax ay:Option Addr) (n m cx cy:Nat) (xs ys:List Int) (hX:Sl w ax n cx xs) (hY:Sl w ay m cy ys) (hb1:n≤1000000) (hb2:m≤1000000) :
  Calls Tryz.prog 35 #[.agg #[.bool na,.slice ax n cx],.agg #[.bool nb,.slice ay m cy]] w fun e w'=>e=.returned (.int .i64 (cmpI (sgn na (val xs)) (sgn nb (val ys))))∧Below w.heap.size w w':=by
 have hx0:=zAm hX.digs
 have hy0:=zAm hY.digs
 obtain ⟨s,hs⟩:∃ s,s=cmpI (sgn na (val xs)) 0:=⟨_,rfl⟩
 obtain ⟨t,ht⟩:∃ t,t=cmpI (sgn nb (val ys)) 0:=⟨_,rfl⟩
 obtain ⟨r,hr⟩:∃ r,r=cmpI (sgn na (val xs)) (sgn nb (val ys)):=⟨_,rfl⟩
 have hsb:=zI3 (sgn na (val xs)) 0
 rw [← hs] at hsb
 obtain ⟨hsb1,hsb2⟩:=hsb
 have HS':=hidd hs
 have HT':=hidd ht
 have HR':=hidd hr
 rw [← hr]
 clear hs ht hr
 go_enter Tryz.func35,Tryz.ntmps35
 go_wp2_with fail
 obtain ⟨w0,hw0⟩:∃ w0,w0=(w.alloc (.cells #[.bool na,.slice ax n cx] 36)).alloc (.cells #[.bool nb,.slice ay m cy] 36):=⟨_,rfl⟩
 rw [← hw0]
 have hA:IntBox w0 w.heap.size (.bool na) (.slice ax n cx):=by rw [hw0];exact (IntBox.new w _ _ _).mono (zAh _ _) (by simp)
 have hB:IntBox w0 (w.heap.size+1) (.bool nb) (.slice ay m cy):=by
  rw [hw0]
  have:=IntBox.new (w.alloc (.cells #[.bool na,.slice ax n cx] 36)) (.bool nb) (.slice ay m cy) 36
  rw [World.size_alloc] at this
  exact this
 have hbl:Below w.heap.size w w0:=by rw [hw0];exact (zAh _ _).trans ((zAh _ _).mono (by simp))
 have hsz0:w0.heap.size=w.heap.size+2:=by rw [hw0];simp
 have HSZ:=hidd hsz0
 clear hw0 hsz0
 have hXd:=(hX.mono hbl).drew
 have hYd:=(hY.mono hbl).drew
 have hcut:w.heap.size+2≤w0.heap.size:=by have:=HSZ.out;omega
 obtain ⟨ca0,ca1,_,_⟩:=hA
 obtain ⟨cb0,cb1,_,_⟩:=hB
 go_region_held3 (fun W=>w.heap.size+2≤W.heap.size∧(∀ b o,b<w.heap.size+2→W.cell? ⟨b,o,none⟩=w0.cell? ⟨b,o,none⟩)∧∀ b o,b<w.heap.size+2→W.frozen? ⟨b,o,none⟩=w0.frozen? ⟨b,o,none⟩)
  (first | exact Kept.start hcut | assumption | exact Kept.call (by assumption) (by assumption))
  (first | (go_at_call 38;(with_reducible refine (zIt _ _ _ _ _ _ hXd zm).mono ?_);rw [← HS'.out];rintro e w2 ⟨rfl,hB2⟩;have hY2:=hYd.mono hB2) | (go_at_call 38;(with_reducible refine (zIt _ _ _ _ _ _ hY2 zm).mono ?_);rw [← HT'.out];rintro e w3 ⟨rfl,hB3⟩))
 have hbl3:Below w.heap.size w w3:=(hbl.drew.trans (hB2.mono hbl.size)).trans (hB3.mono (Nat.le_trans hbl.size hB2.size))
 by_cases hst:s=t
 ·subst hst
  have hsb:(s != s)=false:=by simp
  have hX3:Sl w3 ax n cx xs:=(hXd.mono hB2).mono hB3
  have hY3:Sl w3 ay m cy ys:=hY2.mono hB3
  have hX3d:=hX3.drew
  have hY3d:=hY3.drew
  have da1:w3.cell? ⟨w.heap.size,1,none⟩=some (.slice ax n cx):=((hB3.cell (p:=⟨w.heap.size,1,none⟩) (by have:=HSZ.out;have:=hB2.size;simp at this;show w.heap.size<_;omega)).trans (hB2.cell (p:=⟨w.heap.size,1,none⟩) (by have:=HSZ.out;show w.heap.size<_;simp;omega))).trans ca1
  have db1:w3.cell? ⟨w.heap.size+1,1,none⟩=some (.slice ay m cy):=((hB3.cell (p:=⟨w.heap.size+1,1,none⟩) (by have:=HSZ.out;have:=hB2.size;simp at this;show w.heap.size+1<_;omega)).trans (hB2.cell (p:=⟨w.heap.size+1,1,none⟩) (by have:=HSZ.out;show w.heap.size+1<_;simp;omega))).trans cb1
  have hcut3:w.heap.size+2≤w3.heap.size:=by have:=hB2.size;have:=hB3.size;simp at *;omega
  obtain ⟨c,hc⟩:∃ c,c=cmpI (val xs) (val ys):=⟨_,rfl⟩
  have hcb:=zI3 (val xs) (val ys)
  rw [← hc] at hcb
  have hsc:s*c=r:=by rw [HS'.out,hc,HR'.out];exact cmp_same hx0 hy0 (by rw [← HS'.out,← HT'.out])
  have hsw:IntKind.i64.wrap (s*c)=r:=by
   rw [hsc,HR'.out]
   have:=zI3 (sgn na (val xs)) (sgn nb (val ys))
   exact IntWalk.i64_in _ zm
  have HC:=hidd hc
  clear hc hsc hXd hYd hcut hbl hB2 hB3 hY2
  go_wp2
  go_region_held3 (fun W=>w.heap.size+2≤W.heap.size∧(∀ b o,b<w.heap.size+2→W.cell? ⟨b,o,none⟩=w3.cell? ⟨b,o,none⟩)∧∀ b o,b<w.heap.size+2→W.frozen? ⟨b,o,none⟩=w3.frozen? ⟨b,o,none⟩)
   (first | exact Kept.start hcut3 | assumption | exact Kept.call (by assumption) (hd.below _))
   (first | (go_at_call 80;(with_reducible refine (zBm _ _ _ _ _ hX3d zm).mono ?_);rintro e w' ⟨m1,rfl,hm1,hs1,hv1,hc1,rfl⟩) | (go_at_call 80;(with_reducible refine (zBm _ _ _ _ _ hY3d zm).mono ?_);rintro e w' ⟨m2,rfl,hm2,hs2,hv2,hc2,rfl⟩) | (go_at_call 82;(with_reducible refine (zD6 _ _ _ _ _ _ _ _ _ hs1 hs2 hc1 hc2 zm zm).mono ?_);rw [hv1,hv2,← HC.out];rintro e w5 ⟨rfl,hd⟩))
  go_wp2
  go_ret
  exact ⟨rfl,hbl3.drew.trans (hd.below _)⟩
 ·have hsb:(s != t)=true:=by simp [hst]
  have hans:(if decide (s<t) then (-1:Int) else 1)=r:=by
   have h:=cmp_diff (a:=sgn na (val xs)) (b:=sgn nb (val ys)) (by rw [← HS'.out,← HT'.out];exact hst)
   rw [← HS'.out,← HT'.out,← HR'.out] at h
   simpa using h
  have HA:=hidd hans
  clear hans
  by_cases hlt:s<t
  ·have hr1:r=-1:=by have:=HA.out;simp [hlt] at this;exact this.symm
   have HR1:=hidd hr1
   clear hr1
   go_wp2_with (go_at_call 81;refine (zIb _ _).mono ?_;rintro e w' ⟨rfl,rfl⟩)
   go_ret
   exact ⟨by rw [HR1.out];rfl,hbl3⟩
  ·have hr1:r=1:=by have:=HA.out;simp [hlt] at this;exact this.symm
   have HR1:=hidd hr1
   have hlt':decide (s<t)=false:=by simp [hlt]
   clear hr1
   go_wp2_with (go_at_call 81;refine (zIb _ _).mono ?_;rintro e w' ⟨rfl,rfl⟩)
   go_ret
   exact ⟨by rw [HR1.out];rfl,hbl3⟩

theorem rtrim_any (w:World) (ax:Option Addr) (n c:Nat) (xs:List Int) (hX:Sl w ax n c xs) (hb:n≤4000000) :
  Calls Tryz.prog 99 #[.slice ax n c] w fun e w'=>∃ m,e=.returned (.slice ax m c)∧m≤n∧Sl w ax m c (xs.take m)∧val (xs.take m)=val xs∧Canon (xs.take m)∧w=w':=by
 have hn:=hidd hX.len
 have hx:=hX.cells
 have hnc:=hX.cap
 go_enter Tryz.func99,Tryz.ntmps99
 go_wp2
 go_loop [0] (fun v=>∃ k:Nat,k≤n∧v=.slice ax k c∧val (xs.take k)=val xs) (fun v=>match v with | .slice _ k _=>k | _=>0)
 case atStart=>exact ⟨n,Nat.le_refl _,rfl,zAw _ (by rw [hn.out];omega)⟩
 case round=>
  obtain ⟨k,hk,rfl,ht⟩:=hrel
  have HT:=hidd ht
  clear ht
  by_cases h0:0<k
  ·obtain ⟨b,off,rfl,hbl,x,hxc,hx0,hx1,HX⟩:=hx.at (k:=k-1) (by rw [hn.out];omega)
   have hkc:k-1≤c:=zm
   by_cases hz:x=0
   ·have hz1:(x == 0)=true:=by simp [hz]
    have HZ:=hidd hz
    clear hz
    go_wp2
    go_round
    case rel=>
     refine ⟨k-1,zm,by first | rfl | simp,?_⟩
     have e:=zAq xs (k-1)
     rw [show k-1+1=k from by omega,HX.out,HZ.out,HT.out] at e
     omega
    case measure=>first | omega | (simp;omega)
   ·have hz1:(x == 0)=false:=by simp [hz]
    go_wp2
    go_ret
    refine ⟨k,rfl,hk,hX.take hk,HT.out,⟨(hX.take hk).digs,.inr ?_⟩,rfl⟩
    have e:=zAq xs (k-1)
    rw [show k-1+1=k from by omega,HX.out] at e
    have h1:=zAm (hX.take (show k-1≤n by omega)).digs
    have h2:=Int.mul_le_mul_of_nonneg_left (show (1:Int)≤x by omega) (Int.le_of_lt (zA0 (k-1)))
    rw [(hX.take hk).len]
    omega
  ·obtain rfl:k=0:=zm
   go_wp2
   go_ret
   exact ⟨0,rfl,hk,hX.take hk,HT.out,⟨(hX.take hk).digs,.inl (by simp)⟩,rfl⟩

theorem zEe (w:World) (neg:Bool) (ax:Option Addr) (n c:Nat) (xs:List Int) (hX:Sl w ax n c xs) (hb:n≤4000000) :
  Calls Tryz.prog 47 #[.bool neg,.slice ax n c] w (zBc w (sgn neg (val xs))):=by
 obtain ⟨w0,hw0,hC,hCb⟩:∃ w0,w0=w.alloc (.cells #[.bool false,.slice none 0 0] 36)∧IntBox w0 w.heap.size (.bool false) (.slice none 0 0)∧Below w.heap.size w w0:=⟨_,rfl,box1 _ _,zAh _ _⟩
 go_enter Tryz.func47,Tryz.ntmps47
 go_wp2_with fail
 rw [← hw0]
 clear hw0
 refine (rtrim_any _ _ _ _ _ (hX.mono hCb) zm).mono ?_
 rintro e w' ⟨m,rfl,hm,hsm,hvm,hcm,rfl⟩
 have hml:=hsm.len
 have hz:=hcm.zero
 rw [hml,hvm] at hz
 have HVM:=hidd hvm
 clear hvm hml
 obtain ⟨e0,e1,e2,e3⟩:=hC
 by_cases hm0:m=0
 ·have HV:Hid (sgn neg (val xs)=0):=zNf neg (hz.1 hm0)
  clear hz
  subst hm0
  go_wp2
  refine bodyPost_ret (v:=.agg #[.bool false,.slice none 0 0]) ?_ rfl ?_
  ·simp [results,Tryz.results47,go_sem,e0,e1]
  ·exact zB7 ⟨e0,e1,e2,e3⟩ (Sl.nil _) ⟨fun _ hx=>by simp at hx,.inl rfl⟩ (fun h=>by cases h) HV.out hCb (Nat.le_refl _)
 ·have hm1:((m:Int) == 0)=false:=by simp;omega
  clear hz
  go_wp2
  refine bodyPost_ret (v:=.agg #[.bool neg,.slice ax m c]) ?_ rfl ?_
  ·simp [results,Tryz.results47,go_sem,e0,e1]
  ·exact zB7 ⟨e0,e1,e2,e3⟩ hsm hcm (fun _=>hm0) (by rw [HVM.out]) hCb (Nat.le_refl _)

theorem zXe (w:World) (na:Bool) (ax:Option Addr) (n cx:Nat) (xs:List Int) (hX:Sl w ax n cx xs) (hb1:n≤9223372036854775807) :
  Calls Tryz.prog 134 #[.agg #[.bool na,.slice ax n cx]] w fun e w'=>e=.returned (.bool (zFw na xs))∧Below w.heap.size w w':=by
 have hl:=hX.len
 by_cases h0:n=0
 ·have HV:Hid (zFw na xs=!na):=if_pos zm
  subst h0
  cases na
  ·go_enter Tryz.func134,Tryz.ntmps134
   go_wp2
   go_ret
   exact ⟨by rw [HV.out];rfl,zAh _ _⟩
  ·go_enter Tryz.func134,Tryz.ntmps134
   go_wp2
   go_ret
   exact ⟨by rw [HV.out];rfl,zAh _ _⟩
 ·obtain ⟨b,off,rfl,hbl,x,hxc,hx0,hx1,HX⟩:=hX.cells.at (k:=n-1) zm
  have HV:Hid (zFw na xs=(x != 0)):=(if_neg zm).trans (by rw [hl,HX.out])
  have h1:((n:Int) == 0)=false:=by simp;omega
  have hxc':(w.alloc (.cells #[.bool na,.slice (some ⟨b,off,none⟩) n cx] 36)).cell? ⟨b,off+(n-1),none⟩=some (.int .u32 x):=
   ((zAh w _).cell (p:=⟨b,off+(n-1),none⟩) hbl).trans hxc
  have hn0:0<n:=zm
  clear hl
  go_enter Tryz.func134,Tryz.ntmps134
  go_wp2
  go_ret
  exact ⟨by rw [HV.out];rfl,zAh _ _⟩

theorem zL0 (w:World) (t:TypeId) (ht:t=104) (q:Int) (hq0:0≤q) (hq1:q<18446744073709551616) :
  Sl (w.alloc (.cells #[.int .u32 (q % 4294967296),.int .u32 (q/4294967296)] t)) (some ⟨w.heap.size,0,none⟩) 2 2 [q % 4294967296,q/4294967296]∧Hid (val [q % 4294967296,q/4294967296]=q):=by
 subst ht
 have hr:Row (w.alloc (.cells #[.int .u32 (q % 4294967296),.int .u32 (q/4294967296)] 104)) 104 w.heap.size [q % 4294967296,q/4294967296]:=by
  refine ⟨fun x hx=>?_,?_⟩
  ·simp at hx
   unfold Dig
   rcases hx with rfl | rfl <;> omega
  ·rw [heap_alloc_new];rfl
 refine ⟨hr.sl (n:=2) rfl,?_⟩
 show _=_
 simp only [val];omega

theorem rOf_any (w:World) (z:Int) (h0:-9223372036854775808≤z) (h1:z≤9223372036854775807) :
  Calls Tryz.prog 20 #[.int .i64 z] w (zBc w z):=by
 obtain ⟨w0,hw0,hC,hCb⟩:∃ w0,w0=w.alloc (.cells #[.bool false,.slice none 0 0] 36)∧IntBox w0 w.heap.size (.bool false) (.slice none 0 0)∧Below w.heap.size w w0:=⟨_,rfl,box1 _ _,zAh _ _⟩
 have hs:=fun q=>zL0 w0 104 rfl q
 have hab:=fun o=>zAh w0 o
 by_cases hz:z<0
 ·have hq:IntKind.u64.wrap (-(IntKind.u64.wrap z))=-z:=by rw [zB3,zB3];omega
  have hq':IntKind.u64.wrap (-(z % 18446744073709551616))=-z:=by rw [zB3];omega
  obtain ⟨hs,hv⟩:=hs (-z) zm zm
  go_enter Tryz.func20,Tryz.ntmps20
  go_upto_region 1 with (fail)
  rw [← hw0]
  clear hw0
  go_wp2_with fail
  refine (zEe _ _ _ _ _ _ hs zm).mono ?_
  rintro e w3 ⟨v,rfl,⟨ng,ao,nn,cc,rs,rfl,hrs,hrc,hrn,hrz⟩,hb3⟩
  obtain ⟨e0,e1,e2,e3⟩:=(hC.mono (hab _) hC.lt).mono hb3 (Nat.lt_of_lt_of_le hC.lt (hab _).size)
  have HZ:Hid (z=sgn ng (val rs)):=by
   show _=_
   rw [← hrz,hv.out];simp [sgn]
  have hb4:Below w.heap.size w w3:=(hCb.trans ((hab _).mono hCb.size)).trans (hb3.mono (Nat.le_trans hCb.size (hab _).size))
  clear hrz hv hC hq hq'
  go_wp2
  refine bodyPost_ret (v:=.agg #[.bool ng,.slice ao nn cc]) ?_ rfl ?_
  ·simp [results,Tryz.results20,go_sem,e0,e1]
  ·exact zB7 ⟨e0,e1,e2,e3⟩ hrs hrc hrn HZ.out hb4 (Nat.le_refl _)
 ·have hq:IntKind.u64.wrap z=z:=by rw [zB3];omega
  obtain ⟨hs,hv⟩:=hs z zm zm
  go_enter Tryz.func20,Tryz.ntmps20
  go_upto_region 1 with (fail)
  rw [← hw0]
  clear hw0
  go_wp2_with fail
  refine (zEe _ _ _ _ _ _ hs zm).mono ?_
  rintro e w3 ⟨v,rfl,⟨ng,ao,nn,cc,rs,rfl,hrs,hrc,hrn,hrz⟩,hb3⟩
  obtain ⟨e0,e1,e2,e3⟩:=(hC.mono (hab _) hC.lt).mono hb3 (Nat.lt_of_lt_of_le hC.lt (hab _).size)
  have HZ:Hid (z=sgn ng (val rs)):=by
   show _=_
   rw [← hrz,hv.out];simp [sgn]
  have hb4:Below w.heap.size w w3:=(hCb.trans ((hab _).mono hCb.size)).trans (hb3.mono (Nat.le_trans hCb.size (hab _).size))
  clear hrz hv hC hq
  go_wp2
  refine bodyPost_ret (v:=.agg #[.bool ng,.slice ao nn cc]) ?_ rfl ?_
  ·simp [results,Tryz.results20,go_sem,e0,e1]
  ·exact zB7 ⟨e0,e1,e2,e3⟩ hrs hrc hrn HZ.out hb4 (Nat.le_refl _)

end Go.Proofs.YtjadciofpgjofaaGreatDoor
namespace Go.Proofs.YtjadciofpgjofaaGreatDoor
open Go Go.RowKit

def AllOps (R:Nat→Oper→Prop):List Oper→Nat→Prop
 | [],_=>True
 | o::os,k=>R k o∧AllOps R os (k+1)

theorem AllOps.at {R:Nat→Oper→Prop}:∀ {os:List Oper} {k:Nat},AllOps R os k→∀ (i:Nat) (o:Oper),os[i]?=some o→R (k+i) o
 | [],_,_,i,o,h=>by simp at h
 | o'::os,k,hh,0,o,h=>by simp at h;subst h;exact hh.1
 | o'::os,k,hh,i+1,o,h=>by
  have:=AllOps.at hh.2 i o (by simpa using h)
  rw [show k+1+i=k+(i+1) from by omega] at this
  exact this

theorem zHk {R:Nat→Oper→Prop} {os:List Oper} (h:AllOps R os 0) (i:Nat) (o:Oper) (ho:os.toArray[i]?=some o):R i o:=by
 have:=h.at i o (by simpa using ho)
 rwa [Nat.zero_add] at this

def zAy (ds:List (Option Tmp)):Bool:=match ds with
 | []=>true
 | none::r=>zAy r
 | some d::r=>!r.contains (some d) && zAy r

theorem zI0:∀ {ds:List (Option Tmp)},zAy ds=true→∀ (j k:Nat) (d:Tmp),j<k→ds[j]?=some (some d)→ds[k]?≠some (some d)
 | [],_,j,k,d,_,h=>by simp at h
 | none::r,hb,0,k,d,_,h=>by simp at h
 | none::r,hb,j+1,k+1,d,hjk,h=>by
  simp at h ⊢
  exact zI0 (by simpa [zAy] using hb) j k d zm h
 | some d'::r,hb,0,k+1,d,_,h=>by
  simp at h
  subst h
  simp [zAy] at hb
  simp
  intro e
  exact hb.1 (List.mem_of_getElem? e)
 | some d'::r,hb,j+1,k+1,d,hjk,h=>by
  simp [zAy] at hb
  simp at h ⊢
  exact zI0 hb.2 j k d zm h

theorem zE5 {os:List Oper} (h:zAy (os.map (·.dst))=true):zHh os.toArray:=by
 have key:∀ j d,zBq os.toArray j=some d→(os.map (·.dst))[j]?=some (some d):=fun j d hd=>by
  unfold zBq at hd
  simp at hd ⊢
  cases ho:os[j]? with
  | none=>simp [ho] at hd
  | some o=>simp [ho] at hd ⊢;exact hd
 intro j k d hne hj hk
 have h1:=key j d hj
 have h2:=key k d hk
 rcases Nat.lt_or_gt_of_ne hne with hlt | hlt
 ·exact zI0 h j k d hlt h1 h2
 ·exact zI0 h k j d hlt h2 h1

def zDr:List Oper→Nat→Bool
 | [],_=>true
 | o::os,k=>o.after.toList.all (fun e=>!Region.binds .any e || decide (e.on<k)) && zDr os (k+1)

theorem zN5:∀ {os:List Oper} {k:Nat},zDr os k=true→AllOps (fun i o=>∀ e∈o.after,Region.binds .any e=true→e.on<i) os k
 | [],_,_=>trivial
 | o::os,k,h=>by
  simp only [zDr,Bool.and_eq_true] at h
  refine ⟨fun e he hb=>?_,zN5 h.2⟩
  have:=List.all_eq_true.1 h.1 e (by simpa using he)
  simpa [hb] using this

theorem zFz {os:List Oper} (h:zDr os 0=true):∀ i o,os.toArray[i]?=some o→∀ e∈o.after,Region.binds .any e=true→e.on<i:=fun i o ho=>zHk (zN5 h) i o ho

theorem IsInt.num {w:World} {v:Value} {z:Int} (h:IsInt w v z) {k:Nat} (hk:k≤900000) (hz:(z.natAbs:Int)<pw k):Num w v z:=by
 obtain ⟨neg,ao,n,c,xs,hv,hs,hc,hn,hz'⟩:=h
 have h0:=zAm hs.digs
 have h1:val xs<pw k:=by
  subst hz'
  cases neg <;> simp [sgn] at hz <;> omega
 have h2:=hc.length_le h1
 rw [hs.len] at h2
 exact ⟨neg,ao,n,c,xs,hv,hs,zm,hz',hc,hn⟩

theorem Num.isInt {w:World} {v:Value} {z:Int} (h:Num w v z):IsInt w v z:=by
 obtain ⟨neg,ao,n,c,xs,hv,hs,hn,hz,hc,hnn⟩:=h
 exact ⟨neg,ao,n,c,xs,hv,hs,hc,hnn,hz⟩

theorem Num.lt {w:World} {v:Value} {z:Int} (h:Num w v z):(z.natAbs:Int)<pw 900000:=by
 obtain ⟨neg,ao,n,c,xs,hv,hs,hn,hz,_⟩:=h
 have h0:=zAm hs.digs
 have h1:=zBa hs.digs
 have h2:=zBu (show xs.length≤900000 by rw [hs.len];exact hn)
 subst hz
 cases neg <;> simp [sgn] <;> omega

theorem AbsV {w:World} {v:Value} {z:Int} (h:Num w v z):Calls Tryz.prog 117 #[v] w (zBc w z.natAbs):=by
 obtain ⟨neg,ao,n,c,xs,rfl,hs,hn,rfl,_⟩:=h
 have h0:=zAm hs.digs
 have e:((sgn neg (val xs)).natAbs:Int)=val xs:=by cases neg <;> simp [sgn] <;> omega
 rw [e]
 exact Abs_any _ _ _ _ _ _ hs zm

theorem SignV {w:World} {v:Value} {z:Int} (h:Num w v z):Calls Tryz.prog 38 #[v] w fun e w'=>e=.returned (.int .i64 (cmpI z 0))∧Below w.heap.size w w':=by
 obtain ⟨neg,ao,n,c,xs,rfl,hs,hn,rfl,_⟩:=h
 exact zIt _ _ _ _ _ _ hs zm

theorem MulV {w:World} {v v':Value} {z z':Int} (h:Num w v z) (h':Num w v' z'):Calls Tryz.prog 34 #[v,v'] w (zBc w (z*z')):=by
 obtain ⟨neg,ao,n,c,xs,rfl,hs,hn,rfl,_⟩:=h
 obtain ⟨neg',ao',n',c',xs',rfl,hs',hn',rfl,_⟩:=h'
 exact Mul_any _ _ _ _ _ _ _ _ _ _ _ hs hs' zm zm

theorem SubV {w:World} {v v':Value} {z z':Int} (h:Num w v z) (h':Num w v' z'):Calls Tryz.prog 72 #[v,v'] w (zBc w (z-z')):=by
 obtain ⟨neg,ao,n,c,xs,rfl,hs,hn,rfl,_⟩:=h
 obtain ⟨neg',ao',n',c',xs',rfl,hs',hn',rfl,_⟩:=h'
 exact Sub_any _ _ _ _ _ _ _ _ _ _ _ hs hs' zm zm

theorem zHj {w:World} {v v':Value} {z z':Int} (h:Num w v z) (h':Num w v' z'):Calls Tryz.prog 37 #[v,v'] w (zIs w z z'):=by
 obtain ⟨neg,ao,n,c,xs,rfl,hs,hn,rfl,_⟩:=h
 obtain ⟨neg',ao',n',c',xs',rfl,hs',hn',rfl,_⟩:=h'
 exact zSw _ _ _ _ _ _ _ _ _ _ _ hs hs' zm zm

section
variable {os : List Oper} {Q : Exit → Act → World → Prop} {a : Act} {p : Plan} {B B0 : Nat} {w0 : World}

def Step (os:List Oper) (Q:Exit→Act→World→Prop) (a:Act) (p:Plan) (B B0:Nat) (w0:World) (i:Nat) (o:Oper):Prop:=
 os.toArray[i]?=some o→∀ L vs w,p.G B B0 w0 L vs w→L i=false→(∀ e∈o.after,Region.binds .any e=true→L e.on=true)→zDb os.toArray L →
  wpOp Tryz.prog os.toArray Q i (fun a' w'=>∃ v,a'=(lay os.toArray L vs os.toArray.size a).put o.dst v∧p.G B B0 w0 (up L i true) (up vs i v) w') (lay os.toArray L vs os.toArray.size a) w

theorem zC1 {id:Nat} {w:World} (hm:Tryz.prog.follows .mixedOrders=true) (ha:zAy (os.map (·.dst))=true) (hb:zDr os 0=true) (h0:p.G B B0 w0 (fun _=>false) (fun _=>undef) w.drew)
  (hs:AllOps (Step os Q a p B B0 w0) os 0)
  (hf:∀ L vs w,(∀ j,j<os.length→L j=true)→p.G B B0 w0 L vs w→Q .normal (lay os.toArray L vs os.length a) w):(Code.region id os.toArray true).wp Tryz.prog Q a w:=by
 refine zKw hm (zE5 ha) (zFz hb) (p.G B B0 w0) h0 ?_ ?_
 ·intro i o ho
  exact zHk hs i o ho ho
 ·intro L vs w hL hG
  have:=hf L vs w (by simpa using hL) hG
  simpa using this

def depB (o:Oper) (j:Nat):Bool:=o.after.toList.any fun e=>Region.binds .any e && e.on == j

theorem zE7 {o:Oper} {j:Nat} {L:Nat→Bool} (h:depB o j=true) (hd:∀ e∈o.after,Region.binds .any e=true→L e.on=true):L j=true:=by
 obtain ⟨e,he,h1⟩:=List.any_eq_true.1 h
 simp only [Bool.and_eq_true,beq_iff_eq] at h1
 rw [← h1.2]
 exact hd e (by simpa using he) h1.1

def zBo (os:List Oper):Nat→Nat→Nat→Bool
 | 0,_,_=>false
 | f+1,k,i=>match os[k]? with
  | none=>false
  | some o=>o.after.toList.any fun e=>Region.binds .any e && (e.on == i || zBo os f e.on i)

theorem zP2 {L:Nat→Bool} (hc:zDb os.toArray L):∀ {f k i:Nat},zBo os f k i=true→L k=true→L i=true
 | 0,_,_,h,_=>by simp [zBo] at h
 | f+1,k,i,h,hk=>by
  unfold zBo at h
  cases ho:os[k]? with
  | none=>simp [ho] at h
  | some o=>
   simp only [ho] at h
   obtain ⟨e,he,h1⟩:=List.any_eq_true.1 h
   simp only [Bool.and_eq_true,Bool.or_eq_true,beq_iff_eq] at h1
   have h2:=hc k o (by simpa using ho) hk e (by simpa using he) h1.1
   rcases h1.2 with h3 | h3
   ·rw [← h3];exact h2
   ·exact zP2 hc h3 h2

theorem zFm {L:Nat→Bool} (hc:zDb os.toArray L) {f k i:Nat} (h:zBo os f k i=true) (hi:L i=false):L k=false:=by
 cases hk:L k
 ·rfl
 ·rw [zP2 hc h hk] at hi;cases hi

theorem zJ2 {L:Nat→Bool} {vs:Nat→Value} {s:Tmp} (h:(os.map (·.dst)).contains (some s)=false) (k:Nat):(lay os.toArray L vs k a).eval (.tmp s)=a.eval (.tmp s):=by
 refine zJ1 _ _ fun j _ _ hd=>?_
 have hm:some s∈os.map (·.dst):=by
  unfold zBq at hd
  simp at hd
  cases ho:os[j]? with
  | none=>simp [ho] at hd
  | some o=>
   simp [ho] at hd
   exact List.mem_map.2 ⟨o,List.mem_of_getElem? ho,hd⟩
 have:=List.contains_iff_mem.2 hm
 rw [h] at this
 cases this

theorem zC8 {L:Nat→Bool} {vs:Nat→Value} {s:Tmp} {j:Nat} (ha:zAy (os.map (·.dst))=true) (hL:L j=true) (hj:(os.map (·.dst))[j]?=some (some s)) (hs:s<a.tmps.size):(lay os.toArray L vs os.toArray.size a).eval (.tmp s)=vs j:=by
 refine zL5 (zE5 ha) hL ?_ _ _ ?_ hs
 ·unfold zBq
  simp at hj ⊢
  cases ho:os[j]? with
  | none=>simp [ho] at hj
  | some o=>simp [ho] at hj ⊢;exact hj
 ·have:=(List.getElem?_eq_some_iff.1 hj).1
  simpa using this

def Plan.Free (p:Plan) (i:Nat):Prop:=(∀ o∈p.old,o.2.1≠i)∧∀ n∈p.new,n.1≠i∧n.2.1≠i

variable {i s : Nat} {d : Option Tmp} {ty : TypeId} {ps : String} {af : Array Edge}

theorem zA7 {b k:Nat} {z z':Int} (hp:p.Ok B B0) (hi:(b,k,z,z')∈p.old) (hk:z=z'∨zBo os 9 k i=true) (hx:a.eval (.tmp s)=.pointer (some ⟨b,0,none⟩)) (ho:(os.map (·.dst)).contains (some s)=false)
  (hC:∀ v w,Num w v z→p.C i v w) (hF:p.Free i):Step os Q a p B B0 w0 i { dst:=d,op:=.load 36 (.tmp s),type:=ty,pos:=ps,after:=af,guard:=none }:=by
 intro hio L vs w hG hL hd hc
 have hbx:BoxNum w b z:=by
  have:=hG.old _ hi
  rcases hk with rfl | hk
  ·simpa using this
  ·simpa [zFm hc hk hL] using this
 obtain ⟨n,ao,kk,c,⟨c0,c1,_,_⟩,hN⟩:=hbx
 exact op_load hio ((zJ2 ho _).trans hx) c0 c1 ⟨_,rfl,hG.plain hp hL (Below.refl _ _) (hC _ _ hN) hF.1 hF.2⟩

theorem st_move {j:Nat} (hp:p.Ok B B0) (ha:zAy (os.map (·.dst))=true) (hj:(os.map (·.dst))[j]?=some (some s)) (hs:s<a.tmps.size) (hdep:(af.toList.any fun e=>Region.binds .any e && e.on == j)=true)
  (hC:∀ v w,p.C j v w→p.C i v w) (hF:p.Free i):Step os Q a p B B0 w0 i { dst:=d,op:=.move (.tmp s),type:=ty,pos:=ps,after:=af,guard:=none }:=by
 intro hio L vs w hG hL hd hc
 have hLj:L j=true:=zE7 (o:={ dst:=d,op:=.move (.tmp s),type:=ty,pos:=ps,after:=af,guard:=none }) hdep hd
 exact op_move hio (zC8 ha hLj hj hs) ⟨_,rfl,hG.plain hp hL (Below.refl _ _) (hC _ _ (hG.val j hLj)) hF.1 hF.2⟩

theorem zSb {j:Nat} (hp:p.Ok B B0) (ha:zAy (os.map (·.dst))=true) (hj:(os.map (·.dst))[j]?=some (some s)) (hs:s<a.tmps.size) (hdep:(af.toList.any fun e=>Region.binds .any e && e.on == j)=true)
  (hC:∀ v w,p.C j v w→p.C i v w) (hF:p.Free i):Step os Q a p B B0 w0 i { dst:=d,op:=.assign (.tmp s),type:=ty,pos:=ps,after:=af,guard:=none }:=by
 intro hio L vs w hG hL hd hc
 have hLj:L j=true:=zE7 (o:={ dst:=d,op:=.assign (.tmp s),type:=ty,pos:=ps,after:=af,guard:=none }) hdep hd
 exact op_assign hio (zC8 ha hLj hj hs) ⟨_,rfl,hG.plain hp hL (Below.refl _ _) (hC _ _ (hG.val j hLj)) hF.1 hF.2⟩

theorem zHe {j k:Nat} (hp:p.Ok B B0) (ha:zAy (os.map (·.dst))=true) (hj:(os.map (·.dst))[j]?=some (some s)) (hs:s<a.tmps.size) (hdep:(af.toList.any fun e=>Region.binds .any e && e.on == j)=true)
  (hC:∀ v w,p.C j v w→∃ us u,v=.tuple us∧us[k]?=some u∧p.C i u w) (hF:p.Free i):Step os Q a p B B0 w0 i { dst:=d,op:=.extract (.tmp s) k,type:=ty,pos:=ps,after:=af,guard:=none }:=by
 intro hio L vs w hG hL hd hc
 have hLj:L j=true:=zE7 (o:={ dst:=d,op:=.extract (.tmp s) k,type:=ty,pos:=ps,after:=af,guard:=none }) hdep hd
 obtain ⟨us,u,e1,e2,e3⟩:=hC _ _ (hG.val j hLj)
 exact zWp hio ((zC8 ha hLj hj hs).trans e1) e2 ⟨_,rfl,hG.plain hp hL (Below.refl _ _) e3 hF.1 hF.2⟩

theorem zKr {j:Nat} {f:FuncId} {ts:Array TypeId} (hp:p.Ok B B0) (ha:zAy (os.map (·.dst))=true) (hj:(os.map (·.dst))[j]?=some (some s)) (hs:s<a.tmps.size) (hdep:(af.toList.any fun e=>Region.binds .any e && e.on == j)=true)
  (hen:∀ args w,(callFunc f args).run Tryz.prog w=.ok (.enter f args) w) (hC:∀ v w,p.C j v w→Calls Tryz.prog f #[v] w fun e w'=>∃ v',e=.returned v'∧Below w.heap.size w w'∧p.C i v' w') (hF:p.Free i) :
  Step os Q a p B B0 w0 i { dst:=d,op:=.call { callee:=.value (.func f),args:=#[.tmp s],argTypes:=ts },type:=ty,pos:=ps,after:=af,guard:=none }:=by
 intro hio L vs w hG hL hd hc
 have hLj:L j=true:=zE7 (o:={ dst:=d,op:=.call { callee:=.value (.func f),args:=#[.tmp s],argTypes:=ts },type:=ty,pos:=ps,after:=af,guard:=none }) hdep hd
 refine op_call hio (args:=#[vs j]) (by have e:=zC8 (vs:=vs) ha hLj hj hs;simp at e ⊢;exact e) hen ((hC _ _ (hG.val j hLj)).mono ?_)
 rintro e w' ⟨v',rfl,hb,h⟩
 exact ⟨v',rfl,v',rfl,hG.plain hp hL hb h hF.1 hF.2⟩

theorem zHd {j j' s':Nat} {f:FuncId} {ts:Array TypeId} (hp:p.Ok B B0) (ha:zAy (os.map (·.dst))=true) (hj:(os.map (·.dst))[j]?=some (some s)) (hs:s<a.tmps.size) (hdep:(af.toList.any fun e=>Region.binds .any e && e.on == j)=true)
  (hj':(os.map (·.dst))[j']?=some (some s')) (hs':s'<a.tmps.size) (hdep':(af.toList.any fun e=>Region.binds .any e && e.on == j')=true)
  (hen:∀ args w,(callFunc f args).run Tryz.prog w=.ok (.enter f args) w) (hC:∀ v v' w,p.C j v w→p.C j' v' w→Calls Tryz.prog f #[v,v'] w fun e w'=>∃ v',e=.returned v'∧Below w.heap.size w w'∧p.C i v' w') (hF:p.Free i) :
  Step os Q a p B B0 w0 i { dst:=d,op:=.call { callee:=.value (.func f),args:=#[.tmp s,.tmp s'],argTypes:=ts },type:=ty,pos:=ps,after:=af,guard:=none }:=by
 intro hio L vs w hG hL hd hc
 have hLj:L j=true:=zE7 (o:={ dst:=d,op:=.call { callee:=.value (.func f),args:=#[.tmp s,.tmp s'],argTypes:=ts },type:=ty,pos:=ps,after:=af,guard:=none }) hdep hd
 have hLj':L j'=true:=zE7 (o:={ dst:=d,op:=.call { callee:=.value (.func f),args:=#[.tmp s,.tmp s'],argTypes:=ts },type:=ty,pos:=ps,after:=af,guard:=none }) hdep' hd
 refine op_call hio (args:=#[vs j,vs j']) (by have e:=zC8 (vs:=vs) ha hLj hj hs;have e':=zC8 (vs:=vs) ha hLj' hj' hs';simp at e e' ⊢;exact ⟨e,e'⟩) hen ((hC _ _ _ (hG.val j hLj) (hG.val j' hLj')).mono ?_)
 rintro e w' ⟨v',rfl,hb,h⟩
 exact ⟨v',rfl,v',rfl,hG.plain hp hL hb h hF.1 hF.2⟩

theorem zGo {k:Nat} {z:Int} (hp:p.Ok B B0) (hi:(i,k,z)∈p.new) (hk:zBo os 9 k i=true) (hC:∀ v w',p.C i v w') (h1:∀ o∈p.old,o.2.1≠i) (h2:∀ n∈p.new,n.2.1≠i) :
  Step os Q a p B B0 w0 i { dst:=d,op:=.alloc 36,type:=ty,pos:=ps,after:=af,guard:=none }:=by
 intro hio L vs w hG hL hd hc
 exact zQx hio ⟨_,rfl,hG.alloc hp hL (zFm hc hk hL) hi hC h1 (fun n hn=>⟨h2 n hn,fun e=>hp.newinj n hn _ hi e⟩) _⟩

theorem Num.parts {w:World} {v:Value} {z:Int} (h:Num w v z):∃ n ao k c,v=.agg #[.bool n,.slice ao k c]:=by
 obtain ⟨neg,ao,n,c,xs,rfl,_⟩:=h
 exact ⟨_,_,_,_,rfl⟩

theorem zGp {i0 j s':Nat} {z:Int} (hp:p.Ok B B0) (ha:zAy (os.map (·.dst))=true) (hi:(i0,i,z)∈p.new) (hj0:(os.map (·.dst))[i0]?=some (some s)) (hs0:s<a.tmps.size) (hdep0:(af.toList.any fun e=>Region.binds .any e && e.on == i0)=true)
  (hj:(os.map (·.dst))[j]?=some (some s')) (hs:s'<a.tmps.size) (hdep:(af.toList.any fun e=>Region.binds .any e && e.on == j)=true) (hN:∀ v w,p.C j v w→Num w v z) (hC:∀ v w',p.C i v w') (h1:∀ o∈p.old,o.2.1≠i)
  (h2:∀ n∈p.new,n.1≠i∧(n.2.1=i→n.1=i0)):Step os Q a p B B0 w0 i { dst:=none,op:=.store 36 (.tmp s) (.tmp s'),type:=ty,pos:=ps,after:=af,guard:=none }:=by
 intro hio L vs w hG hL hd hc
 have hLi:L i0=true:=zE7 (o:={ dst:=none,op:=.store 36 (.tmp s) (.tmp s'),type:=ty,pos:=ps,after:=af,guard:=none }) hdep0 hd
 have hLj:L j=true:=zE7 (o:={ dst:=none,op:=.store 36 (.tmp s) (.tmp s'),type:=ty,pos:=ps,after:=af,guard:=none }) hdep hd
 obtain ⟨b,e1,e2,e3⟩:=hG.new _ hi hLi
 have hNv:=hN _ _ (hG.val j hLj)
 obtain ⟨n',a',k',c',hv⟩:=hNv.parts
 obtain ⟨_,_,_,_,hI,_⟩:=e3
 rw [hv] at hNv
 exact zMn hio ((zC8 ha hLi hj0 hs0).trans e1) ((zC8 ha hLj hj hs).trans hv) hI ⟨undef,rfl,hG.storeNew hp hL hi hLi hNv hC h1 (fun n hn=>⟨(h2 n hn).1,fun e=>hp.newinj n hn _ hi ((h2 n hn).2 e)⟩) e1 _⟩

theorem zB2 {b j s':Nat} {z z':Int} (hp:p.Ok B B0) (ha:zAy (os.map (·.dst))=true) (hi:(b,i,z,z')∈p.old) (hx:a.eval (.tmp s)=.pointer (some ⟨b,0,none⟩)) (ho:(os.map (·.dst)).contains (some s)=false)
  (hj:(os.map (·.dst))[j]?=some (some s')) (hs:s'<a.tmps.size) (hdep:(af.toList.any fun e=>Region.binds .any e && e.on == j)=true) (hN:∀ v w,p.C j v w→Num w v z') (hC:∀ v w',p.C i v w') (h1:∀ o∈p.old,o.2.1=i→o=(b,i,z,z'))
  (h2:∀ n∈p.new,n.1≠i∧n.2.1≠i):Step os Q a p B B0 w0 i { dst:=none,op:=.store 36 (.tmp s) (.tmp s'),type:=ty,pos:=ps,after:=af,guard:=none }:=by
 intro hio L vs w hG hL hd hc
 have hLj:L j=true:=zE7 (o:={ dst:=none,op:=.store 36 (.tmp s) (.tmp s'),type:=ty,pos:=ps,after:=af,guard:=none }) hdep hd
 have hNv:=hN _ _ (hG.val j hLj)
 obtain ⟨n',a',k',c',hv⟩:=hNv.parts
 obtain ⟨_,_,_,_,hI,_⟩:=hG.old _ hi
 rw [hv] at hNv
 exact zMn hio ((zJ2 ho _).trans hx) ((zC8 ha hLj hj hs).trans hv) hI ⟨undef,rfl,hG.storeOld hp hi hNv hC h1 h2 _⟩

end

end Go.Proofs.YtjadciofpgjofaaGreatDoor
