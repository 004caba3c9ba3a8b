/- Walks of the package cowtree and of what it stands on: lemmas, made short. -/
import Derived.Test.YtdcpfbidcpfboaaGreatDoorR1
import Derived.Lib.Bytealg
import Derived.Lib.Strings
import Derived.Shelf.GgSortFunc.RowK
import Derived.Shelf.SlicesE.Kit
import Derived.Shelf.SlSortCmp.QuietGrown
import Derived.Lib.SliceRun
import Derived.Laws.AppendOwnNone
import Derived.WalkKit
import Derived.WalkSpells
import Derived.WalkLawsBesides
import Derived.Deep.RegionHeld3
import Derived.Test.YtdcpfbidcpfboaaGreatDoorProg
import Derived.ArgAppend
import Derived.Deep.RegionLaw
import Derived.Laws.OwnMore
import Derived.Deep.LoopGhost
import Derived.BigQuiet
import Derived.Deep.QuietTactic
import Derived.Deep.DeepCutAuto
import Derived.Deep.Slices
import Derived.ProofKit
import Derived.OpenShut
import Derived.ChangeOld
import Derived.Below
import Derived.ChangeSlices
set_option maxHeartbeats 16000000
set_option maxRecDepth 100000
set_option linter.unusedVariables false
set_option linter.unusedSimpArgs false
namespace Go.Proofs.YtdcpfbidcpfboaaGreatDoor
open Go.Shelf Go.RowKit Go.Lib Go.Sort
namespace N
section
open Go.RowKit
def rq (s:ByteArray):List UInt8:=if s.size<=255 then UInt8.ofNat s.size::s.data.toList else []
def ru (s:ByteArray):Int:=if s.size<=255 then 0 else 1
theorem rv (s:ByteArray)(w:World)(hs:s.size<=maxLen):
  Calls Tryz.prog 178 #[.string s] w fun r w'=>r=.returned (.tuple #[.string ⟨(rq s).toArray⟩,.int .i64 (ru s)])∧Below w.heap.size w w':=by
 unfold maxLen at hs;by_cases h:s.size<=255
 ·have e1:gY 1 (s.size:Int)=[UInt8.ofNat s.size]:=by
   have:fH 1 (s.size:Int)=true:=by simp[fH,bT];omega
   have e:s.size%256=s.size:=by omega
   simp[gY,this,beBytes,e]
  have e2:jn 1 (s.size:Int)=0:=by
   have:fH 1 (s.size:Int)=true:=by simp[fH,bT];omega
   simp[jn,this]
  have e3:Hid (rq s=UInt8.ofNat s.size::s.data.toList):=by simp[Hid,rq,h]
  have e4:Hid (ru s=0):=by simp[Hid,ru,h]
  have P:=jo 1 (s.size:Int) w;rw[e1,e2]at P;clear e1 e2;have C:Hid _:=P;clear P;go_enter Tryz.func178,Tryz.ntmps178
  go_wp2_with (go_at_call 77;refine Calls.mono C.out ?_;rintro e w1 ⟨rfl,hb⟩)
  refine(Oz ⟨#[UInt8.ofNat s.size]⟩ s w1 (by show 1+s.size<=_;omega)).mono ?_;rintro e w2 ⟨rfl,hb2⟩;go_wp2;go_ret2;rw[e3.out,e4.out];exact⟨by simp,hb.trans (hb2.mono hb.size)⟩
 ·have e1:gY 1 (s.size:Int)=[]:=by
   have:fH 1 (s.size:Int)=false:=by simp[fH];omega
   simp[gY,this]
  have e2:jn 1 (s.size:Int)=1:=by
   have:fH 1 (s.size:Int)=false:=by simp[fH];omega
   simp[jn,this]
  have e3:Hid (rq s=[]):=by simp[Hid,rq,h]
  have e4:Hid (ru s=1):=by simp[Hid,ru,h]
  have P:=jo 1 (s.size:Int) w;rw[e1,e2]at P;clear e1 e2;have C:Hid _:=P;clear P;go_enter Tryz.func178,Tryz.ntmps178
  go_wp2_with (go_at_call 77;refine Calls.mono C.out ?_;rintro e w1 ⟨rfl,hb⟩)
  go_ret2;rw[e3.out,e4.out];exact⟨rfl,hb⟩
def a8 (s:ByteArray)(e:Int):ByteArray×ByteArray×Int:=aM (bn s e 1).2.1 (bn s e 1).2.2 (bn s e 1).1
theorem nR (b:Nat)(s:ByteArray)(e:Int)(w:World)(h:Rd b s e w):
  Calls Tryz.prog 220 #[.pointer (some ⟨b,0,none⟩)] w fun r w'=>r=.returned (.string (a8 s e).1)∧Rd b (a8 s e).2.1 (a8 s e).2.2 w'∧Only b w w':=by
 have C:Hid _:=jm b s e 1 w h;clear h;unfold a8;generalize bn s e 1=t at*;obtain⟨n,s1,e1⟩:=t;go_enter Tryz.func220,Tryz.ntmps220
 go_wp2_with (go_at_call 81;refine Calls.mono C.out ?_;rintro e w1 ⟨rfl,hr,ho⟩)
 refine(gP b s1 e1 n w1 hr).mono ?_;rintro r w2 ⟨rfl,hr2,ho2⟩;go_wp2;go_ret;exact⟨rfl,hr2,ho.trans ho2⟩
theorem lD (c:UInt8)(l r:List UInt8)(h:c.toNat=l.length):a8 ⟨(c::(l++r)).toArray⟩ 0=(⟨l.toArray⟩,⟨r.toArray⟩,0):=by
 have e:=ei [c] (l++r) 1 rfl rfl;unfold a8;rw[List.singleton_append]at e;rw[e];exact eQ l r _ (by simp[beNat,h])
theorem lF (s:ByteArray)(e:Int)(h:(a8 s e).2.2=0):
  e=0∧∃(c:UInt8) (l r:List UInt8),s=⟨(c::(l++r)).toArray⟩∧c.toNat=l.length∧a8 s e=(⟨l.toArray⟩,⟨r.toArray⟩,0):=by
 have h1:=oU _ _ _ h;obtain⟨he1,l,r,hs1,hn,hr⟩:=h1;obtain⟨he,_,l1,r1,hs,hl1,hi⟩:=iK s e 1 he1;refine⟨he,?_⟩;rw[hi]at hs1 hn
 match l1,hl1 with
 |[c],_=>
  refine⟨c,l,r,?_,?_,?_⟩
  ·have:r1=l++r:=by
    have:=congrArg (fun b:ByteArray=>b.data.toList) hs1;simpa using this
   rw[hs,this];rfl
  ·simp[beNat]at hn;omega
  ·exact hr
end
section
abbrev En:=ByteArray×ByteArray
def bp (a b:ByteArray):Bool:=Op.bytesLess a.toList b.toList
theorem uw:∀x:List UInt8,Op.bytesLess x x=false
 |[]=>rfl
 |a::x=>by simp[Op.bytesLess,uw x]
theorem xS:∀x y z:List UInt8,Op.bytesLess x y=true->Op.bytesLess y z=true->Op.bytesLess x z=true
 |_,_,[]=>by intro h1 h2;cases ‹List UInt8› <;>simp[Op.bytesLess]at h2
 |_,[],_::_=>by intro h1;cases ‹List UInt8› <;>simp[Op.bytesLess]at h1
 |[],_::_,_::_=>by intros;rfl
 |a::x,b::y,c::z=>by
  intro h1 h2;simp only[Op.bytesLess,Bool.or_eq_true,decide_eq_true_eq,Bool.and_eq_true,beq_iff_eq]at h1 h2⊢;rcases h1 with h1| ⟨rfl,h1⟩
  ·rcases h2 with h2| ⟨rfl,h2⟩
   ·left;rw[UInt8.lt_iff_toNat_lt]at*;omega
   ·exact Or.inl h1
  ·rcases h2 with h2| ⟨rfl,h2⟩
   ·exact Or.inl h2
   ·exact Or.inr ⟨rfl,xS x y z h1 h2⟩
theorem Ge:∀x y:List UInt8,Op.bytesLess x y=false->Op.bytesLess y x=false->x=y
 |[],[]=>fun _ _=>rfl
 |[],_::_=>fun h _=>by simp[Op.bytesLess]at h
 |_::_,[]=>fun _ h=>by simp[Op.bytesLess]at h
 |a::x,b::y=>fun h1 h2=>by
  simp only[Op.bytesLess,Bool.or_eq_false_iff,decide_eq_false_iff_not,Bool.and_eq_false_iff,beq_eq_false_iff_ne]at h1 h2;have e:a=b:=by
   apply UInt8.toNat_inj.1;have:=h1.1;have:=h2.1;rw[UInt8.lt_iff_toNat_lt]at*;omega
  subst e;have h3:=h1.2.resolve_left (by simp);have h4:=h2.2.resolve_left (by simp);rw[Ge x y h3 h4]
theorem z6:∀x y:List UInt8,(Lib.compareBytes x y<0↔Op.bytesLess x y=true)∧(Lib.compareBytes x y=0↔x=y)
 |[],[]=>by simp[Lib.compareBytes,Op.bytesLess]
 |[],_::_=>by simp[Lib.compareBytes,Op.bytesLess]
 |_::_,[]=>by simp[Lib.compareBytes,Op.bytesLess]
 |a::x,b::y=>by
  have ih:=z6 x y;rcases Nat.lt_trichotomy a.toNat b.toNat with c|c|c
  ·have e1:a<b:=UInt8.lt_iff_toNat_lt.2 c;have e2:a≠b:=by intro e;subst e;omega
   simp[Lib.compareBytes,Op.bytesLess,e1,e2]
  ·have e1:a=b:=UInt8.toNat_inj.1 c;subst e1;simp[Lib.compareBytes,Op.bytesLess,ih]
  ·have e1:¬a<b:=by rw[UInt8.lt_iff_toNat_lt];omega
   have e2:a≠b:=by intro e;subst e;omega
   have e3:b<a:=UInt8.lt_iff_toNat_lt.2 c;simp[Lib.compareBytes,Op.bytesLess,e1,e2,e3]
theorem gJ {a b:ByteArray}(h:a.toList=b.toList):a=b:=by
 rw[Lib.toList_data,Lib.toList_data]at h;exact ByteArray.ext (Array.toList_inj.1 h)
theorem dh (a:ByteArray):bp a a=false:=uw _
theorem cQ {a b c:ByteArray}(h1:bp a b=true)(h2:bp b c=true):bp a c=true:=xS _ _ _ h1 h2
theorem Lj {a b:ByteArray}(h1:bp a b=false)(h2:bp b a=false):a=b:=gJ (Ge _ _ h1 h2)
theorem fN {a b:ByteArray}(h:bp a b=true):a≠b:=by intro e;rw[e,dh]at h;cases h
theorem gR {a b:ByteArray}(h:bp a b=true):bp b a=false:=by
 cases e:bp b a
 ·rfl
 ·have:=cQ h e;rw[dh]at this;cases this
theorem hZ {a b:ByteArray}(h:bp a b=false)(hne:a≠b):bp b a=true:=by
 cases e:bp b a
 ·exact absurd (Lj h e) hne
 ·rfl
theorem gK {a b c:ByteArray}(h1:bp a b=false)(h2:bp c b=true):bp c a=true:=by
 by_cases e:a=b
 ·rw[e];exact h2
 ·exact cQ h2 (hZ h1 e)
def ry (a b:ByteArray):Int:=Lib.compareBytes a.data.toList b.data.toList
theorem BL (a b:ByteArray):ry a b<0↔bp a b=true:=by
 unfold ry bp;rw[Lib.toList_data,Lib.toList_data];exact(z6 _ _).1
theorem BM (a b:ByteArray):ry a b=0↔a=b:=by
 unfold ry;rw[(z6 _ _).2];exact⟨fun h=>ByteArray.ext (Array.toList_inj.1 h),fun h=>by rw[h]⟩
def cM (k v:ByteArray):Bool:=decide (1<=k.size)&&(decide (k.size<=16)&&decide (v.size<=40))
theorem aY {k v:ByteArray}:cM k v=true↔1<=k.size∧k.size<=16∧v.size<=40:=by simp[cM]
def BN (l:List En)(i:Nat):Bool:=cM l[i]!.1 l[i]!.2&&(i==0||bp l[i-1]!.1 l[i]!.1)
def ia (l:List En):Bool:=(List.range l.length).all (BN l)
theorem vD {l:List En}(h:∀j,j<l.length->BN l j=true):ia l=true:=by
 unfold ia;rw[List.all_eq_true];intro j hj;exact h j (List.mem_range.1 hj)
theorem z7 {l:List En}(h:ia l=true)(j:Nat)(hj:j<l.length):BN l j=true:=by
 unfold ia at h;rw[List.all_eq_true]at h;exact h j (List.mem_range.2 hj)
theorem z8 {l:List En}(j:Nat)(hj:j<l.length)(h:BN l j=false):ia l=false:=by
 cases e:ia l
 ·rfl
 ·rw[z7 e j hj]at h;cases h
def Up (l:List En):Prop:=l.Pairwise (fun x y=>bp x.1 y.1=true)
structure Rg (l:List En):Prop where
 up:Up l
 may:∀x∈l,cM x.1 x.2=true
theorem bL {l:List En}{i:Nat}(h:i<l.length):l[i]! =l[i]:=getElem!_pos l i h
theorem T5 {l:List En}(h:∀j,j+1<l.length->bp l[j]!.1 l[j+1]!.1=true):Up l:=by
 have key:∀d i,i+d+1<l.length->bp l[i]!.1 l[i+d+1]!.1=true:=by
  intro d
  induction d with
  |zero=>intro i hi;exact h i hi
  |succ d ih=>
   intro i hi;exact cQ (ih i (by omega)) (h (i+d+1) hi)
 unfold Up;rw[List.pairwise_iff_getElem];intro i j hi hj hij;have:=key (j-i-1) i (by omega);rw[show i+(j-i-1)+1=j by omega,bL hi,bL hj]at this;exact this
theorem Up.at {l:List En}(h:Up l){i j:Nat}(hij:i<j)(hj:j<l.length):bp l[i]!.1 l[j]!.1=true:=by
 have:=(List.pairwise_iff_getElem.1 h) i j (by omega) hj hij;rw[bL hj,bL (by omega)];exact this
theorem rg_of {l:List En}(h:ia l=true):Rg l:=by
 refine⟨T5 fun j hj=>?_,fun x hx=>?_⟩
 ·have:=z7 h (j+1) hj;unfold BN at this;simp only[Bool.and_eq_true,Bool.or_eq_true]at this;rcases this.2 with e|e
  ·simp at e
  ·exact e
 ·obtain⟨i,hi,rfl⟩:=List.getElem_of_mem hx;have:=z7 h i hi;unfold BN at this;simp only[Bool.and_eq_true]at this;rw[bL hi]at this;exact this.1
theorem gD {l:List En}(h:Rg l):ia l=true:=by
 refine vD fun j hj=>?_;unfold BN;rw[Bool.and_eq_true];refine⟨h.may _ (by rw[bL hj];exact List.getElem_mem hj),?_⟩;cases j with
 |zero=>rfl
 |succ j=>simp only[Bool.or_eq_true];exact Or.inr (h.up.at (Nat.lt_succ_self j) hj)
theorem Lk {l:List En}:ia l=true↔Rg l:=⟨rg_of,gD⟩
theorem Rg.nil:Rg []:=⟨List.Pairwise.nil,fun _ h=>by cases h⟩
theorem Rg.tail {x:En}{l:List En}(h:Rg (x::l)):Rg l:=⟨(List.pairwise_cons.1 h.up).2,fun y hy=>h.may y (List.mem_cons_of_mem _ hy)⟩
theorem Rg.head {x:En}{l:List En}(h:Rg (x::l)):∀y∈l,bp x.1 y.1=true:=(List.pairwise_cons.1 h.up).1
theorem Rg.cons {x:En}{l:List En}(h:Rg l)(hx:cM x.1 x.2=true)(hl:∀y∈l,bp x.1 y.1=true):Rg (x::l):=
 ⟨List.pairwise_cons.2 ⟨hl,h.up⟩,fun y hy=>by
  rcases List.mem_cons.1 hy with e|e
  ·rw[e];exact hx
  ·exact h.may y e⟩
theorem Rg.sub {l m:List En}(h:Rg l)(s:m.Sublist l):Rg m:=⟨h.up.sublist s,fun x hx=>h.may x (s.subset hx)⟩
theorem Rg.ext:∀ {l m:List En},Rg l->Rg m->(∀x,x∈l↔x∈m)->l=m
 |[],[],_,_,_=>rfl
 |[],y::m,_,_,h=>by have:=(h y).2 (List.mem_cons_self ..);cases this
 |x::l,[],_,_,h=>by have:=(h x).1 (List.mem_cons_self ..);cases this
 |x::l,y::m,hl,hm,h=>by
  have hxy:x=y:=by
   rcases List.mem_cons.1 ((h x).1 (List.mem_cons_self ..))with e|e
   ·exact e
   ·rcases List.mem_cons.1 ((h y).2 (List.mem_cons_self ..))with f|f
    ·exact f.symm
    ·have a:=hm.head x e;have b:=hl.head y f;rw[gR a]at b;cases b
  subst hxy;rw[Rg.ext hl.tail hm.tail fun z=>⟨fun hz=>?_,fun hz=>?_⟩]
  ·rcases List.mem_cons.1 ((h z).1 (List.mem_cons_of_mem _ hz))with e|e
   ·exact absurd (hl.head z hz) (by rw[e,dh];simp)
   ·exact e
  ·rcases List.mem_cons.1 ((h z).2 (List.mem_cons_of_mem _ hz))with e|e
   ·exact absurd (hm.head z hz) (by rw[e,dh];simp)
   ·exact e
theorem Rg.one {l:List En}(h:Rg l){x y:En}(hx:x∈l)(hy:y∈l)(e:x.1=y.1):x=y:=by
 obtain⟨i,hi,rfl⟩:=List.getElem_of_mem hx;obtain⟨j,hj,rfl⟩:=List.getElem_of_mem hy;rcases Nat.lt_trichotomy i j with c|c|c
 ·have:=h.up.at c hj;rw[bL hi,bL hj,e,dh]at this;cases this
 ·subst c;rfl
 ·have:=h.up.at c hi;rw[bL hi,bL hj,e,dh]at this;cases this
def jh (l:List En)(k:ByteArray):Nat:=l.countP fun x=>bp x.1 k
def gL (l:List En)(k:ByteArray):Bool:=l.any fun x=>decide (x.1=k)
def iM:List En->ByteArray->ByteArray
 |[],_=>⟨#[]⟩
 |x::l,k=>if x.1=k then x.2 else iM l k
def iF (l:List En)(k:ByteArray):List En:=l.filter fun x=>!decide (x.1=k)
def lG (x:En):List En->List En
 |[]=>[x]
 |y::l=>if bp x.1 y.1=true then x::y::l else y::lG x l
def jK (l:List En)(k v:ByteArray):List En:=lG (k,v) (iF l k)
theorem eW {l:List En}{k:ByteArray}:gL l k=true↔∃x∈l,x.1=k:=by simp[gL]
theorem vE {l:List En}{k:ByteArray}(h:gL l k=false):∀x∈l,x.1≠k:=fun x hx e=>by
 have:=eW.2 ⟨x,hx,e⟩;rw[h]at this;cases this
theorem lH {l:List En}(h:Rg l):∀ {x:En},x∈l->iM l x.1=x.2:=by
 induction l with
 |nil=>intro x hx;cases hx
 |cons y l ih=>
  intro x hx;unfold iM;by_cases c:y.1=x.1
  ·rw[if_pos c,h.one (List.mem_cons_self ..) hx c]
  ·rw[if_neg c];rcases List.mem_cons.1 hx with e|e
   ·rw[e]at c;exact absurd rfl c
   ·exact ih h.tail e
theorem vF {l:List En}{k:ByteArray}(h:gL l k=false):iM l k=⟨#[]⟩:=by
 induction l with
 |nil=>rfl
 |cons y l ih=>
  have h1:=vE h y (List.mem_cons_self ..);unfold iM;rw[if_neg h1];refine ih ?_;cases e:gL l k
  ·rfl
  ·obtain⟨x,hx,e2⟩:=eW.1 e;exact absurd e2 (vE h x (List.mem_cons_of_mem _ hx))
theorem Ll {l m:List En}{k:ByteArray}(hl:Rg l)(hm:Rg m)(h:∀v,(k,v)∈l↔(k,v)∈m):gL l k=gL m k∧iM l k=iM m k:=by
 cases e:gL l k
 ·cases f:gL m k
  ·exact⟨rfl,by rw[vF e,vF f]⟩
  ·obtain⟨x,hx,rfl⟩:=eW.1 f;exact absurd rfl (vE e x ((h x.2).2 hx))
 ·obtain⟨x,hx,rfl⟩:=eW.1 e;have hx2:x∈m:=(h x.2).1 hx;rw[eW.2 ⟨x,hx2,rfl⟩,lH hl hx,lH hm hx2];exact⟨rfl,rfl⟩
theorem lI {l:List En}(h:Rg l)(k:ByteArray):Rg (iF l k):=h.sub List.filter_sublist
theorem fO {l:List En}{k:ByteArray}{x:En}:x∈iF l k↔x∈l∧x.1≠k:=by simp[iF]
theorem Gf {l:List En}{k:ByteArray}(h:gL l k=false):iF l k=l:=by
 unfold iF;rw[List.filter_eq_self];intro x hx;simp[vE h x hx]
theorem rz {x y:En}:∀ {l:List En},y∈lG x l↔y=x∨y∈l
 |[]=>by simp[lG]
 |z::l=>by
  unfold lG;by_cases c:bp x.1 z.1=true
  ·rw[if_pos c];simp
  ·rw[if_neg c];simp only[List.mem_cons,rz (l:=l)];constructor
   ·rintro(a|a|a)
    ·exact Or.inr (Or.inl a)
    ·exact Or.inl a
    ·exact Or.inr (Or.inr a)
   ·rintro(a|a|a)
    ·exact Or.inr (Or.inl a)
    ·exact Or.inl a
    ·exact Or.inr (Or.inr a)
theorem BO {x:En}(hx:cM x.1 x.2=true):∀ {l:List En},Rg l->(∀y∈l,y.1≠x.1)->Rg (lG x l)
 |[],_,_=>Rg.cons Rg.nil hx fun _ h=>by cases h
 |z::l,h,hne=>by
  unfold lG;by_cases c:bp x.1 z.1=true
  ·rw[if_pos c];refine h.cons hx fun y hy=>?_;rcases List.mem_cons.1 hy with e|e
   ·rw[e];exact c
   ·exact cQ c (h.head y e)
  ·rw[if_neg c];refine(BO hx h.tail fun y hy=>hne y (List.mem_cons_of_mem _ hy)).cons (h.may z (List.mem_cons_self ..)) fun y hy=>?_;rcases rz.1 hy with e|e
   ·rw[e];exact hZ (by simpa using c) fun e2=>hne z (List.mem_cons_self ..) e2.symm
   ·exact h.head y e
theorem nS {l:List En}{k v:ByteArray}(h:Rg l)(hm:cM k v=true):Rg (jK l k v):=
 BO hm (lI h k) fun _ hy=>(fO.1 hy).2
theorem gM {l:List En}{k v:ByteArray}{x:En}:x∈jK l k v↔x=(k,v)∨(x∈l∧x.1≠k):=by
 unfold jK;rw[rz,fO]
theorem Aa {l:List En}(h:Rg l)(k:ByteArray):jh l k<=l.length∧(∀j,j<jh l k->bp l[j]!.1 k=true)∧(∀j,jh l k<=j->j<l.length->bp l[j]!.1 k=false):=by
 induction l with
 |nil=>exact⟨Nat.le_refl _,fun j hj=>by simp[jh]at hj,fun j _ hj=>by simp at hj⟩
 |cons x l ih=>
  obtain⟨i1,i2,i3⟩:=ih h.tail;cases c:bp x.1 k
  ·have e:jh (x::l) k=jh l k:=by simp[jh,c]
   have z:jh l k=0:=by
    unfold jh;rw[List.countP_eq_zero];intro y hy hc;have:=cQ (h.head y hy) hc;rw[c]at this;cases this
   rw[e,z];refine⟨Nat.zero_le _,fun j hj=>absurd hj (Nat.not_lt_zero _),fun j _ hj=>?_⟩;cases j with
   |zero=>exact c
   |succ j=>have:=i3 j (by omega) (by simpa using hj);simpa using this
  ·have e:jh (x::l) k=jh l k+1:=by simp[jh,c]
   rw[e];refine⟨by simp;omega,fun j hj=>?_,fun j hj hl=>?_⟩
   ·cases j with
    |zero=>exact c
    |succ j=>have:=i2 j (by omega);simpa using this
   ·cases j with
    |zero=>omega
    |succ j=>have:=i3 j (by omega) (by simpa using hl);simpa using this
theorem PW {l:List En}{k:ByteArray}{i:Nat}(h:Rg l)(hi:i<=l.length)(h1:∀j,j<i->bp l[j]!.1 k=true)(h2:∀j,i<=j->j<l.length->bp l[j]!.1 k=false):i=jh l k:=by
 obtain⟨a,b,c⟩:=Aa h k;rcases Nat.lt_trichotomy i (jh l k)with d|d|d
 ·have:=h2 i (Nat.le_refl _) (by omega);rw[b i d]at this;cases this
 ·exact d
 ·have:=h1 _ d;rw[c _ (Nat.le_refl _) (by omega)]at this;cases this
theorem rA {l:List En}(h:Rg l)(k:ByteArray):gL l k=true↔jh l k<l.length∧l[jh l k]!.1=k:=by
 obtain⟨a,b,c⟩:=Aa h k;constructor
 ·intro hf;obtain⟨x,hx,e⟩:=eW.1 hf;obtain⟨i,hi,rfl⟩:=List.getElem_of_mem hx;rcases Nat.lt_trichotomy i (jh l k)with d|d|d
  ·have:=b i d;rw[bL hi,e,dh]at this;cases this
  ·rw[<-d];exact⟨hi,by rw[bL hi];exact e⟩
  ·have h1:=h.up.at d hi;rw[bL hi,e]at h1;rw[c _ (Nat.le_refl _) (by omega)]at h1;cases h1
 ·rintro⟨d,e⟩;exact eW.2 ⟨l[jh l k]!,by rw[bL d];exact List.getElem_mem d,e⟩
theorem PY {l:List En}(h:Rg l){k:ByteArray}(hf:gL l k=true):iM l k=l[jh l k]!.2:=by
 obtain⟨d,e⟩:=(rA h k).1 hf;have:=lH h (x:=l[jh l k]!) (by rw[bL d];exact List.getElem_mem d);rw[e]at this;exact this
theorem gh {l:List En}{i:Nat}{x:En}(h:x∈l.take i):∃j,j<i∧j<l.length∧l[j]! =x:=by
 obtain⟨j,hj,rfl⟩:=List.getElem_of_mem h;have h2:=hj;rw[List.length_take]at h2;exact⟨j,by omega,by omega,by rw[bL (by omega)];simp⟩
theorem gi {l:List En}{i:Nat}{x:En}(h:x∈l.drop i):∃j,i<=j∧j<l.length∧l[j]! =x:=by
 obtain⟨j,hj,rfl⟩:=List.getElem_of_mem h;simp at hj;exact⟨i+j,by omega,by omega,by rw[bL (by omega)];simp⟩
theorem ux {l:List En}{i j:Nat}(h:j<i)(hl:j<l.length):l[j]! ∈l.take i:=by
 rw[bL hl];have:j< (l.take i).length:=by simp;omega
 have e:(l.take i)[j]=l[j]:=by simp
 rw[<-e];exact List.getElem_mem this
theorem uy {l:List En}{i j:Nat}(h:i<=j)(hl:j<l.length):l[j]! ∈l.drop i:=by
 rw[bL hl];obtain⟨d,rfl⟩:=Nat.le.dest h;have:d< (l.drop i).length:=by simp;omega
 have e:(l.drop i)[d]=l[i+d]:=by simp
 rw[<-e];exact List.getElem_mem this
theorem xT {l:List En}{i j:Nat}{m:List En}(h:Rg l)(hij:i<=j)(hm:Rg m)(h1:∀x∈l.take i,∀y∈m,bp x.1 y.1=true)(h2:∀x∈m,∀y∈l.drop j,bp x.1 y.1=true):Rg (l.take i++m++l.drop j):=by
 refine⟨?_,fun x hx=>?_⟩
 ·unfold Up;rw[List.append_assoc,List.pairwise_append,List.pairwise_append];refine⟨h.up.sublist (List.take_sublist ..),⟨hm.up,h.up.sublist (List.drop_sublist ..),h2⟩,fun x hx y hy=>?_⟩;rcases List.mem_append.1 hy with e|e
  ·exact h1 x hx y e
  ·obtain⟨a,a1,a2,rfl⟩:=gh hx;obtain⟨b,b1,b2,rfl⟩:=gi e;exact h.up.at (by omega) b2
 ·rcases List.mem_append.1 hx with e|e
  ·rcases List.mem_append.1 e with f|f
   ·exact h.may x (List.mem_of_mem_take f)
   ·exact hm.may x f
  ·exact h.may x (List.mem_of_mem_drop e)
theorem Lm {l:List En}(h:Rg l){k:ByteArray}(hf:gL l k=true):l.take (jh l k)++l.drop (jh l k+1)=iF l k:=by
 obtain⟨d,e⟩:=(rA h k).1 hf;have hp:=xT (m:=[]) h (Nat.le_succ (jh l k)) Rg.nil (fun _ _ _ h=>by cases h) (fun _ h=>by cases h);rw[List.append_nil]at hp;refine Rg.ext hp (lI h k) fun x=>?_;rw[fO,List.mem_append];constructor
 ·rintro(a|a)
  ·obtain⟨j,j1,j2,rfl⟩:=gh a;refine⟨List.mem_of_mem_take a,?_⟩;have:=h.up.at j1 d;rw[e]at this;exact fN this
  ·obtain⟨j,j1,j2,rfl⟩:=gi a;refine⟨List.mem_of_mem_drop a,?_⟩;have:=h.up.at (show jh l k<j by omega) j2;rw[e]at this;exact(fN this).symm
 ·rintro⟨a,b⟩;obtain⟨j,hj,rfl⟩:=List.getElem_of_mem a;rw[<-bL hj]at b⊢;rcases Nat.lt_trichotomy j (jh l k)with c|c|c
  ·exact Or.inl (ux c hj)
  ·rw[c]at b;exact absurd e b
  ·exact Or.inr (uy (by omega) hj)
theorem PZ {k v:ByteArray}(hm:cM k v=true):Rg [(k,v)]:=Rg.cons Rg.nil hm fun _ h=>by cases h
theorem Ln {l:List En}(h:Rg l){k v:ByteArray}(hm:cM k v=true){j:Nat}(hj:j=if gL l k=true then jh l k+1 else jh l k):l.take (jh l k)++[(k,v)]++l.drop j=jK l k v:=by
 obtain⟨a1,a2,a3⟩:=Aa h k;have hle:jh l k<=j:=by rw[hj];split<;>omega
 have hdrop:∀i,j<=i->i<l.length->bp k l[i]!.1=true:=by
  intro i h1 h2;by_cases c:gL l k=true
  ·rw[if_pos c]at hj;obtain⟨d,e⟩:=(rA h k).1 c;have:=h.up.at (show jh l k<i by omega) h2
   rwa [e]at this
  ·rw[if_neg c]at hj;refine hZ (a3 i (by omega) h2) fun e=>c (eW.2 ⟨l[i]!,?_,e⟩);rw[bL h2];exact List.getElem_mem h2
 have hp:=xT (m:=[(k,v)]) h hle (PZ hm) (fun x hx y hy=>by
  obtain⟨i,i1,i2,rfl⟩:=gh hx
  rw[List.mem_singleton.1 hy]
  exact a2 i i1) (fun x hx y hy=>by
  obtain⟨i,i1,i2,rfl⟩:=gi hy
  rw[List.mem_singleton.1 hx]
  exact hdrop i i1 i2)
 refine Rg.ext hp (nS h hm) fun x=>?_;rw[gM,List.mem_append,List.mem_append,List.mem_singleton];constructor
 ·rintro((a|a)|a)
  ·obtain⟨i,i1,i2,rfl⟩:=gh a;exact Or.inr ⟨List.mem_of_mem_take a,fN (a2 i i1)⟩
  ·exact Or.inl a
  ·obtain⟨i,i1,i2,rfl⟩:=gi a;exact Or.inr ⟨List.mem_of_mem_drop a,(fN (hdrop i i1 i2)).symm⟩
 ·rintro(a| ⟨a,b⟩)
  ·exact Or.inl (Or.inr a)
  ·obtain⟨i,hi,rfl⟩:=List.getElem_of_mem a;rw[<-bL hi]at b⊢;by_cases c:i<jh l k
   ·exact Or.inl (Or.inl (ux c hi))
   ·refine Or.inr (uy ?_ hi);rw[hj];by_cases f:gL l k=true
    ·rw[if_pos f];obtain⟨d,e⟩:=(rA h k).1 f;rcases Nat.lt_or_ge (jh l k) i with g|g
     ·omega
     ·have:i=jh l k:=by omega
      rw[this]at b;exact absurd e b
    ·rw[if_neg f];omega
end
section
def k8 (x:En):Nat:=2+x.1.size+x.2.size
def cP:List En->Nat
 |[]=>0
 |x::l=>k8 x+cP l
theorem js (l m:List En):cP (l++m)=cP l+cP m:=by
 induction l with
 |nil=>simp[cP]
 |cons x l ih=>simp[cP,ih];omega
theorem mH {l:List En}{i:Nat}(h:i<l.length):cP (l.take (i+1))=cP (l.take i)+k8 l[i]! :=by
 rw[List.take_add_one,List.getElem?_eq_getElem h,js,bL h];simp[cP]
theorem xU (l:List En)(i:Nat):cP (l.take i)<=cP l:=by
 have:=js (l.take i) (l.drop i);rw[List.take_append_drop]at this;omega
theorem kv {l:List En}{b:Nat}(h:∀x∈l,k8 x<=b):cP l<=l.length*b:=by
 induction l with
 |nil=>simp[cP]
 |cons x l ih=>
  have h1:=h x (List.mem_cons_self ..);have h2:=ih fun y hy=>h y (List.mem_cons_of_mem _ hy);simp only[cP,List.length_cons,Nat.add_mul,Nat.one_mul];omega
def hfB (l:List En)(i:Nat):Bool:=decide (cP l<=2*cP (l.take (i+1)))
def eL (l:List En):Nat:=(((List.range (l.length-1)).find? (hfB l)).map (· +1)).getD (l.length-1)
theorem Ab {p:Nat->Bool}{n i:Nat}(hi:i<n)(h1:∀j,j<i->p j=false)(h2:p i=true):(List.range n).find? p=some i:=by
 rw[List.find?_eq_some_iff_getElem];refine⟨h2,i,by simpa using hi,by simp,fun j hj=>?_⟩;simp[h1 j hj]
theorem Ea {p:Nat->Bool}{n:Nat}(h1:∀j,j<n->p j=false):(List.range n).find? p=none:=by
 rw[List.find?_eq_none];intro j hj;simp[h1 j (List.mem_range.1 hj)]
theorem xV {l:List En}{i:Nat}(hi:i<l.length-1)(h1:∀j,j<i->hfB l j=false)(h2:hfB l i=true):eL l=i+1:=by
 unfold eL;rw[Ab hi h1 h2];rfl
theorem vG {l:List En}(h1:∀j,j<l.length-1->hfB l j=false):eL l=l.length-1:=by
 unfold eL;rw[Ea h1];rfl
theorem Eb {l:List En}(h:l.length<2):eL l=0:=by
 rw[vG fun j hj=>by omega];omega
theorem Ac {l:List En}(h:2<=l.length):1<=eL l∧eL l<l.length∧(cP l<=2*cP (l.take (eL l))∨eL l=l.length-1)∧(eL l=1∨2*cP (l.take (eL l-1))<cP l):=by
 by_cases c:∃i,i<l.length-1∧hfB l i=true
 ·obtain⟨i,hi⟩:=c;have key:∀n,(∃i,i<=n∧i<l.length-1∧hfB l i=true)->∃i,i<l.length-1∧hfB l i=true∧∀j,j<i->hfB l j=false:=by
   intro n
   induction n with
   |zero=>rintro⟨i,h0,h1,h2⟩;exact⟨i,h1,h2,fun j hj=>by omega⟩
   |succ n ih=>
    rintro⟨i,h0,h1,h2⟩;by_cases d:∃j,j<=n∧j<l.length-1∧hfB l j=true
    ·exact ih d
    ·refine⟨i,h1,h2,fun j hj=>?_⟩;cases e:hfB l j
     ·rfl
     ·exact absurd ⟨j,by omega,by omega,e⟩ d
  obtain⟨k,k1,k2,k3⟩:=key i ⟨i,Nat.le_refl _,hi⟩;rw[xV k1 k3 k2];refine⟨by omega,by omega,Or.inl (by simpa[hfB]using k2),?_⟩;cases k with
  |zero=>exact Or.inl rfl
  |succ k=>
   have:=k3 k (by omega);right;simp only[hfB,decide_eq_false_iff_not]at this;rw[show k+1+1-1=k+1 by omega];omega
 ·have h1:∀j,j<l.length-1->hfB l j=false:=fun j hj=>by
   cases e:hfB l j
   ·rfl
   ·exact absurd ⟨j,hj,e⟩ c
  rw[vG h1];refine⟨by omega,by omega,Or.inr rfl,?_⟩;rcases Nat.lt_or_ge 2 l.length with d|d
  ·have:=h1 (l.length-3) (by omega);simp only[hfB,decide_eq_false_iff_not]at this;right;rw[show l.length-1-1=l.length-3+1 by omega];omega
  ·left;omega
def mg (s:ByteArray):List UInt8:=UInt8.ofNat s.size::s.data.toList
def Km (x:En):List UInt8:=mg x.1++mg x.2
def xW:List En->List UInt8
 |[]=>[]
 |x::l=>Km x++xW l
theorem lJ (s:ByteArray):(mg s).length=1+s.size:=by
 have:=Lib.size_eq s;simp[mg];omega
theorem rB (x:En):(Km x).length=k8 x:=by
 unfold Km k8;rw[List.length_append,lJ,lJ];omega
theorem rC (l:List En):(xW l).length=cP l:=by
 induction l with
 |nil=>rfl
 |cons x l ih=>simp only[xW,cP,List.length_append,ih,rB]
def xy:List UInt8->Option (En×List UInt8)
 |[]=>none
 |c::r=>if r.length<=c.toNat then none else
  match r.drop c.toNat with
  |[]=>none
  |d::q=>if q.length<d.toNat then none else some ((⟨(r.take c.toNat).toArray⟩,⟨(q.take d.toNat).toArray⟩),q.drop d.toNat)
theorem Ad {a r:List UInt8}{c:UInt8}(h:c.toNat=a.length):mg ⟨a.toArray⟩++r=c::(a++r):=by
 have e:(⟨a.toArray⟩:ByteArray).size=a.length:=by simp[ByteArray.size]
 unfold mg;rw[e,<-h];simp
theorem vH {s r:List UInt8}{x:En}(h:xy s=some (x,r)):s=Km x++r∧x.1.size<=255∧x.2.size<=255:=by
 cases s with
 |nil=>simp[xy]at h
 |cons c t=>
  simp only[xy]at h;by_cases h1:t.length<=c.toNat
  ·rw[if_pos h1]at h;cases h
  ·rw[if_neg h1]at h;cases hd:t.drop c.toNat with
   |nil=>rw[hd]at h;cases h
   |cons d q=>
    rw[hd]at h;simp only at h;by_cases h2:q.length<d.toNat
    ·rw[if_pos h2]at h;cases h
    ·rw[if_neg h2]at h;cases h;have l1:c.toNat=(t.take c.toNat).length:=by simp;omega
     have l2:d.toNat=(q.take d.toNat).length:=by simp;omega
     have c1:=UInt8.toNat_lt c;have d1:=UInt8.toNat_lt d;have e1:(⟨(t.take c.toNat).toArray⟩:ByteArray).size=c.toNat:=by simp[ByteArray.size];omega
     have e2:(⟨(q.take d.toNat).toArray⟩:ByteArray).size=d.toNat:=by simp[ByteArray.size];omega
     refine⟨?_,by simp only[e1];omega,by simp only[e2];omega⟩;unfold Km;rw[List.append_assoc,Ad l2,List.take_append_drop,<-hd,Ad l1,List.take_append_drop]
theorem Gg (c d:UInt8)(a b r:List UInt8)(h1:c.toNat=a.length)(h2:d.toNat=b.length):xy (c::(a++d::(b++r)))=some ((⟨a.toArray⟩,⟨b.toArray⟩),r):=by
 simp only[xy];have e1:¬(a++d::(b++r)).length<=c.toNat:=by rw[List.length_append,List.length_cons];omega
 have e2:(a++d::(b++r)).drop c.toNat=d::(b++r):=by rw[h1];simp
 have e3:(a++d::(b++r)).take c.toNat=a:=by rw[h1];simp
 have e4:¬(b++r).length<d.toNat:=by rw[List.length_append];omega
 have e5:(b++r).drop d.toNat=r:=by rw[h2];simp
 have e6:(b++r).take d.toNat=b:=by rw[h2];simp
 rw[if_neg e1,e2];simp only;rw[if_neg e4,e3,e5,e6]
theorem ofNat_size {n:Nat}(h:n<=255):(UInt8.ofNat n).toNat=n:=by
 simp;omega
theorem Lp {x:En}(r:List UInt8)(h1:x.1.size<=255)(h2:x.2.size<=255):xy (Km x++r)=some (x,r):=by
 have s1:=Lib.size_eq x.1;have s2:=Lib.size_eq x.2;have:=Gg (UInt8.ofNat x.1.size) (UInt8.ofNat x.2.size) x.1.data.toList x.2.data.toList r (by rw[ofNat_size h1];exact s1) (by rw[ofNat_size h2];exact s2);have e:Km x++r=UInt8.ofNat x.1.size::(x.1.data.toList++UInt8.ofNat x.2.size::(x.2.data.toList++r)):=by simp[Km,mg]
 rw[e,this]
theorem rD {s r:List UInt8}{x:En}(h:xy s=some (x,r)):r.length<s.length:=by
 obtain⟨e,_,_⟩:=vH h;rw[e,List.length_append,rB];unfold k8;omega
def P8:Nat->List UInt8->Option (List En)
 |0,s=>if s.isEmpty then some []else none
 |n+1,s=>if s.isEmpty then some []else
  match xy s with
  |none=>none
  |some (x,r)=>(P8 n r).map (x:: ·)
def xX (s:List UInt8):Option (List En):=P8 s.length s
theorem BP:∀(n m:Nat) (s:List UInt8),s.length<=n->s.length<=m->P8 n s=P8 m s
 |0,m,s,h,_=>by
  obtain rfl:s=[]:=List.length_eq_zero_iff.1 (by omega);cases m<;>rfl
 |n+1,0,s,_,h=>by
  obtain rfl:s=[]:=List.length_eq_zero_iff.1 (by omega);rfl
 |n+1,m+1,s,h1,h2=>by
  unfold P8;cases hs:s.isEmpty
  ·cases ht:xy s with
   |none=>rfl
   |some p=>
    obtain⟨x,r⟩:=p;have:=rD ht;simp only;rw[BP n m r (by omega) (by omega)]
  ·rfl
theorem BQ:xX []=some []:=rfl
theorem xY {s:List UInt8}(hs:s≠[])(h:xy s=none):xX s=none:=by
 cases s with
 |nil=>exact absurd rfl hs
 |cons c t=>unfold xX;simp only[List.length_cons,P8,h];rfl
theorem rE {s r:List UInt8}{x:En}(h:xy s=some (x,r)):xX s=(xX r).map (x:: ·):=by
 have hl:=rD h;cases s with
 |nil=>simp[xy]at h
 |cons c t=>
  unfold xX;simp only[List.length_cons,P8,h];rw[BP t.length r.length r (by simpa using Nat.lt_succ_iff.1 hl) (Nat.le_refl _)];rfl
theorem Lq {l:List En}(h:∀x∈l,x.1.size<=255∧x.2.size<=255):xX (xW l)=some l:=by
 induction l with
 |nil=>rfl
 |cons x l ih=>
  have h1:=h x (List.mem_cons_self ..);unfold xW;rw[rE (Lp (xW l) h1.1 h1.2),ih fun y hy=>h y (List.mem_cons_of_mem _ hy)];rfl
theorem BR:∀(n:Nat) (s:List UInt8) (l:List En),s.length<=n->xX s=some l->xW l=s
 |n,[],l,_,h=>by rw[BQ]at h;cases h;rfl
 |0,c::t,l,hn,_=>by simp at hn
 |n+1,c::t,l,hn,h=>by
  cases hs:xy (c::t)with
  |none=>rw[xY (by simp) hs]at h;cases h
  |some p=>
   obtain⟨x,r⟩:=p;have hl:=rD hs;rw[rE hs]at h;cases hd:xX r with
   |none=>rw[hd]at h;cases h
   |some m=>
    rw[hd]at h;cases h;rw[xW,BR n r m (by simp at hn hl⊢;omega) hd,<- (vH hs).1]
def xZ (s:List UInt8):List En:=match xX s with
 |none=>[]
 |some l=>if ia l=true then l else []
def Ec (s:List UInt8):Bool:=match xX s with
 |none=>false
 |some l=>ia l
theorem Ed {s:List UInt8}(h:Ec s=true):Rg (xZ s)∧xW (xZ s)=s:=by
 unfold Ec at h;unfold xZ;cases hd:xX s with
 |none=>rw[hd]at h;cases h
 |some l=>
  rw[hd]at h;simp only at h⊢;rw[if_pos h];exact⟨rg_of h,BR _ s l (Nat.le_refl _) hd⟩
theorem Lr {l:List En}(h:Rg l):xZ (xW l)=l∧Ec (xW l)=true:=by
 have hd:xX (xW l)=some l:=Lq fun x hx=>by
  have:=aY.1 (h.may x hx);omega
 unfold xZ Ec;rw[hd];simp only[gD h];exact⟨rfl,trivial⟩
def Tr (l:List En):ByteArray:=⟨(if ia l=true then xW l else []).toArray⟩
def OD (l:List En):Int:=if ia l=true then 0 else 1
end
section
def aG (x:En):List Value:=[.string x.1,.string x.2]
def GR (w w':World):Prop:=∃q os',w'=grow (w.drewN q) os'
theorem GR.refl (w:World):GR w w:=⟨0,#[],by rw[grow_empty];rfl⟩
theorem GR.drew {w w':World}(h:GR w w'):GR w w'.drew:=by
 obtain⟨q,os,rfl⟩:=h;exact⟨q+1,os,rfl⟩
theorem GR.alloc {w w':World}(h:GR w w')(o:Obj):GR w (w'.alloc o):=by
 obtain⟨q,os,rfl⟩:=h;exact⟨q,os++#[o],by rw[alloc_eq_grow,grow_grow]⟩
theorem GR.trans {u v w:World}(h:GR u v)(k:GR v w):GR u w:=by
 obtain⟨q,os,rfl⟩:=h;obtain⟨p,os',rfl⟩:=k;exact⟨q+p,os++os',by show grow (grow ((u.drewN q).drewN p) os) os'=_;rw[grow_grow,World.drewN_drewN]⟩
theorem GR.below {w w':World}(h:GR w w'):Below w.heap.size w w':=by
 obtain⟨q,os,rfl⟩:=h;exact⟨rfl,rfl,rfl,by rw[size_grow];exact Nat.le_add_right _ _,fun k hk=>heap_grow_old _ _ (by simpa using hk)⟩
section
variable {α:Type}[Inhabited α]
def cG (enc:α->List Value)(k:Nat)(w:World)(b off:Nat)(l:List α):Prop:=∀t,t<l.length*k->w.cell? ⟨b,off+t,none⟩=some (flatK enc k l.toArray)[t]!
def Row (enc:α->List Value)(k:Nat)(w:World)(v:Value)(l:List α):Prop:=
 ∃ao cap,v=.slice ao l.length cap∧l.length<=cap∧(ao=none->cap=0)∧(l≠[]->∃b off,ao=some ⟨b,off,none⟩∧b<w.heap.size∧cG enc k w b off l)
def Own (enc:α->List Value)(k base:Nat)(w:World)(v:Value)(l:List α):Prop:=
 ∃ao cap,v=.slice ao l.length cap∧l.length<=cap∧(ao=none->cap=0)∧(l≠[]->∃b off,ao=some ⟨b,off,none⟩∧base<=b∧b<w.heap.size∧HoldsK enc k w b off l.toArray)
variable {enc:α->List Value}{k base:Nat}{w w':World}{v:Value}{l:List α}
theorem ib {b off:Nat}(h:HoldsK enc k w b off l.toArray):cG enc k w b off l:=fun t ht=>(h t (by simpa using ht)).1
theorem Own.row (h:Own enc k base w v l):Row enc k w v l:=by
 obtain⟨ao,cap,e,h1,h2,h3⟩:=h;refine⟨ao,cap,e,h1,h2,fun hne=>?_⟩;obtain⟨b,off,e2,_,hb,hH⟩:=h3 hne;exact⟨b,off,e2,hb,ib hH⟩
theorem Row.below (h:Row enc k w v l)(hb:Below w.heap.size w w'):Row enc k w' v l:=by
 obtain⟨ao,cap,e,h1,h2,h3⟩:=h;refine⟨ao,cap,e,h1,h2,fun hne=>?_⟩;obtain⟨b,off,e2,hlt,hH⟩:=h3 hne;exact⟨b,off,e2,Nat.lt_of_lt_of_le hlt hb.size,fun t ht=>(hb.cell (p:=⟨b,off+t,none⟩) hlt).trans (hH t ht)⟩
theorem Own.below (h:Own enc k base w v l)(hb:Below w.heap.size w w'):Own enc k base w' v l:=by
 obtain⟨ao,cap,e,h1,h2,h3⟩:=h;refine⟨ao,cap,e,h1,h2,fun hne=>?_⟩;obtain⟨b,off,e2,Ae,hlt,hH⟩:=h3 hne;exact⟨b,off,e2,Ae,Nat.lt_of_lt_of_le hlt hb.size,fun t ht=>⟨(hb.cell (p:=⟨b,off+t,none⟩) hlt).trans (hH t ht).1,(hb.frozen (p:=⟨b,off+t,none⟩) hlt).trans (hH t ht).2⟩⟩
theorem Own.mono {base':Nat}(h:Own enc k base w v l)(hb:base'<=base):Own enc k base' w v l:=by
 obtain⟨ao,cap,e,h1,h2,h3⟩:=h;refine⟨ao,cap,e,h1,h2,fun hne=>?_⟩;obtain⟨b,off,e2,Ae,r⟩:=h3 hne;exact⟨b,off,e2,Nat.le_trans hb Ae,r⟩
theorem Own.nil:Own enc k base w (.slice none 0 0) ([]:List α):=⟨none,0,rfl,Nat.le_refl _,fun _=>rfl,fun h=>absurd rfl h⟩
theorem iA {e:TypeId}{g n:Nat}{cur:Array Value}(hb:w.heap[g]? =some (.cells cur e (0,0)))(hn:l.length=n)(hs:n*k<=cur.size)(ht:cur.toList.take (n*k)=(flatK enc k l.toArray).toList):HoldsK enc k w g 0 l.toArray:=by
 intro t Qa;have ht':t<n*k:=by rw[<-hn];simpa using Qa
 refine⟨?_,by simp[World.frozen?,hb]⟩;have h1:(cur.toList.take (n*k))[t]? =(flatK enc k l.toArray).toList[t]? :=by rw[ht]
 rw[List.getElem?_take_of_lt ht',List.getElem?_eq_getElem (by simpa using(by omega:t<cur.size)),List.getElem?_eq_getElem (by rw[Array.length_toList];exact Qa)]at h1;simp only[World.cell?,hb,Nat.zero_add];rw[getElem!_pos _ t Qa];have h2:=Option.some.inj h1;simp only[Array.getElem_toList]at h2;rw[Array.getElem?_eq_getElem (by omega),h2];rfl
theorem cj {e:TypeId}{n:Nat}(hk:0<k)(h:w.ownsRow base e k v n (flatK enc k l.toArray).toList):Own enc k base w v l:=by
 obtain⟨h0,h1⟩:=h;have hn:l.length=n:=by
  have:l.length*k=n*k:=by simpa using h0
  exact Nat.eq_of_mul_eq_mul_right hk this
 rcases h1 with⟨rfl,rfl⟩| ⟨g,cap,cur,rfl,hb,hh,hc,hm,hs,ht⟩
 ·obtain rfl:l=[]:=List.length_eq_zero_iff.1 hn;exact Own.nil
 ·subst hn;refine⟨some ⟨g,0,none⟩,cap,rfl,hc,(fun h=>by cases h),fun hne=>⟨g,0,rfl,hb,(Array.getElem?_eq_some_iff.1 hh).1,iA hh rfl (by rw[hs];exact Nat.mul_le_mul_right k hc) ht⟩⟩
theorem cD (h1:∀x,∀v∈enc x,v.oneCell'=true)(hk:∀x,(enc x).length=k):∀u∈(flatK enc k l.toArray).toList,u.oneCell'=true:=fun u hu=>by
 obtain⟨t,ht,rfl⟩:=List.getElem_of_mem hu;have ht':t<l.length*k:=by simpa using ht
 have hk0:0<k:=by
  rcases Nat.eq_zero_or_pos k with h|h
  ·subst h;omega
  ·exact h
 have e:=get_flatK enc k l.toArray t (by simpa using ht');rw[getElem!_pos _ t (by simpa using ht')]at e;rw[Array.getElem_toList,e];refine h1 l.toArray[t/k]! _ ?_;rw[getElem!_pos (enc l.toArray[t/k]!) (t%k) (by rw[hk];exact Nat.mod_lt _ hk0)];exact List.getElem_mem _
end
theorem cm (x:En):(aG x).length=2:=rfl
theorem dX (x:En):∀v∈aG x,v.oneCell'=true:=fun v hv=>by simp[aG]at hv;rcases hv with rfl|rfl<;>rfl
theorem dY:(Tryz.prog.info? 49).map (fun i=>(i.zero,i.size,i.bytes))=some (some (.agg #[.string ⟨#[]⟩,.string ⟨#[]⟩]),2,32):=by kernel_rfl
section
variable {α:Type}[Inhabited α]
theorem iN (d:Array α)(i:Nat):d[i]! =d.toList[i]! :=by
 by_cases h:i<d.size
 ·rw[getElem!_pos d i h,getElem!_pos d.toList i (by simpa using h)];simp
 ·rw[getElem!_neg d i h,getElem!_neg d.toList i (by simpa using h)]
theorem iB {l l':List α}(hs:l.length=l'.length)(h:∀i,i<l.length->l[i]! =l'[i]!):l=l':=by
 apply List.ext_getElem hs;intro i h1 h2;have:=h i h1
 rwa [getElem!_pos l i h1,getElem!_pos l' i h2]at this
theorem rF (l r:List α)(i:Nat)(h:i<l.length):(l++r)[i]! =l[i]! :=by
 rw[getElem!_pos l i h,getElem!_pos (l++r) i (by simp;omega)];exact List.getElem_append_left h
theorem nT (l r:List α)(i:Nat):(l++r)[l.length+i]! =r[i]! :=by
 by_cases h:i<r.length
 ·rw[getElem!_pos r i h,getElem!_pos (l++r) _ (by simp;omega)];simp
 ·rw[getElem!_neg r i h,getElem!_neg (l++r) _ (by simp;omega)]
theorem dH {W:World}{base:Nat}{e:TypeId}{k:Nat}{v:Value}{n:Nat}{xs:List Value}(h:W.ownsRow base e k v n xs)(m:Nat)(os:Array Obj):(grow (W.drewN m) os).ownsRow base e k v n xs:=by
 obtain⟨h1,h2⟩:=h;refine⟨h1,?_⟩;rcases h2 with h2| ⟨g,cap,cur,hv,hg,hh,r⟩
 ·exact Or.inl h2
 ·exact Or.inr ⟨g,cap,cur,hv,hg,by rw[heap_grow_old _ _ (by exact(Array.getElem?_eq_some_iff.1 hh).1)];exact hh,r⟩
theorem bM (enc:α->List Value)(k:Nat)(hk:∀x,(enc x).length=k)(l:List α)(x:α):(flatK enc k (l++[x]).toArray).toList=(flatK enc k l.toArray).toList++enc x:=by
 apply iB
 ·simp[hk,Nat.add_mul]
 ·intro t ht;have ht':t< (l.length+1)*k:=by simpa using ht
  have hk0:0<k:=by
   rcases Nat.eq_zero_or_pos k with h|h
   ·subst h;omega
   ·exact h
  rw[<-iN (flatK enc k (l++[x]).toArray) t,get_flatK _ _ _ _ (by simpa using ht')];by_cases c:t<l.length*k
  ·rw[rF _ _ _ (by simpa using c),<-iN (flatK enc k l.toArray) t,get_flatK _ _ _ _ (by simpa using c)];have:t/k<l.length:=(Nat.div_lt_iff_lt_mul hk0).2 c
   congr 2
   rw[getElem!_pos _ _ (by simp;omega),getElem!_pos _ _ (by simpa using this)];simp[this]
  ·obtain⟨s,rfl⟩:∃s,t=(flatK enc k l.toArray).toList.length+s:=⟨t-l.length*k,by simp;omega⟩;rw[nT];have hs:s<k:=by
    rw[Nat.add_mul,Nat.one_mul]at ht';simp at ht';omega
   have e1:((flatK enc k l.toArray).toList.length+s)/k=l.length:=by
    rw[Array.length_toList,size_flatK,List.size_toArray,Nat.mul_comm,Nat.mul_add_div hk0,Nat.div_eq_of_lt hs,Nat.add_zero]
   have e2:((flatK enc k l.toArray).toList.length+s)%k=s:=by
    rw[Array.length_toList,size_flatK,List.size_toArray,Nat.mul_comm,Nat.mul_add_mod,Nat.mod_eq_of_lt hs]
   rw[e1,e2,getElem!_pos (l++[x]).toArray l.length (by simp)];simp
end
theorem dQ {W:World}{base:Nat}{e:TypeId}{k:Nat}{v:Value}{n:Nat}{xs:List Value}(h:W.ownsRow base e k v n xs):v.ownBlock=none∨∃r,v.ownBlock=some r∧base<=r:=by
 rcases h.2 with⟨rfl,_⟩| ⟨g,cap,cur,rfl,hg,_⟩
 ·exact Or.inl rfl
 ·exact Or.inr ⟨g,rfl,hg⟩
theorem str_eq (a b:ByteArray):(a.toList==b.toList)=decide (a=b):=by
 by_cases h:a=b
 ·subst h;simp
 ·rw[decide_eq_false h];simp only[beq_eq_false_iff_ne,ne_eq];exact fun e=>h (gJ e)
theorem nU (a b c d:ByteArray)(w:World):(Op.equalIn 10000 49 (.agg #[.string a,.string b]) (.agg #[.string c,.string d])).run Tryz.prog w=.ok (decide ((a,b)=(c,d))) w:=by
 have u3:=Tryz.underlying9;have a3:=Tryz.isAgg9;have z3:=Tryz.sizeOf9;have hS:Tryz.prog.underlying 49=some (.struct (Tryz.prog.fieldsOf 49)):=by kernel_rfl
 have hp:Tryz.prog.stoodInHeld 49=false:=by kernel_rfl
 rw[show(10000:Nat)=9999+1 from rfl,run_equalIn_agg w 9999 49 _ _ hS hp];simp only[Program.fieldsOf,Tryz.underlying49];go_simp;have t1:∀ {x y:ByteArray},(x.toList=y.toList)=(x=y):=fun {x y}=>propext ⟨gJ,fun h=>by rw[h]⟩;by_cases h1:a=c<;>by_cases h2:b=d<;>simp[h1,h2,t1]
theorem vI (x y:En)(w:World):Sem.run Tryz.prog (binOp .neq 49 (.agg (aG x).toArray) (.agg (aG y).toArray)) w=.ok (.bool (!decide (x=y))) w:=by
 obtain⟨a,b⟩:=x;obtain⟨c,d⟩:=y;simp only[aG];rw[run_neq_struct,nU];rfl
theorem Af (op:BinOp)(a b:Operand)(x y:En)(w:World):Sem.run Tryz.prog (eqGuard op 49 a b (.agg (aG x).toArray) (.agg (aG y).toArray)) w=.ok () w:=
 GuardAt.agg (P:=Tryz.prog) (T:=49) (fun x:En=>(aG x).toArray) (by kernel_rfl) op a b x y w
theorem ew {w wr:World}{ao:Option Addr}{l:List En}(h3:l≠[]->∃b off,ao=some ⟨b,off,none⟩∧b<w.heap.size∧cG aG 2 w b off l)(i:Nat)(hi:i<l.length)(hb:Below w.heap.size w wr):
  ∃b off,ao=some ⟨b,off,none⟩∧b<w.heap.size∧wr.cell? ⟨b,off+i*2,none⟩=some (.string l[i]!.1)∧wr.cell? ⟨b,off+i*2+1,none⟩=some (.string l[i]!.2):=by
 obtain⟨b,off,e,hlt,hc⟩:=h3 (by intro h;rw[h]at hi;simp at hi);refine⟨b,off,e,hlt,?_,?_⟩
 ·rw[hb.cell (p:=⟨b,off+i*2,none⟩) hlt,hc (i*2) (by omega),get_flatK _ _ _ _ (by simp;omega),show i*2/2=i by omega,show i*2%2=0 by omega];simp[aG]
 ·rw[Nat.add_assoc,hb.cell (p:=⟨b,off+(i*2+1),none⟩) hlt,hc (i*2+1) (by omega),get_flatK _ _ _ _ (by simp;omega),show(i*2+1)/2=i by omega,show(i*2+1)%2=1 by omega];simp[aG]
theorem Gh {x y:En}{f:Bool}(h:decide (x=y)=f)(W:World):Sem.run Tryz.prog (binOp .neq 49 (.agg #[.string x.1,.string x.2]) (.agg #[.string y.1,.string y.2])) W=.ok (.bool !f) W:=by
 have:=vI x y W;rw[h]at this;exact this
theorem T6 (x y:En)(op:BinOp)(a b:Operand)(W:World):Sem.run Tryz.prog (eqGuard op 49 a b (.agg #[.string x.1,.string x.2]) (.agg #[.string y.1,.string y.2])) W=.ok () W:=Af op a b x y W
theorem cY {α:Type}[Inhabited α]{l:List α}{i:Nat}(h:i<l.length):l.take (i+1)=l.take i++[l[i]!]:=by
 rw[List.take_add_one,List.getElem?_eq_getElem h,getElem!_pos l i h];rfl
theorem jS {α:Type}[Inhabited α]{l:List α}{i:Nat}(h:i<l.length):l[i]! ∈l:=by
 rw[getElem!_pos l i h];exact List.getElem_mem h
theorem nV {α:Type}[Inhabited α]{l:List α}{i:Nat}(h:i<l.length):l.drop i=l[i]! ::l.drop (i+1):=by
 rw[List.drop_eq_getElem_cons h,getElem!_pos l i h]
theorem below_grown {B:Nat}{w W:World}(h:Below B w W)(hB:B<=W.heap.size)(n:Nat)(os:Array Obj):Below B w (grow (W.drewN n) os):=h.trans ((GR.below (w:=W) ⟨n,os,rfl⟩).mono hB)
abbrev bc (base:Nat)(W:World)(v:Value)(l:List En):Prop:=W.ownsRow base 49 2 v l.length (flatK aG 2 l.toArray).toList
theorem bc.empty (base:Nat)(W:World):bc base W (.slice none 0 0) []:=by unfold bc;simpa[flatK]using World.ownsRow_nil W base 49 2
theorem bc.own {base:Nat}{W:World}{v:Value}{l:List En}(h:bc base W v l):Own aG 2 base W v l:=cj (by decide) h
theorem bc.step {base:Nat}{W w1:World}{v v':Value}{l:List En}{x:En}(hbase:base<=W.heap.size)(h:bc base W v l)(hgrow:W.grownBy w1 v.ownBlock)(hown:w1.ownsRow base 49 2 v' (l.length+1) ((flatK aG 2 l.toArray).toList++aG x)):
  bc base w1 v' (l++[x])∧∀w0,Below base w0 W->Below base w0 w1:=by
 refine⟨?_,fun w0 hb=>hb.grown hgrow hbase fun k hk=>?_⟩
 ·show w1.ownsRow base 49 2 v' (l++[x]).length (flatK aG 2 (l++[x]).toArray).toList;rw[List.length_append,List.length_singleton,bM aG 2 cm];exact hown
 ·rcases dQ h with hr| ⟨r,hr,hle⟩
  ·rw[hr]at hk;cases hk
  ·rw[hr]at hk;cases hk;exact hle
theorem Gi {ops:Array Oper}{rest:List Oper}{o:Oper}{a:Act}{Q:Exit->Act->World->Prop}{w:World}(hgd:o.guard=.none)(s x:Operand)
  (ho:o.op=.call {callee:=.builtin .append,args:=#[s,x],argTypes:=#[55,55]})(base:Nat)(v:Value)(l:List En)(hs:a.eval s=v)(hown:bc base w v l)
  (b off c:Nat)(hx:a.eval x=.slice (some ⟨b,off,.none⟩) 1 c)(y:En)(c0:w.cell? ⟨b,off,.none⟩=some (.string y.1))(c1:w.cell? ⟨b,off+1,.none⟩=some (.string y.2))(hl:l.length<1000000)(hbase:base<=w.heap.size)
  (h:∀ao n c w',bc base w' (.slice ao n c) (l++[y])->(∀w0,Below base w0 w->Below base w0 w')->wpList Tryz.prog ops Q rest (a.put o.dst (.slice ao n c)) w'):wpList Tryz.prog ops Q (o::rest) a w:=by
 obtain⟨i0,hi,hz0,hz1,hz2⟩:=info_parts dY;refine wpList_append_own w hgd s x 55 ho base 49 i0 _ 2 32 Tryz.underlying55 hi hz0 hz1 hz2 rfl (by decide) v _ _ hs hown ⟨b,off,.none⟩ 1 c (aG y) hx rfl ?_ (dX y) (by unfold maxLen;omega) (by omega) hbase ?_
 ·intro j u hj;simp only[aG]at hj
  match j,hj with
  |0,hj=>simp at hj;subst hj;simpa[Addr.add]using c0
  |1,hj=>simp at hj;subst hj;simpa[Addr.add]using c1
 ·intro v' w' h1 h2 _;obtain⟨s1,s2⟩:=bc.step hbase hown h2 h1;obtain⟨dJ,n',c',rfl⟩:∃ao n c,v'=.slice ao n c:=by
   rcases h1.2 with⟨h,_⟩| ⟨g,cap,cur,h,_⟩
   ·exact⟨_,_,_,h⟩
   ·exact⟨_,_,_,h⟩
  exact h _ _ _ _ s1 s2
theorem bH {α:Type}[Inhabited α](enc:α->List Value)(k:Nat)(hk:∀x,(enc x).length=k):∀(m l:List α),(flatK enc k (l++m).toArray).toList=(flatK enc k l.toArray).toList++(flatK enc k m.toArray).toList
 |[],l=>by simp[flatK]
 |x::m,l=>by
  have e1:l++x::m=(l++[x])++m:=by simp
  have e2:(flatK enc k (x::m).toArray).toList=enc x++(flatK enc k m.toArray).toList:=by
   have h:=bH enc k hk m [x];have h2:=bM enc k hk [] x;rw[List.nil_append]at h2;rw[h2]at h;simpa[flatK]using h
  rw[e1,bH enc k hk m (l++[x]),bM enc k hk,e2,List.append_assoc]
theorem rG {ops:Array Oper}{rest:List Oper}{o:Oper}{a:Act}{Q:Exit->Act->World->Prop}{w:World}(hgd:o.guard=.none)(s x:Operand)
    (ho:o.op=.call {callee:=.builtin .append,args:=#[s,x],argTypes:=#[55,55]})(base:Nat)(v:Value)(l:List En)(hs:a.eval s=v)(hown:bc base w v l)
    (u:Value)(m:List En)(hx:a.eval x=u)(hu:Row aG 2 w u m)(hl:l.length+m.length<1000000)(hbase:base<=w.heap.size)(lm:List En)(hlm:l++m=lm)
    (h:∀ao n c w',bc base w' (.slice ao n c) lm->(∀w0,Below base w0 w->Below base w0 w')->wpList Tryz.prog ops Q rest (a.put o.dst (.slice ao n c)) w'):wpList Tryz.prog ops Q (o::rest) a w:=by
  subst hlm;obtain⟨i0,hi,hz0,hz1,hz2⟩:=info_parts dY;obtain⟨ao,cap,rfl,h1,h2,h3⟩:=hu;obtain⟨av,nv,cv,rfl⟩:∃ao n c,v=.slice ao n c:=by
    rcases hown.2 with⟨h,_⟩| ⟨g,cap,cur,h,_⟩
    · exact⟨_,_,_,h⟩
    · exact⟨_,_,_,h⟩
  cases ao with
  | none=>
    have hm:m=[]:=by
      rcases List.eq_nil_or_concat m with e| ⟨m',y,e⟩
      · exact e
      · obtain⟨b,off,e2,_⟩:=h3 (by rw[e];simp);cases e2
    subst hm;rw[h2 rfl]at hx;refine wpList_append_own_none hgd s x 55 ho base 49 i0 2 Tryz.underlying55 hi _ _ _ hs hown hx ?_;exact h _ _ _ _ (by rw[List.append_nil];exact hown) (fun _ hb=>hb)
  | some ad=>
    refine wpList_append_own w hgd s x 55 ho base 49 i0 _ 2 32 Tryz.underlying55 hi hz0 hz1 hz2 rfl (by decide) _ _ _ hs hown ad m.length cap (flatK aG 2 m.toArray).toList hx (by simp) ?_ (cD dX cm) (by unfold maxLen;omega) (by omega) hbase ?_
    · intro j u hj;obtain⟨hj1,hj2⟩:=List.getElem?_eq_some_iff.1 hj;have jL:j<m.length*2:=by simpa using hj1
      obtain⟨b,off,e2,_,hc⟩:=h3 (by intro e;rw[e]at jL;simp at jL);cases e2;rw[Go.WideShapes.add_plain,hc j jL,getElem!_pos _ j (by simpa using jL),<-hj2];simp
    · intro v' w' g1 g2 _;obtain⟨dJ,n',c',rfl⟩:∃ao n c,v'=.slice ao n c:=by
        rcases g1.2 with⟨h,_⟩| ⟨g,cap,cur,h,_⟩
        · exact⟨_,_,_,h⟩
        · exact⟨_,_,_,h⟩
      refine h _ _ _ _ ?_ (fun w0 hb=>hb.grown g2 hbase fun k hk=>?_)
      · show w'.ownsRow base 49 2 _ (l++m).length (flatK aG 2 (l++m).toArray).toList;rw[List.length_append,bH aG 2 cm];exact g1
      · rcases dQ hown with hr| ⟨r,hr,hle⟩
        · rw[hr]at hk;cases hk
        · rw[hr]at hk;cases hk;exact hle
theorem ownsRow_below {W W':World}{base:Nat}{e:TypeId}{k:Nat}{v:Value}{n:Nat}{xs:List Value}(h:W.ownsRow base e k v n xs)(hb:Below W.heap.size W W'):W'.ownsRow base e k v n xs:=by
 obtain⟨h1,h2⟩:=h;refine⟨h1,?_⟩;rcases h2 with h2| ⟨g,cap,cur,hv,hg,hh,r⟩
 ·exact Or.inl h2
 ·exact Or.inr ⟨g,cap,cur,hv,hg,by rw[hb.block g (Array.getElem?_eq_some_iff.1 hh).1];exact hh,r⟩
def tM (lo:Nat)(w:World)(v:Value)(l:List En):Prop:=
 ∃ao cap,v=.slice ao l.length cap∧l.length<=cap∧(ao=none->cap=0)∧(l≠[]->∃b off,ao=some ⟨b,off,none⟩∧b≠lo∧b<w.heap.size∧cG aG 2 w b off l)
def Kept (lo:Nat)(w W:World):Prop:=w.heap.size<=W.heap.size∧∀p:Addr,p.block≠lo->p.block<w.heap.size->W.cell? p=w.cell? p
theorem rH {lo:Nat}{w:World}{v:Value}{x:En}{l:List En}(h:tM lo w v (x::l)):
  ∃b off cap,v=.slice (some ⟨b,off,none⟩) (l.length+1) cap∧l.length+1<=cap∧b≠lo∧b<w.heap.size∧w.cell? ⟨b,off,none⟩=some (.string x.1)∧w.cell? ⟨b,off+1,none⟩=some (.string x.2)∧
   ∀ao,(l≠[]->ao=some ⟨b,off+2,none⟩)->(ao=none->cap-1=0)->tM lo w (.slice ao l.length (cap-1)) l:=by
 obtain⟨ao,cap,rfl,h1,h2,h3⟩:=h;obtain⟨b,off,rfl,hlo,hb,hc⟩:=h3 (by simp);have hlen:(x::l).length=l.length+1:=rfl;have c0:=hc 0 (by rw[hlen];omega);have c1:=hc 1 (by rw[hlen];omega);rw[get_flatK _ _ _ _ (by simp)]at c0;rw[get_flatK _ _ _ _ (by simp;omega)]at c1;refine⟨b,off,cap,rfl,h1,hlo,hb,by simpa[aG]using c0,by simpa[aG]using c1,fun ao ha hn=>⟨ao,cap-1,rfl,by rw[hlen]at h1;omega,hn,fun hne=>⟨b,off+2,ha hne,hlo,hb,fun t ht=>?_⟩⟩⟩;have ct:=hc (t+2) (by rw[hlen];omega);rw[get_flatK _ _ _ _ (by simp;omega)]at ct;rw[get_flatK _ _ _ _ (by simpa using ht),show off+2+t=off+(t+2) by omega,ct];have e1:(t+2)/2=t/2+1:=by omega
 have e2:(t+2)%2=t%2:=by omega
 rw[e1,e2]
 congr 3
 have ht2:t/2<l.length:=by omega
 rw[getElem!_pos _ _ (by simp;omega),getElem!_pos _ _ (by simpa using ht2)];simp
theorem iO {α:Type}[Inhabited α]{enc:α->List Value}{k:Nat}{w:World}{b n:Nat}{T:TypeId}{fr:Nat×Nat}{cs:Array Value}{l:List α}(hb:w.heap[b]? =some (.cells cs T fr))(hcs:cs=flatK enc k l.toArray)(hn:l.length=n):Row enc k w (.slice (some ⟨b,0,none⟩) n n) l:=by
 subst hn;refine⟨_,_,rfl,Nat.le_refl _,(fun h=>by cases h),fun _=>⟨b,0,rfl,(Array.getElem?_eq_some_iff.1 hb).1,fun t ht=>?_⟩⟩;simp only[World.cell?,hb,Nat.zero_add,hcs];have ht':t< (flatK enc k l.toArray).size:=by simpa using ht
 rw[Array.getElem?_eq_getElem ht',getElem!_pos _ t ht'];rfl
end
section
section
variable {w w':World}{q i k:Nat}{cs:Array Value}{t:TypeId}
def Cl (w:World)(q:Nat)(cs:Array Value)(t:TypeId):Prop:=w.heap[q]? =some (.cells cs t (0,0))
theorem Cl.lt (h:Cl w q cs t):q<w.heap.size:=(Array.getElem?_eq_some_iff.1 h).1
theorem Cl.cell (h:Cl w q cs t)(i:Nat):w.cell? ⟨q,i,none⟩=cs[i]? :=by unfold Cl at h;simp[World.cell?,h]
theorem Cl.new (w:World)(cs:Array Value)(t:TypeId):Cl (w.alloc (.cells cs t)) w.heap.size cs t:=by
 show(w.heap.push _)[w.heap.size]? =_;simp
theorem Cl.below {B:Nat}(h:Cl w q cs t)(b:Below B w w')(hq:q<B):Cl w' q cs t:=(b.block q hq).trans h
theorem Cl.on (h:Cl w q cs t)(b:Below w.heap.size w w'):Cl w' q cs t:=h.below b h.lt
theorem Cl.alloc (h:Cl w q cs t)(o:Obj):Cl (w.alloc o) q cs t:=h.on ((Below.refl _ _).alloc (Nat.le_refl _) _)
theorem Cl.two {a b:Value}(h:Cl w q #[a,b] t):w.cell? ⟨q,0,none⟩=some a∧w.cell? ⟨q,1,none⟩=some b:=⟨h.cell 0,h.cell 1⟩
end
theorem rI (x:En):#[Value.string x.1,Value.string x.2]=flatK aG 2 [x].toArray:=by
 apply Array.ext';have:=bM aG 2 cm [] x;rw[List.nil_append]at this;rw[this];simp[flatK,aG]
theorem Cl.row {w:World}{q:Nat}{x:En}{t:TypeId}(h:Cl w q #[.string x.1,.string x.2] t):Row aG 2 w (.slice (some ⟨q,0,none⟩) 1 1) [x]:=
 iO h (rI x) rfl
theorem Row.shape {w:World}{v:Value}{l:List En}(h:Row aG 2 w v l):∃ao c,v=.slice ao l.length c∧l.length<=c:=by
 obtain⟨ao,cap,rfl,h1,_⟩:=h;exact⟨ao,cap,rfl,h1⟩
theorem Row.part {w:World}{ao:Option Addr}{n c:Nat}{l:List En}(h:Row aG 2 w (.slice ao n c) l)(i j m:Nat)(hm:j=i+m)(hj:j<=l.length)(dJ:Option Addr)(hao:∀b off,ao=some ⟨b,off,none⟩->m≠0->dJ=some ⟨b,off+i*2,none⟩)(c':Nat)(hc:m<=c')(hz:dJ=none->c'=0):
  Row aG 2 w (.slice dJ m c') ((l.drop i).take m):=by
 obtain⟨tE,cap,e,h1,h2,h3⟩:=h;cases e;have hlen:((l.drop i).take m).length=m:=by simp;omega
 refine⟨dJ,c',by rw[hlen],by rw[hlen];exact hc,hz,fun hne=>?_⟩;have hm0:m≠0:=by intro e;subst e;simp at hne
 obtain⟨b,off,e,hlt,hcell⟩:=h3 (by intro e;subst e;simp at hj;omega);refine⟨b,off+i*2,hao b off e hm0,hlt,fun t ht=>?_⟩;rw[hlen]at ht;rw[Nat.add_assoc,hcell (i*2+t) (by omega),get_flatK _ _ _ _ (by simp;omega),get_flatK _ _ _ _ (by simp;omega)];have e1:(i*2+t)/2=i+t/2:=by omega
 have e2:(i*2+t)%2=t%2:=by omega
 rw[e1,e2,getElem!_pos l.toArray (i+t/2) (by simp;omega),getElem!_pos ((l.drop i).take m).toArray (t/2) (by simp;omega)];simp
def fI (base:Nat)(w:World)(v:Value)(l:List En):Prop:=bc base w v l∨(l=[]∧∃ad,v=.slice (some ad) 0 0)
theorem fI.own {base:Nat}{w:World}{v:Value}{l:List En}(h:fI base w v l):Own aG 2 base w v l:=by
 rcases h with h| ⟨rfl,ad,rfl⟩
 ·exact h.own
 ·exact⟨some ad,0,rfl,Nat.le_refl _,(fun h=>by cases h),fun h=>absurd rfl h⟩
theorem fI.empty (base:Nat)(w:World)(ao:Option Addr):fI base w (.slice ao 0 0) []:=by
 cases ao with
 |none=>exact Or.inl (bc.empty _ _)
 |some ad=>exact Or.inr ⟨rfl,ad,rfl⟩
theorem fI.below {base:Nat}{w w':World}{v:Value}{l:List En}(h:fI base w v l)(hb:Below w.heap.size w w'):fI base w' v l:=by
 rcases h with h|h
 ·exact Or.inl (ownsRow_below h hb)
 ·exact Or.inr h
theorem fI.mono {base base':Nat}{w:World}{v:Value}{l:List En}(h:fI base w v l)(hb:base'<=base):fI base' w v l:=by
 rcases h with h|h
 ·left;refine⟨h.1,?_⟩;rcases h.2 with h2| ⟨g,cap,cur,hv,hg,r⟩
  ·exact Or.inl h2
  ·exact Or.inr ⟨g,cap,cur,hv,Nat.le_trans hb hg,r⟩
 ·exact Or.inr h
theorem nW {base:Nat}{w:World}{v:Value}{n:Nat}{xs:List Value}(h:w.ownsRow base 49 2 v n xs):∃ao c,v=.slice ao n c:=by
 rcases h.2 with⟨h,h2⟩| ⟨g,cap,cur,h,_⟩
 ·rw[h2];exact⟨_,_,h⟩
 ·exact⟨_,_,h⟩
theorem bc.other' {base:Nat}{W:World}{v:Value}{n:Nat}{xs:List Value}(h:W.ownsRow base 49 2 v n xs):∀k,v.ownBlock=some k->base<=k:=by
 intro k hk;rcases dQ h with hr| ⟨r,hr,hle⟩
 ·rw[hr]at hk;cases hk
 ·rw[hr]at hk;cases hk;exact hle
theorem uz {base:Nat}{w:World}{v u:Value}{l m:List En}(ty:TypeId)(h:fI base w v l)(hu:Row aG 2 w u m)(hl:l.length+m.length<1000000)(hbase:base<=w.heap.size):
  ∃ao n c w',(Builtin.append_ #[55,55] ty #[v,u]).run Tryz.prog w=.ok (.slice ao n c) w'∧fI base w' (.slice ao n c) (l++m)∧(∀w0,Below base w0 w->Below base w0 w'):=by
 obtain⟨i0,hi,hz0,hz1,hz2⟩:=info_parts dY;have ht:=Tryz.underlying55;obtain⟨ao,cap,rfl,h1,h2,h3⟩:=hu;have news:∀ad,ao=some ad->∀j u,(flatK aG 2 m.toArray).toList[j]? =some u->w.cell? (ad.add j)=some u:=by
  intro ad e j u hj;obtain⟨hj1,hj2⟩:=List.getElem?_eq_some_iff.1 hj;have jL:j<m.length*2:=by simpa using hj1
  obtain⟨b,off,e2,_,hc⟩:=h3 (by intro e;rw[e]at jL;simp at jL);rw[e]at e2;cases e2;rw[Go.WideShapes.add_plain,hc j jL,getElem!_pos _ j (by simpa using jL),<-hj2];simp
 have T7:ao=none->m=[]:=by
  intro e;rcases List.eq_nil_or_concat m with e1| ⟨m',y,e1⟩
  ·exact e1
  ·obtain⟨b,off,e2,_⟩:=h3 (by rw[e1];simp);rw[e]at e2;cases e2
 rcases h with h| ⟨rfl,ad0,rfl⟩
 ·cases ao with
  |none=>
   have hm:=T7 rfl;subst hm;have hc0:=h2 rfl;subst hc0;obtain⟨av,cv,rfl⟩:=nW h;exact⟨_,_,_,w,run_append_owned_none (P:=Tryz.prog) w base _ ty _ i0 2 ht hi _ _ _ h,by rw[List.append_nil];exact Or.inl h,fun _ hb=>hb⟩
  |some ad=>
   obtain⟨v',w',hr,g1,g2,_⟩:=run_append_own (P:=Tryz.prog) w base 55 ty 49 i0 _ 2 32 ht hi hz0 hz1 hz2 rfl (by decide) v _ _ h ad m.length cap (flatK aG 2 m.toArray).toList (by simp) (news ad rfl) (cD dX cm) (by unfold maxLen;omega) (by omega) hbase;obtain⟨av,cv,rfl⟩:=nW g1;refine⟨_,_,_,w',hr,Or.inl ?_,fun w0 hb=>hb.grown g2 hbase fun k hk=>bc.other' h k hk⟩;show w'.ownsRow base 49 2 _ (l++m).length (flatK aG 2 (l++m).toArray).toList;rw[List.length_append,bH aG 2 cm];exact g1
 ·by_cases hm:m=[]
  ·subst hm;refine⟨some ad0,0,0,w,?_,Or.inr ⟨rfl,ad0,rfl⟩,fun _ hb=>hb⟩;cases ao with
   |none=>simp[Builtin.append_,run_underlying ht,sizeOf,typeInfo,hi,Builtin.lenOf,Builtin.firstCells,storeCells]
   |some ad=>
    have hfc:=run_firstCells_some (P:=Tryz.prog) w i0.size 0 ad 0 cap [] (by simp) (fun j u hj=>by simp at hj);simp[Builtin.append_,run_underlying ht,sizeOf,typeInfo,hi,Builtin.lenOf,hfc,storeCells]
  ·have hpos:0<m.length:=List.length_pos_iff.2 hm;cases ao with
   |none=>exact absurd (T7 rfl) hm
   |some ad=>
    obtain⟨v',w',hr,g1,g2⟩:=run_append_arg_grows (P:=Tryz.prog) w 55 ty 49 i0 _ 2 32 ht hi hz0 hz1 hz2 rfl (by decide) ad0 0 0 [] (by simp) (by intro j u hj;simp at hj) ad m.length cap (flatK aG 2 m.toArray).toList (by simp) (news ad rfl) (by omega) (by unfold maxLen;omega) (by omega);obtain⟨av,cv,rfl⟩:=nW g1;refine⟨_,_,_,w',hr,Or.inl ?_,fun w0 hb=>hb.grown g2 hbase fun k hk=>by cases hk⟩;have g3:w'.ownsRow w.heap.size 49 2 (.slice av (0+m.length) cv) m.length (flatK aG 2 m.toArray).toList:=by
     have e:0+m.length=m.length:=Nat.zero_add _;rw[e]at g1⊢;simpa using g1
    rcases fI.mono (Or.inl g3) hbase with g4| ⟨g4,_⟩
    ·exact g4
    ·exact absurd g4 hm
theorem Gj {ops:Array Oper}{rest:List Oper}{o:Oper}{a:Act}{Q:Exit->Act->World->Prop}{w:World}(hgd:o.guard=.none)(s x:Operand)
  (ho:o.op=.call {callee:=.builtin .append,args:=#[s,x],argTypes:=#[55,55]})(base:Nat)(v:Value)(l:List En)(hs:a.eval s=v)(hown:fI base w v l)
  (u:Value)(m:List En)(hx:a.eval x=u)(hu:Row aG 2 w u m)(hl:l.length+m.length<1000000)(hbase:base<=w.heap.size)(lm:List En)(hlm:l++m=lm)
  (h:∀ao n c w',fI base w' (.slice ao n c) lm->(∀w0,Below base w0 w->Below base w0 w')->wpList Tryz.prog ops Q rest (a.put o.dst (.slice ao n c)) w'):wpList Tryz.prog ops Q (o::rest) a w:=by
 subst hlm;refine wpList_plain hgd fun K hK'=>?_;obtain⟨ao,n,c,w',hrun,h1,h2⟩:=uz o.type hown hu hl hbase;unfold Oper.wp;simp[execOp,ho,resolve,invoke,builtin,hs,hx,hrun,Result.andThen];exact hK' _ _ (h ao n c w' h1 h2)
theorem Qb {ops:Array Oper}{o:Oper}{a:Act}{K:Act->World->Prop}{Q:Exit->Act->World->Prop}{E:Prop}{w:World}(hg:o.guard=none)(s x:Operand)
  (ho:o.op=.call {callee:=.builtin .append,args:=#[s,x],argTypes:=#[55,55]})(base:Nat)(v:Value)(l:List En)(hs:a.eval s=v)(hown:fI base w v l)
  (u:Value)(m:List En)(hx:a.eval x=u)(hu:Row aG 2 w u m)(hl:l.length+m.length<1000000)(hbase:base<=w.heap.size)(lm:List En)(hlm:l++m=lm)
  (h:∀ao n c w',fI base w' (.slice ao n c) lm->(∀w0,Below base w0 w->Below base w0 w')->K (a.put o.dst (.slice ao n c)) w'):
  if Region.wanted o (yielded ops a.tmps)=true then Oper.wp Tryz.prog o a w K Q else E:=by
 subst hlm;have hw:Region.wanted o (yielded ops a.tmps)=true:=by simp[Region.wanted,hg]
 rw[if_pos hw];obtain⟨ao,n,c,w',hrun,h1,h2⟩:=uz o.type hown hu hl hbase;unfold Oper.wp execOp;simp only[ho,resolve,invoke,builtin,Sem.run_bind,Sem.run_pure,Result.andThen_ok,List.map_toArray,List.map_cons,List.map_nil,hs,hx,hrun];exact h ao n c w' h1 h2
end
section
def fX (k v:ByteArray):Int:=if cM k v=true then 0 else 110
theorem dC {a b:Bool}(h:a=b):Ending.returned (.bool a)=Ending.returned (.bool b):=by rw[h]
theorem lh {a b:Int}(h:a=b):Ending.returned (.int .i64 a)=Ending.returned (.int .i64 b):=by rw[h]
theorem vJ {k v:ByteArray}(h:¬(1<=k.size∧k.size<=16∧v.size<=40)):fX k v=110:=by
 unfold fX;rw[if_neg fun c=>h (aY.1 c)]
theorem Gk {k v:ByteArray}(h:1<=k.size∧k.size<=16∧v.size<=40):fX k v=0:=by
 unfold fX;rw[if_pos (aY.2 h)]
theorem Gl (s:ByteArray):s.toList.length=s.size:=by rw[Lib.toList_data,Lib.size_eq]
theorem Gm {k:ByteArray}(h:k.size=0):k=⟨#[]⟩:=by
 apply ByteArray.ext;apply Array.toList_inj.1;rw[Lib.size_eq]at h;exact List.eq_nil_of_length_eq_zero h
theorem Gn {k:ByteArray}(h:k.size≠0):¬k.toList=[]:=by
 intro e;have:=congrArg List.length e;rw[Gl]at this;exact h this
theorem Gp {k:ByteArray}(h:k.size≠0):k.toList.isEmpty=false:=by
 cases e:k.toList with
 |nil=>exact absurd e (Gn h)
 |cons a l=>rfl
theorem gS (k v:ByteArray)(w:World):Calls Tryz.prog 57 #[.string k,.string v] w fun e w'=>e=.returned (.int .i64 (fX k v))∧w=w':=by
 by_cases h1:k.size=0
 ·have E:Hid (fX k v=110):=vJ (by omega);obtain rfl:k=⟨#[]⟩:=Gm h1;clear h1;go_enter Tryz.func57,Tryz.ntmps57;go_wp2;go_ret;exact⟨lh E.out.symm,rfl⟩
 ·have e1:=Gp h1;have e2:=Gn h1;by_cases h2:(16:Int)< (k.size:Int)
  ·have E:Hid (fX k v=110):=vJ (by omega);go_enter Tryz.func57,Tryz.ntmps57;go_wp2;go_ret;exact⟨lh E.out.symm,rfl⟩
  ·by_cases h3:(40:Int)< (v.size:Int)
   ·have E:Hid (fX k v=110):=vJ (by omega);go_enter Tryz.func57,Tryz.ntmps57;go_wp2;go_ret;exact⟨lh E.out.symm,rfl⟩
   ·have E:Hid (fX k v=0):=Gk (by omega);go_enter Tryz.func57,Tryz.ntmps57;go_wp2;go_ret;exact⟨lh E.out.symm,rfl⟩
theorem rJ (x:En)(k:ByteArray)(W:World):Calls Tryz.prog 121 #[.agg #[.string x.1,.string x.2],.string k] W fun e w'=>e=.returned (.int .i64 (ry x.1 k))∧∃q os',w'=grow (W.drewN q) os':=by
 have hcon:=fun W'=>Any.strings_Compare Tryz.Kw x.1 k W';change ∀W',Calls Tryz.prog 122 _ _ _ at hcon;unfold ry;generalize Lib.compareBytes x.1.data.toList k.data.toList=r at hcon⊢;go_enter Tryz.func121,Tryz.ntmps121
 go_wp2_with (go_at_call 122;refine(hcon _).mono ?_;rintro e w' ⟨rfl,rfl⟩)
 go_ret;exact⟨rfl,0,_,by rw[alloc_eq_grow];rfl⟩
def Ag (l:List En)(k:ByteArray)(i:Nat)(f:Bool):Prop:=i<=l.length∧(f=true->i<l.length)∧(Rg l->i=jh l k∧f=gL l k)
theorem Ag.at {l:List En}{k:ByteArray}{i:Nat}{f:Bool}(hi:i<=l.length)(h1:Rg l->(∀t,t<i->bp l[t]!.1 k=true)∧(∀t,i<=t->t<l.length->bp l[t]!.1 k=false))(hf:f=true↔i<l.length∧l[i]!.1=k):Ag l k i f:=by
 refine⟨hi,fun e=>(hf.1 e).1,fun hr=>?_⟩;have e:=PW hr hi (h1 hr).1 (h1 hr).2;refine⟨e,?_⟩;rw[Bool.eq_iff_iff,hf,rA hr k,<-e]
theorem Ah (v:Value)(l:List En)(k:ByteArray)(w:World)(h:Row aG 2 w v l)(hl:l.length<=1000000):
  Calls Tryz.prog 120 #[v,.string k,.func (.func 121) #[] #[]] w fun e w'=>∃(i:Nat) (f:Bool),e=.returned (.tuple #[.int .i64 i,.bool f])∧Ag l k i f∧Below w.heap.size w w':=by
 obtain⟨ao,cap,rfl,h1,h2,h3⟩:=h;have H3:Aside (l≠[]->∃b off,ao=some ⟨b,off,none⟩∧b<w.heap.size∧cG aG 2 w b off l):=h3;clear h3;have HC:Hid (∀(x:En) (W:World),Calls Tryz.prog 121 #[.agg #[.string x.1,.string x.2],.string k] W fun e w'=>e=.returned (.int .i64 (ry x.1 k))∧∃q os',w'=grow (W.drewN q) os'):=fun x W=>rJ x k W;go_enter Tryz.func120,Tryz.ntmps120;go_wp2
 go_loopg [9,10] l.length (fun kx s9 s10 wr=>∃lo hi:Nat,s9=.int .i64 lo∧s10=.int .i64 hi∧lo<=hi∧hi<=l.length∧hi-lo<=kx∧Hid (GR w wr)∧Hid (Rg l->(∀t,t<lo->bp l[t]!.1 k=true)∧(∀t,hi<=t->t<l.length->bp l[t]!.1 k=false)))
 case atStart=>exact⟨0,l.length,rfl,rfl,Nat.zero_le _,Nat.le_refl _,by omega,GR.refl _,fun _=>⟨fun t ht=>absurd ht (Nat.not_lt_zero _),fun t h1 h2=>by omega⟩⟩
 case round=>
  obtain⟨lo,hi,rfl,rfl,hlh,hin,hg,HG,I⟩:=hrel;by_cases hlt:lo<hi
  ·have Zj:(lo+hi)/2<l.length:=by omega
   obtain⟨b,off,rfl,hb,x1,x2⟩:=ew H3.out ((lo+hi)/2) Zj HG.out.below;generalize hx:l[(lo+hi)/2]! =x at*;have X:Hid (l[(lo+hi)/2]! =x):=hx;clear hx;have C:Hid _:=HC.out x wr;obtain⟨r,hr⟩:∃r,ry x.1 k=r:=⟨_,rfl⟩;have R:Hid (ry x.1 k=r):=hr;rw[hr]at C;clear hr;by_cases hyx:r<0
   ·have LT:Hid (bp x.1 k=true):=(BL _ _).1 (by rw[R.out];exact hyx)
    go_wp2_with (go_at_call 121;refine Calls.mono C.out ?_;rintro e w' ⟨rfl,nq,osq,rfl⟩)
    go_roundg (hi- ((lo+hi)/2+1))
    case measure=>omega
    case rel=>
     refine⟨(lo+hi)/2+1,hi,by rw[show((lo:Int)+(hi:Int))/2+1=(((lo+hi)/2+1:Nat):Int) by omega],rfl,by omega,hin,Nat.le_refl _,HG.out.trans ⟨nq,osq,rfl⟩,fun hr=>⟨fun t ht=>?_,(I.out hr).2⟩⟩;rcases Nat.lt_or_ge t ((lo+hi)/2)with c|c
     ·exact cQ (hr.up.at c Zj) (by rw[X.out];exact LT.out)
     ·rw[show t=(lo+hi)/2 by omega,X.out];exact LT.out
   ·have LT:Hid (bp x.1 k=false):=by
     show _=_;cases e:bp x.1 k
     ·rfl
     ·exact absurd (by rw[<-R.out];exact(BL _ _).2 e) hyx
    go_wp2_with (go_at_call 121;refine Calls.mono C.out ?_;rintro e w' ⟨rfl,nq,osq,rfl⟩)
    go_roundg ((lo+hi)/2-lo)
    case measure=>omega
    case rel=>
     refine⟨lo,(lo+hi)/2,rfl,by rw[show((lo:Int)+(hi:Int))/2=(((lo+hi)/2:Nat):Int) by omega],by omega,by omega,Nat.le_refl _,HG.out.trans ⟨nq,osq,rfl⟩,fun hr=>⟨(I.out hr).1,fun t ht htn=>?_⟩⟩;cases e:bp l[t]!.1 k
     ·rfl
     ·exfalso;rcases Nat.lt_or_ge ((lo+hi)/2) t with c|c
      ·have:=cQ (hr.up.at c htn) e;rw[X.out,LT.out]at this;cases this
      ·rw[show t=(lo+hi)/2 by omega,X.out,LT.out]at e;cases e
  ·obtain rfl:hi=lo:=by omega
   by_cases hn:hi<l.length
   ·obtain⟨b,off,rfl,hb,x1,x2⟩:=ew H3.out hi hn HG.out.below;generalize hx:l[hi]! =x at*;have X:Hid (l[hi]! =x):=hx;clear hx;have C:Hid _:=HC.out x wr;obtain⟨r,hr⟩:∃r,ry x.1 k=r:=⟨_,rfl⟩;have R:Hid (ry x.1 k=r):=hr;rw[hr]at C;clear hr;by_cases hyx:r=0
    ·go_wp2_with (go_at_call 121;refine Calls.mono C.out ?_;rintro e w' ⟨rfl,nq,osq,rfl⟩)
     go_ret2;exact⟨hi,true,rfl,Ag.at hin I.out (by rw[X.out];exact⟨fun _=>⟨hn,(BM _ _).1 (by rw[R.out];exact hyx)⟩,fun _=>rfl⟩),(HG.out.trans ⟨nq,osq,rfl⟩).below⟩
    ·have hr0:(r==0)=false:=beq_eq_false_iff_ne.2 hyx
     go_wp2_with (go_at_call 121;refine Calls.mono C.out ?_;rintro e w' ⟨rfl,nq,osq,rfl⟩)
     go_ret2;exact⟨hi,false,rfl,Ag.at hin I.out (by rw[X.out];exact⟨(fun h=>by cases h),fun h=>absurd (by rw[<-R.out];exact(BM _ _).2 h.2) hyx⟩),(HG.out.trans ⟨nq,osq,rfl⟩).below⟩
   ·go_wp2;go_ret2;exact⟨hi,false,rfl,Ag.at hin I.out ⟨(fun h=>by cases h),fun h=>absurd h.1 hn⟩,HG.out.below⟩
theorem mI (v:Value)(l:List En)(k:ByteArray)(w:World)(h:Row aG 2 w v l)(hl:l.length<=1000000):
  Calls Tryz.prog 89 #[v,.string k] w fun e w'=>∃(i:Nat) (f:Bool),e=.returned (.tuple #[.int .i64 i,.bool f])∧Ag l k i f∧Below w.heap.size w w':=by
 have C:Hid _:=Ah v l k w h hl;obtain⟨ao,c,rfl,_⟩:=h.shape;clear h;go_enter Tryz.func89,Tryz.ntmps89
 go_wp2_with (go_at_call 120;refine Calls.mono C.out ?_;rintro e w' ⟨i,f,rfl,hf,hb⟩)
 go_ret2;exact⟨i,f,rfl,hf,hb⟩
end
section
theorem GR.drewN {w w':World}(h:GR w w')(n:Nat):GR w (w'.drewN n):=by
 obtain⟨q,os,rfl⟩:=h;exact⟨q+n,os,by show grow ((w.drewN q).drewN n) os=_;rw[World.drewN_drewN]⟩
theorem BS (k v:ByteArray)(e:Int)(he:fX k v=e)(W:World):∀m,Calls Tryz.prog 57 #[.string k,.string v] (W.drewN m) fun r w'=>r=.returned (.int .i64 e)∧∃m',w'=W.drewN m':=fun m=>
 (gS k v (W.drewN m)).mono fun _ _ ⟨h1,h2⟩=>⟨by rw[h1,he],m,h2.symm⟩
theorem vK {l:List En}{i:Nat}{b c:Bool}(h1:cM l[i]!.1 l[i]!.2=b)(h2:(i==0||bp l[i-1]!.1 l[i]!.1)=c):BN l i=(b&&c):=by
 unfold BN;rw[h1,h2]
theorem kA {k v:ByteArray}:fX k v=if cM k v=true then 0 else 110:=rfl
theorem iP (v:Value)(l:List En)(w:World)(h:Row aG 2 w v l)(hl:l.length<=1000000):
  Calls Tryz.prog 87 #[v] w fun e w'=>e=.returned (.bool (ia l))∧Below w.heap.size w w':=by
 obtain⟨ao,cap,rfl,h1,h2,h3⟩:=h;have H3:Aside (l≠[]->∃b off,ao=some ⟨b,off,none⟩∧b<w.heap.size∧cG aG 2 w b off l):=h3;clear h3;go_enter Tryz.func87,Tryz.ntmps87;go_wp2
 go_loopg [7] l.length (fun kx s7 wr=>∃(i:Nat),s7=.int .i64 i∧i<=l.length∧l.length-i<=kx∧Hid (GR w wr)∧Hid (∀j,j<i->BN l j=true))
 case atStart=>exact⟨0,rfl,Nat.zero_le _,Nat.le_refl _,GR.refl _,fun j hj=>absurd hj (Nat.not_lt_zero _)⟩
 case round=>
  obtain⟨i,rfl,hi,hki,HG,HN⟩:=hrel;by_cases hil:i<l.length
  ·have fP:(i:Int)< (l.length:Int):=by omega
   obtain⟨b,off,rfl,hb,x1,x2⟩:=ew H3.out i hil HG.out.below;obtain⟨x,hx⟩:∃x,l[i]! =x:=⟨_,rfl⟩;rw[hx]at x1 x2;have X:Hid (l[i]! =x):=hx;clear hx;have HG2:Hid (GR w (wr.alloc (.cells #[.string x.1,.string x.2] 49))):=HG.out.alloc _;have y1:(wr.alloc (.cells #[.string x.1,.string x.2] 49)).cell? ⟨wr.heap.size,0,none⟩=some (.string x.1):=by simp
   have hsz:wr.heap.size< (wr.alloc (.cells #[.string x.1,.string x.2] 49)).heap.size:=by simp
   have y2:(wr.alloc (.cells #[.string x.1,.string x.2] 49)).cell? ⟨wr.heap.size,1,none⟩=some (.string x.2):=by simp
   cases hm:cM x.1 x.2
   ·have Q1:Hid _:=BS x.1 x.2 110 (by rw[kA,hm];rfl) (wr.alloc (.cells #[.string x.1,.string x.2] 49));have RF:Hid (ia l=false):=z8 i hil (vK (b:=false) (c:=(i==0||bp l[i-1]!.1 l[i]!.1)) (by rw[X.out];exact hm) rfl);clear HN hm
    go_upto_region 4 with fail
    generalize wr.alloc (.cells #[.string x.1,.string x.2] 49)=W at*
    go_quiet ((go_at_call 57;with_reducible exact Q1.out _))
    go_wp2;go_ret;exact⟨dC RF.out.symm,(HG2.out.drewN _).below⟩
   ·have Q1:Hid _:=BS x.1 x.2 0 (by rw[kA,hm];rfl) (wr.alloc (.cells #[.string x.1,.string x.2] 49));have M:Hid (cM x.1 x.2=true):=hm;clear hm;rcases Nat.eq_zero_or_pos i with hi0|hi0
    ·have N2:Hid (∀j,j<i+1->BN l j=true):=fun j hj=>by
      obtain rfl:j=i:=by omega
      rw[vK (b:=true) (c:=true) (by rw[X.out];exact M.out) (by rw[hi0];rfl)];rfl
     have hd:decide ((0:Int)< (i:Int))=false:=by rw[hi0];decide
     have hd2:decide (0<i)=false:=by rw[hi0];decide
     clear HN hi0
     go_upto_region 4 with fail
     generalize wr.alloc (.cells #[.string x.1,.string x.2] 49)=W at*
     go_quiet ((go_at_call 57;with_reducible exact Q1.out _))
     go_wp2
     go_roundg (l.length- (i+1))
     case measure=>omega
     case rel=>exact⟨i+1,by go_num,by omega,Nat.le_refl _,HG2.out.drewN _,N2⟩
    ·obtain⟨i,rfl⟩:∃i',i=i'+1:=⟨i-1,by omega⟩;clear hi0;obtain⟨b2,Xn,e2,hb2,z1,_⟩:=ew H3.out i (by omega) HG.out.below;cases e2;obtain⟨y,hy⟩:∃y,l[i]! =y:=⟨_,rfl⟩;rw[hy]at z1;have Y:Hid (l[i]! =y):=hy;clear hy;have z2:(wr.alloc (.cells #[.string x.1,.string x.2] 49)).cell? ⟨b,off+i*2,none⟩=some (.string y.1):=Lib.cell?_alloc_some _ z1;cases hlt:bp y.1 x.1
     ·have RF:Hid (ia l=false):=z8 (i+1) hil (vK (b:=true) (c:=false) (by rw[X.out];exact M.out) (by
       rw[show i+1-1=i from rfl,X.out,Y.out,hlt];rfl))
      have hlt2:Op.bytesLess y.1.toList x.1.toList=false:=hlt;clear HN hlt
      go_upto_region 4 with fail
      generalize wr.alloc (.cells #[.string x.1,.string x.2] 49)=W at*
      go_quiet ((go_at_call 57;with_reducible exact Q1.out _))
      go_wp2;go_ret;exact⟨dC RF.out.symm,(HG2.out.drewN _).below⟩
     ·have N2:Hid (∀j,j<i+1+1->BN l j=true):=fun j hj=>by
       rcases Nat.lt_or_ge j (i+1)with c|c
       ·exact HN.out j c
       ·obtain rfl:j=i+1:=by omega
        rw[vK (b:=true) (c:=true) (by rw[X.out];exact M.out) (by rw[show i+1-1=i from rfl,X.out,Y.out,hlt];simp)];rfl
      have hlt2:Op.bytesLess y.1.toList x.1.toList=true:=hlt;clear HN hlt
      go_upto_region 4 with fail
      generalize wr.alloc (.cells #[.string x.1,.string x.2] 49)=W at*
      go_quiet ((go_at_call 57;with_reducible exact Q1.out _))
      go_wp2
      go_roundg (l.length- (i+1+1))
      case measure=>omega
      case rel=>exact⟨i+1+1,by go_num,by omega,Nat.le_refl _,HG2.out.drewN _,N2⟩
  ·have fP:¬(i:Int)< (l.length:Int):=by omega
   obtain rfl:i=l.length:=by omega
   have RT:Hid (ia l=true):=vD HN.out;clear HN;go_wp2;go_ret;exact⟨dC RT.out.symm,HG.out.below⟩
end
section
def Gv (w:World)(l:List En)(e:Ending)(w':World):Prop:=∃v',e=.returned v'∧Own aG 2 w.heap.size w' v' l∧Below w.heap.size w w'
theorem Gq:Tryz.prog.underlying 55=some (.slice (Tryz.prog.elem 55)):=by kernel_rfl
theorem Gr (u:World):(sizeOf (Tryz.prog.elem 55)).run Tryz.prog u=.ok 2 u:=by kernel_rfl
theorem add0 (a:Addr):a.add 0=a:=by
 cases a;simp[Addr.add]
theorem vM (ao:Option Addr)(n c k:Nat)(hk:k<=c)(u:World):(Instr.slice 55 (.slice ao n c) none (some (.int .i64 (k:Int))) none).run Tryz.prog u=.ok (.slice ao k c) u:=by
 rw[run_slice_h u 55 ao n c Gq .i64 k (by omega) (by omega),Gr];simp only[Result.andThen,sliced,Int.toNat_natCast];cases ao<;>simp[add0]
theorem Gs (ao:Option Addr)(n c:Nat)(u:World):(Instr.slice 55 (.slice ao n c) none (some (.int .i64 0)) (some (.int .i64 0))).run Tryz.prog u=.ok (.slice ao 0 0) u:=by
 rw[run_slice_hm u 55 ao n c Gq .i64 .i64 0 0 (by omega) (by omega) (by omega),Gr];simp[Result.andThen,sliced]
theorem vN (ao:Option Addr)(n c k:Nat)(hk:k<=n)(u:World):(Instr.slice 55 (.slice ao n c) (some (.int .i64 (k:Int))) none none).run Tryz.prog u=.ok (.slice (if c=k then ao else ao.map (·.add (k*2))) (n-k) (c-k)) u:=by
 rw[run_slice_l u 55 ao n c Gq .i64 k (by omega) (by omega),Gr];simp[Result.andThen,sliced]
theorem Row.pre {w:World}{ao:Option Addr}{n c:Nat}{l:List En}(h:Row aG 2 w (.slice ao n c) l)(k:Nat)(hk:k<=l.length):Row aG 2 w (.slice ao k c) (l.take k):=by
 have e:=h;obtain⟨tE,cap,e1,h1,h2,h3⟩:=e;cases e1;have:=h.part 0 k k (by omega) hk ao (fun b off e _=>by rw[e];simp) c (by omega) h2;simpa using this
theorem Row.Zk {w:World}{ao:Option Addr}{n c:Nat}{l:List En}(h:Row aG 2 w (.slice ao n c) l)(k:Nat)(hk:k<=l.length):Row aG 2 w (.slice (if c=k then ao else ao.map (·.add (k*2))) (n-k) (c-k)) (l.drop k):=by
 have e:=h;obtain⟨tE,cap,e1,h1,h2,h3⟩:=e;cases e1;have:=h.part k l.length (l.length-k) (by omega) (Nat.le_refl _) (if c=k then ao else ao.map (·.add (k*2))) (fun b off e hm=>by
  rw[if_neg (by omega),e]
  show some (Addr.add ⟨b,off,none⟩ (k*2))=_
  rw[Go.WideShapes.add_plain]) (c-k) (by omega) (fun e=>by
  by_cases c1:c=k
  ·omega
  ·rw[if_neg c1]at e
   have:ao=none:=by cases ao with
    |none=>rfl
    |some a=>simp at e
   have:=h2 this
   omega)
 rwa [List.take_of_length_le (by simp)]at this
theorem ya (a:Addr)(c:Nat)(w:World):Calls Tryz.prog 88 #[.slice (some a) 0 c] w (Gv w ([]:List En)):=by
 obtain⟨i0,hi,hz0,hz1,hz2⟩:=info_parts dY;have q22:∀(w:World) (a:Option Addr) (n c n' c':Nat),(binOp .eql 55 (.slice a n c) (.slice none n' c')).run Tryz.prog w=.ok (.bool a.isNone) w:=fun w a n c n' c'=>Lib.run_eql_slice_nil w _ _ a n c n' c' Tryz.underlying55;go_enter Tryz.func88,Tryz.ntmps88
 go_wp2_with (at_builtin;refine wpList_append_own _ rfl _ _ 55 rfl w.heap.size 49 i0 _ 2 32 Tryz.underlying55 hi hz0 hz1 hz2 rfl (by decide) _ _ _ rfl (World.ownsRow_made w #[] 0 (Nat.le_refl _) (Nat.zero_le _) (by simp)) a 0 c [] rfl rfl (fun j u hj=>by simp at hj) (fun u hu=>by simp at hu) (by simp[maxLen]) (by simp) (by simp) ?_)
 intro v' w1 hown hgrow hnil;go_wp2;go_ret;refine⟨v',rfl,cj (n:=0) (by decide) (by simpa[flatK]using hown),?_⟩;exact((Below.refl _ w).alloc (Nat.le_refl _) _).grown hgrow (by simp) (by intro k hk;simp[Value.ownBlock]at hk;omega)
theorem kB (v:Value)(l:List En)(w:World)(h:Row aG 2 w v l)(hl:l.length<=1000000):Calls Tryz.prog 88 #[v] w (Gv w l):=by
 obtain⟨ao,cap,rfl,h1,h2,h3⟩:=h;by_cases hne:l=[]
 ·subst hne;cases ao with
  |none=>
   refine(AnyE.slices_Clone_nil Tryz.rf _ _ w).mono ?_;rintro e w' ⟨rfl,rfl⟩;exact⟨_,rfl,Own.nil,Below.refl _ _⟩
  |some a=>exact ya a cap w
 ·obtain⟨b,off,rfl,hb,hc⟩:=h3 hne;obtain⟨i0,hi,hz0,hz1,hz2⟩:=info_parts dY;refine(AnyE.slices_Clone Tryz.rf i0 _ 2 32 hi hz0 hz1 hz2 rfl (by decide) Tryz.sizeOf49 b off l.length cap (flatK aG 2 l.toArray).toList w (by simp) (by unfold maxLen;omega) (by omega) (fun j u hj=>?_) (cD dX cm)).mono ?_
  ·obtain⟨hj1,hj2⟩:=List.getElem?_eq_some_iff.1 hj;have jL:j<l.length*2:=by simpa using hj1
   rw[hc j jL,getElem!_pos _ j (by simpa using jL),<-hj2];simp
  ·rintro e w' ⟨v',rfl,hown,_,hbel⟩;exact⟨v',rfl,cj (by decide) hown,hbel⟩
theorem lK (v vo:Value)(l m:List En)(i j:Nat)(w:World)(h:Row aG 2 w v l)(ho:Row aG 2 w vo m)(hij:i<=j)(hj:j<=l.length)(hl:l.length+l.length+m.length<1000000):
  Calls Tryz.prog 90 #[v,.int .i64 i,.int .i64 j,vo] w (Gv w (l.take i++m++l.drop j)):=by
 obtain⟨ao,c,rfl,hc⟩:=h.shape;obtain⟨lL,c2,rfl,hc2⟩:=ho.shape;have P1:Aside (Row aG 2 w (.slice ao i c) (l.take i)):=h.pre i (by omega);have P2:Aside (Row aG 2 w (.slice lL m.length c2) m):=ho;have P3:Aside (Row aG 2 w _ (l.drop j)):=h.Zk j hj;have e0:=Gs ao l.length c;have e1:=vM ao l.length c i (by omega);have e2:=vN ao l.length c j hj;generalize(if c=j then ao else ao.map (·.add (j*2)))=zS at e2 P3;have t1:(l.take i).length=i:=by simp;omega
 have t3:(l.drop j).length=l.length-j:=by simp
 have D1:Aside (Row aG 2 w.drew (.slice ao i c) (l.take i)):=P1.out.below (Below.refl _ w).drew;have Z0:Aside (fI w.heap.size w.drew (.slice ao 0 0) []):=fI.empty _ _ _;generalize l.take i=x at*;generalize l.drop j=y at*;obtain⟨xm,hxm⟩:∃xm,x++m=xm:=⟨_,rfl⟩;have lxm:xm.length=i+m.length:=by rw[<-hxm,List.length_append,t1]
 rw[hxm];obtain⟨tot,htot⟩:∃tot,xm++y=tot:=⟨_,rfl⟩;rw[htot];have XM:Hid (x++m=xm):=hxm;have Xo:Hid (xm++y=tot):=htot;clear h ho P1 hxm htot;go_enter Tryz.func90,Tryz.ntmps90
 go_wp2_with fail
 go_region_held3 (fun _=>True) (trivial) ((refine Qb rfl _ _ rfl w.heap.size _ [] rfl Z0.out _ x rfl D1.out (by simp;omega) (Nat.le_refl _) x (by simp) ?_;intro a1 n1 c1 w1 O1 B1))
 have Zl:Aside (fI w.heap.size w1 (.slice a1 n1 c1) x):=O1;have Xp:Hid (Below w.heap.size w w1):=B1 _ (Below.refl _ w).drew;have R1:Aside (Row aG 2 w1 (.slice lL m.length c2) m):=P2.out.below Xp.out;have s1:=Xp.out.size;clear O1 B1 P2 Z0 D1 e0 e1
 go_wp2_with (at_builtin;refine Gj rfl _ _ rfl w.heap.size _ x rfl Zl.out _ m rfl R1.out (by omega) s1 xm XM.out ?_)
 intro a2 n2 c3 w2 O2 B2;have Zm:Aside (fI w.heap.size w2 (.slice a2 n2 c3) xm):=O2;have Xq:Hid (Below w.heap.size w w2):=B2 _ Xp.out;have R2:Aside (Row aG 2 w2 (.slice zS (l.length-j) (c-j)) y):=P3.out.below Xq.out;have s2:=Xq.out.size;clear O2 B2 Zl R1 P3
 go_wp2_with (at_builtin;refine Gj rfl _ _ rfl w.heap.size _ xm rfl Zm.out _ y rfl R2.out (by omega) s2 tot Xo.out ?_)
 intro a4 n4 c4 w4 O4 B4;have O4':Aside (fI w.heap.size w4 (.slice a4 n4 c4) tot):=O4;have B4':Hid (Below w.heap.size w w4):=B4 _ Xq.out;clear O4 B4 Zm R2 e2;go_wp2;go_ret;exact⟨_,rfl,O4'.out.own,B4'.out⟩
def pU (l:List En)(k:ByteArray):ByteArray:=if ia l=true then iM l k else⟨#[]⟩
def ll (l:List En)(k:ByteArray):Bool:=ia l&&gL l k
def Ai (l:List En)(k v:ByteArray):List En:=if(cM k v&&ia l)=true then jK l k v else l
def yb (l:List En)(k:ByteArray):List En:=if ia l=true then iF l k else l
theorem Gu {l:List En}{k:ByteArray}{i:Nat}{f:Bool}(hf:Ag l k i f)(h:f=false∨ia l=false):pU l k=⟨#[]⟩∧ll l k=false:=by
 unfold pU ll;cases hr:ia l
 ·exact⟨rfl,rfl⟩
 ·have h2:=(hf.2.2 (rg_of hr)).2;rcases h with h|h
  ·rw[h]at h2;rw[<-h2,vF h2.symm];exact⟨rfl,rfl⟩
  ·rw[hr]at h;cases h
theorem Ls {l:List En}{k:ByteArray}{i:Nat}(hf:Ag l k i true)(hr:ia l=true):pU l k=l[i]!.2∧ll l k=true:=by
 obtain⟨h1,h2⟩:=hf.2.2 (rg_of hr);unfold pU ll;rw[hr,if_pos rfl,PY (rg_of hr) h2.symm,<-h1,<-h2];exact⟨rfl,rfl⟩
theorem BU (v:Value)(l:List En)(k:ByteArray)(w:World)(h:Row aG 2 w v l)(hl:l.length<=1000000):
  Calls Tryz.prog 75 #[v,.string k] w fun e w'=>e=.returned (.tuple #[.string (pU l k),.bool (ll l k)])∧Below w.heap.size w w':=by
 have C:Hid _:=mI v l k w h hl;have H:Aside (Row aG 2 w v l):=h;obtain⟨ao,c,rfl,_⟩:=h.shape;clear h;go_enter Tryz.func75,Tryz.ntmps75
 go_upto_region 2 with(go_at_call 89;refine Calls.mono C.out ?_;rintro e w1 ⟨i,f,rfl,hf,hb⟩)
 have FN:Hid (Ag l k i f):=hf;have hil:f=true->i<l.length:=hf.2.1;have B1:Hid (Below w.heap.size w w1):=hb;clear hf hb C;cases f with
 |false=>
  obtain⟨e1,e2⟩:=Gu FN.out (Or.inl rfl);have E1:Hid (pU l k=⟨#[]⟩):=e1;have E2:Hid (ll l k=false):=e2;clear e1 e2 FN hil;go_wp2;go_ret2;exact⟨by rw[E1.out,E2.out];rfl,B1.out⟩
 |true=>
  have C2:Hid _:=iP _ l w1 (H.out.below B1.out) hl;have hi:=hil rfl;cases hr:ia l with
  |false=>
   obtain⟨e1,e2⟩:=Gu FN.out (Or.inr hr);have E1:Hid (pU l k=⟨#[]⟩):=e1;have E2:Hid (ll l k=false):=e2;rw[hr]at C2;clear e1 e2 FN hil hr
   go_wp2_with (go_at_call 87;refine Calls.mono C2.out ?_;rintro e w2 ⟨rfl,hb2⟩)
   go_ret2;exact⟨by rw[E1.out,E2.out];rfl,B1.out.trans (hb2.mono B1.out.size)⟩
  |true=>
   obtain⟨e1,e2⟩:=Ls FN.out hr;have E1:Hid (pU l k=l[i]!.2):=e1;have E2:Hid (ll l k=true):=e2;rw[hr]at C2;clear e1 e2 FN hil hr
   go_upto_region 4 with(go_at_call 87;refine Calls.mono C2.out ?_;rintro e w2 ⟨rfl,hb2⟩)
   have B2:Hid (Below w.heap.size w w2):=B1.out.trans (hb2.mono B1.out.size);obtain⟨tE,c1,e3,h1,h2,h3⟩:=H.out;cases e3;obtain⟨b,off,rfl,hbb,x1,x2⟩:=ew h3 i hi B2.out;clear h3 hb2 H;generalize l[i]! =x at*;go_wp2;go_ret2;exact⟨by rw[E1.out,E2.out];rfl,B2.out⟩
theorem Gx {l:List En}{k v:ByteArray}(h:cM k v=false∨ia l=false):Ai l k v=l:=by
 unfold Ai;rcases h with h|h<;>simp[h]
theorem BV {l:List En}{k v:ByteArray}{i:Nat}{f:Bool}(hf:Ag l k i f)(hm:cM k v=true)(hr:ia l=true)(j:Nat)(hj:j=if f=true then i+1 else i):l.take i++[(k,v)]++l.drop j=Ai l k v:=by
 obtain⟨h1,h2⟩:=hf.2.2 (rg_of hr);unfold Ai;rw[hm,hr,Bool.and_self,if_pos rfl,h1];refine Ln (rg_of hr) hm ?_;rw[hj,h1,h2]
theorem Gy (vl:Value)(l:List En)(k v:ByteArray)(w:World)(h:Row aG 2 w vl l)(hl:l.length<=400000):
  Calls Tryz.prog 60 #[vl,.string k,.string v] w (Gv w (Ai l k v)):=by
 have H:Aside (Row aG 2 w vl l):=h;obtain⟨ao,c,rfl,hc⟩:=h.shape;have CK:Hid _:=gS k v w;cases hm:cM k v with
 |false=>
  rw[Gx (Or.inl hm)];rw[kA,hm]at CK;have C:Hid _:=kB _ l w h (by omega);clear h hm;go_enter Tryz.func60,Tryz.ntmps60
  go_wp2_with (first| (go_at_call 57;refine Calls.mono CK.out ?_;rintro e w1 ⟨rfl,rfl⟩)| (go_at_call 88;refine Calls.mono C.out ?_;rintro e w1 ⟨v1,rfl,ho,hb⟩))
  go_ret;exact⟨_,rfl,ho,hb⟩
 |true=>
  rw[kA,hm]at CK;have CR:Hid _:=iP _ l w h (by omega);clear h;cases hr:ia l with
  |false=>
   rw[Gx (Or.inr hr)];rw[hr]at CR;clear hm hr;go_enter Tryz.func60,Tryz.ntmps60
   go_upto_region 2 with(first| (go_at_call 57;refine Calls.mono CK.out ?_;rintro e w1 ⟨rfl,rfl⟩)| (go_at_call 87;refine Calls.mono CR.out ?_;rintro e w1 ⟨rfl,hb⟩))
   have B1:Hid (Below w.heap.size w w1):=hb;have C:Hid _:=kB _ l w1 (H.out.below hb) (by omega);clear hb CK CR
   go_wp2_with (go_at_call 88;refine Calls.mono C.out ?_;rintro e w2 ⟨v2,rfl,ho,hb⟩)
   go_ret;exact⟨_,rfl,ho.mono B1.out.size,B1.out.trans (hb.mono B1.out.size)⟩
  |true=>
   rw[hr]at CR;have M:Hid (cM k v=true):=hm;have RG:Hid (ia l=true):=hr;clear hm hr;go_enter Tryz.func60,Tryz.ntmps60
   go_upto_region 3 with(first| (go_at_call 57;refine Calls.mono CK.out ?_;rintro e w1 ⟨rfl,rfl⟩)| (go_at_call 87;refine Calls.mono CR.out ?_;rintro e w1 ⟨rfl,hb⟩))
   have B1:Hid (Below w.heap.size w w1):=hb;have C:Hid _:=mI _ l k w1 (H.out.below hb) (by omega);clear hb CK CR
   go_upto_region 5 with(go_at_call 89;refine Calls.mono C.out ?_;rintro e w2 ⟨i,f,rfl,hf,hb2⟩)
   have B2:Hid (Below w.heap.size w w2):=B1.out.trans (hb2.mono B1.out.size);have hil:=hf.1;have Lt:=hf.2.1;have FN:Hid (Ag l k i f):=hf;clear hb2 hf C B1;have B3:Hid (Below w.heap.size w (w2.alloc (.cells #[.string k,.string v] 49))):=B2.out.alloc B2.out.size _;have RO:Hid (Row aG 2 (w2.alloc (.cells #[.string k,.string v] 49)) (.slice (some ⟨w2.heap.size,0,none⟩) 1 1) [(k,v)]):=(Cl.new w2 #[.string k,.string v] 49).row;have RL:Hid (Row aG 2 (w2.alloc (.cells #[.string k,.string v] 49)) (.slice ao l.length c) l):=H.out.below B3.out;cases f with
   |false=>
    have E:=BV FN.out M.out RG.out i rfl;have S:Hid _:=lK _ _ l [(k,v)] i i _ RL.out RO.out (Nat.le_refl _) hil (by simp;omega);rw[E]at S;clear E RL RO H
    go_wp2_with (go_at_call 90;refine Calls.mono S.out ?_;rintro e w4 ⟨v4,rfl,ho,hb⟩)
    go_ret;exact⟨_,rfl,ho.mono B3.out.size,B3.out.trans (hb.mono B3.out.size)⟩
   |true=>
    have hi:=Lt rfl;have E:=BV FN.out M.out RG.out (i+1) rfl;have S:Hid _:=lK _ _ l [(k,v)] i (i+1) _ RL.out RO.out (Nat.le_succ _) hi (by simp;omega);rw[E]at S;clear E RL RO H
    go_wp2_with (go_at_call 90;refine Calls.mono S.out ?_;rintro e w4 ⟨v4,rfl,ho,hb⟩)
    go_ret;exact⟨_,rfl,ho.mono B3.out.size,B3.out.trans (hb.mono B3.out.size)⟩
theorem Gz {l:List En}{k:ByteArray}{i:Nat}{f:Bool}(hf:Ag l k i f)(h:f=false∨ia l=false):yb l k=l:=by
 unfold yb;cases hr:ia l
 ·rfl
 ·have h2:=(hf.2.2 (rg_of hr)).2;rcases h with h|h
  ·rw[h]at h2;rw[if_pos rfl,Gf h2.symm]
  ·rw[hr]at h;cases h
theorem Lu {l:List En}{k:ByteArray}{i:Nat}(hf:Ag l k i true)(hr:ia l=true):l.take i++[]++l.drop (i+1)=yb l k:=by
 obtain⟨h1,h2⟩:=hf.2.2 (rg_of hr);unfold yb;rw[hr,if_pos rfl,List.append_nil,h1,Lm (rg_of hr) h2.symm]
theorem Aj (vl:Value)(l:List En)(k:ByteArray)(w:World)(h:Row aG 2 w vl l)(hl:l.length<=400000):
  Calls Tryz.prog 76 #[vl,.string k] w (Gv w (yb l k)):=by
 have H:Aside (Row aG 2 w vl l):=h;obtain⟨ao,c,rfl,hc⟩:=h.shape;have C:Hid _:=mI _ l k w h (by omega);clear h;go_enter Tryz.func76,Tryz.ntmps76
 go_upto_region 2 with(go_at_call 89;refine Calls.mono C.out ?_;rintro e w1 ⟨i,f,rfl,hf,hb⟩)
 have FN:Hid (Ag l k i f):=hf;have hil:f=true->i<l.length:=hf.2.1;have B1:Hid (Below w.heap.size w w1):=hb;clear hf hb C;cases f with
 |false=>
  have E:Hid (yb l k=l):=Gz FN.out (Or.inl rfl);have C:Hid _:=kB _ l w1 (H.out.below B1.out) (by omega);clear FN hil
  go_wp2_with (go_at_call 88;refine Calls.mono C.out ?_;rintro e w2 ⟨v2,rfl,ho,hb⟩)
  go_ret;exact⟨_,rfl,by rw[E.out];exact ho.mono B1.out.size,B1.out.trans (hb.mono B1.out.size)⟩
 |true=>
  have C2:Hid _:=iP _ l w1 (H.out.below B1.out) (by omega);have hi:=hil rfl;cases hr:ia l with
  |false=>
   have E:Hid (yb l k=l):=Gz FN.out (Or.inr hr);rw[hr]at C2;clear FN hil hr
   go_upto_region 3 with(go_at_call 87;refine Calls.mono C2.out ?_;rintro e w2 ⟨rfl,hb2⟩)
   have B2:Hid (Below w.heap.size w w2):=B1.out.trans (hb2.mono B1.out.size);have C:Hid _:=kB _ l w2 (H.out.below B2.out) (by omega);clear hb2 C2 B1
   go_wp2_with (go_at_call 88;refine Calls.mono C.out ?_;rintro e w3 ⟨v3,rfl,ho,hb⟩)
   go_ret;exact⟨_,rfl,by rw[E.out];exact ho.mono B2.out.size,B2.out.trans (hb.mono B2.out.size)⟩
  |true=>
   have E:=Lu FN.out hr;rw[hr]at C2;clear FN hil hr
   go_upto_region 4 with(go_at_call 87;refine Calls.mono C2.out ?_;rintro e w2 ⟨rfl,hb2⟩)
   have B2:Hid (Below w.heap.size w w2):=B1.out.trans (hb2.mono B1.out.size);have S:Hid _:=lK _ (.slice none 0 0) l [] i (i+1) w2 (H.out.below B2.out) (Own.nil (base:=0)).row (Nat.le_succ _) hi (by simp;omega);rw[E]at S;clear E hb2 C2 B1 H
   go_wp2_with (go_at_call 90;refine Calls.mono S.out ?_;rintro e w3 ⟨v3,rfl,ho,hb⟩)
   go_ret;exact⟨_,rfl,ho.mono B2.out.size,B2.out.trans (hb.mono B2.out.size)⟩
end
section
theorem nX {l:List En}{i:Nat}(h:i<l.length):cP (l.take i)+k8 l[i]! <=cP l:=by
 rw[<-mH h];exact xU _ _
theorem rK (v:Value)(l:List En)(w:World)(h:Row aG 2 w v l)(hl:l.length<=1000000)(hs:cP l<=1000000000):
  Calls Tryz.prog 167 #[v] w fun e w'=>e=.returned (.int .i64 (cP l))∧Below w.heap.size w w':=by
 obtain⟨ao,cap,rfl,h1,h2,h3⟩:=h;have H3:Aside (l≠[]->∃b off,ao=some ⟨b,off,none⟩∧b<w.heap.size∧cG aG 2 w b off l):=h3;clear h3;go_enter Tryz.func167,Tryz.ntmps167;go_wp2
 go_loopg [3,8] l.length (fun kx s3 s8 wr=>∃(i n:Nat),s3=.int .i64 n∧s8=.int .i64 i∧i<=l.length∧l.length-i<=kx∧Hid (cP (l.take i)=n)∧Hid (Below w.heap.size w wr))
 case atStart=>exact⟨0,0,rfl,rfl,Nat.zero_le _,Nat.le_refl _,rfl,Below.refl _ _⟩
 case round=>
  obtain⟨i,n,rfl,rfl,hi,hki,HS,HB⟩:=hrel;by_cases hil:i<l.length
  ·have fP:(i:Int)< (l.length:Int):=by omega
   obtain⟨b,off,rfl,hb,x1,x2⟩:=ew H3.out i hil HB.out;have hle:=nX hil;have T:Hid (cP (l.take (i+1))=cP (l.take i)+k8 l[i]!):=mH hil;rw[HS.out]at T hle;generalize l[i]! =x at*;have B2:Hid (Below w.heap.size w (wr.alloc (.cells #[.string x.1,.string x.2] 49))):=HB.out.alloc HB.out.size _;unfold k8 at T hle;have hx:n+(2+x.1.size+x.2.size)<=1000000000:=by omega
   clear hle;go_wp2
   go_roundg (l.length- (i+1))
   case measure=>omega
   case rel=>exact⟨i+1,n+(2+x.1.size+x.2.size),by go_num,by go_num,by omega,Nat.le_refl _,T,B2⟩
  ·have fP:¬(i:Int)< (l.length:Int):=by omega
   obtain rfl:i=l.length:=by omega
   rw[List.take_length]at HS;go_wp2;go_ret;exact⟨lh (by rw[HS.out]),HB.out⟩
theorem yc (q:Nat)(x:En)(w:World)(t:TypeId)(h:Cl w q #[.string x.1,.string x.2] t)(hs:k8 x<=1000000000):
  Calls Tryz.prog 167 #[.slice (some ⟨q,0,none⟩) 1 1] w fun e w'=>e=.returned (.int .i64 (k8 x))∧Below w.heap.size w w':=
 (rK _ [x] w h.row (by simp) (by simpa[cP]using hs)).mono fun _ _ h=>by simpa[cP]using h
theorem mE (v:Value)(l:List En)(w:World)(h:Row aG 2 w v l)(hl:l.length<=1000000)(hs:cP l<=1000000000):
  Calls Tryz.prog 187 #[v] w fun e w'=>e=.returned (.int .i64 (eL l))∧Below w.heap.size w w':=by
 by_cases T8:l.length<2
 ·obtain⟨ao,c,rfl,_⟩:=h.shape;rw[Eb T8];have hz:(l.length:Int)<2:=by omega
  clear h;go_enter Tryz.func187,Tryz.ntmps187;go_wp2;go_ret;exact⟨rfl,Below.refl _ _⟩
 ·have C:Hid _:=rK v l w h hl hs;obtain⟨ao,cap,rfl,h1,h2,h3⟩:=h;have H3:Aside (l≠[]->∃b off,ao=some ⟨b,off,none⟩∧b<w.heap.size∧cG aG 2 w b off l):=h3;clear h3;obtain⟨n,hn⟩:∃n,l.length=n+1:=⟨l.length-1,by omega⟩;have N:Hid (l.length=n+1):=hn;rw[hn]at C T8 hl h1⊢;have e1:=vM ao (n+1) cap n (by omega);obtain⟨S,hS⟩:∃S,cP l=S:=⟨_,rfl⟩;have Xr:Hid (cP l=S):=hS;rw[hS]at C hs;have hz:¬((n:Int)+1<2):=by omega
  clear hS hn;go_enter Tryz.func187,Tryz.ntmps187
  go_upto_region 4 with(go_at_call 167;refine Calls.mono C.out ?_;rintro e w1 ⟨rfl,hb⟩)
  have B1:Hid (Below w.heap.size w w1):=hb;clear hb C;go_wp2
  go_loopg [3,4,18] n (fun kx s3 s4 Xs wr=>∃(i f:Nat),s3=.int .i64 f∧s4=.int .i64 ((S:Int)- (f:Int))∧Xs=.int .i64 i∧i<=n∧n-i<=kx∧f<=S∧Hid (cP (l.take i)=f)∧Hid (∀j,j<i->hfB l j=false)∧Hid (Below w.heap.size w wr))
  case atStart=>exact⟨0,0,rfl,by simp,rfl,Nat.zero_le _,Nat.le_refl _,Nat.zero_le _,rfl,fun j hj=>absurd hj (Nat.not_lt_zero _),B1⟩
  case round=>
   obtain⟨i,f,rfl,rfl,rfl,hi,hki,hfS,HS,HN,HB⟩:=hrel;by_cases hil:i<n
   ·have fP:(i:Int)< (n:Int):=by omega
    have Ee:i<l.length:=by have:=N.out;omega
    obtain⟨b,off,rfl,hb,x1,x2⟩:=ew H3.out i Ee HB.out;have hle:=nX Ee;have T:Hid (cP (l.take (i+1))=cP (l.take i)+k8 l[i]!):=mH Ee;rw[HS.out]at T hle;rw[Xr.out]at hle;generalize l[i]! =x at*;obtain⟨z,hz2⟩:∃z,k8 x=z:=⟨_,rfl⟩;rw[hz2]at T hle;have Z:Hid (k8 x=z):=hz2;clear hz2;have K1:Hid (Cl (wr.alloc (.cells #[.string x.1,.string x.2] 49)) wr.heap.size #[.string x.1,.string x.2] 49):=Cl.new _ _ _;have B2:Hid (Below w.heap.size w (wr.alloc (.cells #[.string x.1,.string x.2] 49))):=HB.out.alloc HB.out.size _
    go_upto_region 7 with fail
    generalize wr.alloc (.cells #[.string x.1,.string x.2] 49)=W at*;generalize wr.heap.size=p at*;obtain⟨y1,y2⟩:=K1.out.two;have K2:Hid (Cl (W.alloc (.cells #[.string x.1,.string x.2] 49)) W.heap.size #[.string x.1,.string x.2] 49):=Cl.new _ _ _;have B3:Hid (Below w.heap.size w (W.alloc (.cells #[.string x.1,.string x.2] 49))):=B2.out.alloc B2.out.size _;have C1:Hid _:=yc _ x _ _ K2.out (by rw[Z.out];omega);rw[Z.out]at C1;have Wb:=K1.out.lt
    go_upto_region 8 with(go_at_call 167;refine Calls.mono C1.out ?_;rintro e w3 ⟨rfl,hb3⟩)
    have B4:Hid (Below w.heap.size w w3):=B3.out.trans (hb3.mono B3.out.size);have K4:Hid (Cl w3 p #[.string x.1,.string x.2] 49):=(K1.out.alloc _).on hb3;clear hb3 C1 K2 K1 y1 y2 B2 B3;obtain⟨y1,y2⟩:=K4.out.two;have K5:Hid (Cl (w3.alloc (.cells #[.string x.1,.string x.2] 49)) w3.heap.size #[.string x.1,.string x.2] 49):=Cl.new _ _ _;have B5:Hid (Below w.heap.size w (w3.alloc (.cells #[.string x.1,.string x.2] 49))):=B4.out.alloc B4.out.size _;have C2:Hid _:=yc _ x _ _ K5.out (by rw[Z.out];omega);rw[Z.out]at C2;have aab:=K4.out.lt
    go_upto_region 9 with(go_at_call 167;refine Calls.mono C2.out ?_;rintro e w6 ⟨rfl,hb6⟩)
    have B6:Hid (Below w.heap.size w w6):=B5.out.trans (hb6.mono B5.out.size);clear hb6 C2 K5 K4 y1 y2 B4 B5;by_cases hc:S<=2*(f+z)
    ·have hcz:(S:Int)- (f:Int)- (z:Int)<=(f:Int)+(z:Int):=by omega
     have E:Hid (eL l=i+1):=xV (by have:=N.out;omega) HN.out (by unfold hfB;rw[Xr.out,T.out];exact decide_eq_true hc);clear HN;go_wp2;go_ret;exact⟨lh (by rw[E.out];omega),B6.out⟩
    ·have hcz:¬(S:Int)- (f:Int)- (z:Int)<=(f:Int)+(z:Int):=by omega
     have N2:Hid (∀j,j<i+1->hfB l j=false):=fun j hj=>by
      rcases Nat.lt_or_ge j i with d|d
      ·exact HN.out j d
      ·obtain rfl:j=i:=by omega
       unfold hfB;rw[Xr.out,T.out];exact decide_eq_false hc
     clear HN;go_wp2
     go_roundg (n- (i+1))
     case measure=>omega
     case rel=>exact⟨i+1,f+z,by go_num,by go_num,by go_num,by omega,Nat.le_refl _,by omega,T,N2,B6⟩
   ·have fP:¬(i:Int)< (n:Int):=by omega
    obtain rfl:i=n:=by omega
    have E:Hid (eL l=i):=by
     have:=vG (l:=l) (by rw[N.out];exact HN.out);rw[N.out]at this;exact this
    clear HN;go_wp2;go_ret;exact⟨lh (by rw[E.out]),HB.out⟩
end
end N
end Go.Proofs.YtdcpfbidcpfboaaGreatDoor
namespace Go.Proofs.YtdcpfbidcpfboaaGreatDoor
namespace P
open Go.Deep Go.ChangeShapes Go.WideShapes Go.ChangeAt Go.RowKit Go.ChangeMaps
open N (En)
variable {H:Type}{enc:TypeId×Value->H}{W:World}{base:Nat}{spare:Nat->Bool}{held:Bool}{fuel:Nat}{x:DataW H×List MemPlace}
theorem trod_struct2 {P:Program}{w:World}{t:TypeId}{f0 f1:Field}{fuel:Nat}{cs:List Value}{x:DataW H×List MemPlace}(ht:P.underlying t=some (.struct #[f0,f1]))(h:DataW.trod enc P w base spare held fuel t cs=some x):
  ∃y0 y1 n,cs.length=P.cellsOf t∧DataW.trod enc P w base spare held n f0.type ((cs.drop f0.offset).take (P.cellsOf f0.type))=some y0∧
   DataW.trod enc P w base spare held n f1.type ((cs.drop f1.offset).take (P.cellsOf f1.type))=some y1:=by
 obtain⟨xs,n,_,rfl,hl,hlen,hf⟩:=DataW.trod_struct ht h
 match xs,hlen with
 |[y0,y1],_=>exact⟨y0,y1,n,hl,by simpa using hf 0 f0 rfl,by simpa using hf 1 f1 rfl⟩
theorem open_entry {v:Value}{r:Reach}{b0:Nat}(hval:Value.okWide Tryz.prog W r b0 49 v)(h:DataW.trod enc Tryz.prog W base spare held fuel 49 v.cells.toList=some x):∃e:En,v=.agg #[.string e.1,.string e.2]∧(e.1.size<=maxLen∧e.2.size<=maxLen):=by
 obtain⟨cs,rfl,hcs⟩:=okWide_struct Tryz.underlying49 hval;have cp:Tryz.prog.cellsOf 49=2:=by kernel_rfl
 have cz:Tryz.prog.cellsOf 9=1:=by kernel_rfl
 rw[cp]at hcs;obtain⟨y0,y1,k,_,g0,g1⟩:=trod_struct2 Tryz.underlying49 h;obtain⟨l⟩:=cs;simp only[Value.cells]at g0 g1;have hl:l.length=2:=by simpa using hcs
 match l,hl with
 |[v0,v1],_=>
  simp[cz]at g0 g1;obtain⟨z0,e0,_,wf0⟩:=DataW.trod_string Tryz.underlying9 g0;obtain⟨z1,e1,_,wf1⟩:=DataW.trod_string Tryz.underlying9 g1;simp only[List.cons.injEq,and_true]at e0 e1;subst e0 e1;exact⟨⟨z0,z1⟩,rfl,wf0,wf1⟩
end P
end Go.Proofs.YtdcpfbidcpfboaaGreatDoor
