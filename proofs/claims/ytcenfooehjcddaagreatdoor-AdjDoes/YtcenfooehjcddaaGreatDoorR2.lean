/- Walks of the package cowtree and of what it stands on: lemmas, made short. -/
import Derived.Test.YtcenfooehjcddaaGreatDoorR1
import Derived.Lib.Bytealg
import Derived.Lib.Strings
import Derived.Shelf.GgSortFunc.RowK
import Derived.Shelf.SlicesE.Kit
import Derived.Shelf.SlSortCmp.QuietGrown
import Derived.Lib.SliceRun
import Derived.Laws.AppendOwnNone
import Derived.WalkKit
import Derived.WalkSpells
import Derived.WalkLawsBesides
import Derived.Deep.RegionHeld3
import Derived.Test.YtcenfooehjcddaaGreatDoorProg
import Derived.ArgAppend
import Derived.Deep.RegionLaw
import Derived.Laws.OwnMore
import Derived.Deep.LoopGhost
import Derived.BigQuiet
import Derived.Deep.QuietTactic
import Derived.Deep.DeepCutAuto
set_option maxHeartbeats 16000000
set_option maxRecDepth 100000
set_option linter.unusedVariables false
set_option linter.unusedSimpArgs false
namespace Go.Proofs.YtcenfooehjcddaaGreatDoor
open Go.Shelf Go.RowKit Go.Lib Go.Sort
namespace N
section
open Go.RowKit
def rU (s:ByteArray):List UInt8:=if s.size<=255 then UInt8.ofNat s.size::s.data.toList else []
def rV (s:ByteArray):Int:=if s.size<=255 then 0 else 1
theorem rW (s:ByteArray)(w:World)(hs:s.size<=maxLen):
  Calls Tryz.prog 167 #[.string s] w fun r w'=>r=.returned (.tuple #[.string ⟨(rU s).toArray⟩,.int .i64 (rV s)])∧Below w.heap.size w w':=by
 unfold maxLen at hs;by_cases h:s.size<=255
 ·have e1:ij 1 (s.size:Int)=[UInt8.ofNat s.size]:=by
   have:fN 1 (s.size:Int)=true:=by simp[fN,bQ];omega
   have e:s.size%256=s.size:=by omega
   simp[ij,this,beBytes,e]
  have e2:jt 1 (s.size:Int)=0:=by
   have:fN 1 (s.size:Int)=true:=by simp[fN,bQ];omega
   simp[jt,this]
  have e3:Hid (rU s=UInt8.ofNat s.size::s.data.toList):=by simp[Hid,rU,h]
  have e4:Hid (rV s=0):=by simp[Hid,rV,h]
  have P:=ju 1 (s.size:Int) w;rw[e1,e2]at P;clear e1 e2;have C:Hid _:=P;clear P;go_enter Tryz.func167,Tryz.ntmps167
  go_wp2_with (go_at_call 75;refine Calls.mono C.out ?_;rintro e w1 ⟨rfl,hb⟩)
  refine(Qh ⟨#[UInt8.ofNat s.size]⟩ s w1 (by show 1+s.size<=_;omega)).mono ?_;rintro e w2 ⟨rfl,hb2⟩;go_wp2;go_ret2;rw[e3.out,e4.out];exact⟨by simp,hb.trans (hb2.mono hb.size)⟩
 ·have e1:ij 1 (s.size:Int)=[]:=by
   have:fN 1 (s.size:Int)=false:=by simp[fN];omega
   simp[ij,this]
  have e2:jt 1 (s.size:Int)=1:=by
   have:fN 1 (s.size:Int)=false:=by simp[fN];omega
   simp[jt,this]
  have e3:Hid (rU s=[]):=by simp[Hid,rU,h]
  have e4:Hid (rV s=1):=by simp[Hid,rV,h]
  have P:=ju 1 (s.size:Int) w;rw[e1,e2]at P;clear e1 e2;have C:Hid _:=P;clear P;go_enter Tryz.func167,Tryz.ntmps167
  go_wp2_with (go_at_call 75;refine Calls.mono C.out ?_;rintro e w1 ⟨rfl,hb⟩)
  go_ret2;rw[e3.out,e4.out];exact⟨rfl,hb⟩
def a8 (s:ByteArray)(e:Int):ByteArray×ByteArray×Int:=aN (bh s e 1).2.1 (bh s e 1).2.2 (bh s e 1).1
theorem oF (b:Nat)(s:ByteArray)(e:Int)(w:World)(h:Rd b s e w):
  Calls Tryz.prog 209 #[.pointer (some ⟨b,0,none⟩)] w fun r w'=>r=.returned (.string (a8 s e).1)∧Rd b (a8 s e).2.1 (a8 s e).2.2 w'∧Only b w w':=by
 have C:Hid _:=js b s e 1 w h;clear h;unfold a8;generalize bh s e 1=t at*;obtain⟨n,s1,e1⟩:=t;go_enter Tryz.func209,Tryz.ntmps209
 go_wp2_with (go_at_call 115;refine Calls.mono C.out ?_;rintro e w1 ⟨rfl,hr,ho⟩)
 refine(gZ b s1 e1 n w1 hr).mono ?_;rintro r w2 ⟨rfl,hr2,ho2⟩;go_wp2;go_ret;exact⟨rfl,hr2,ho.trans ho2⟩
theorem lR (c:UInt8)(l r:List UInt8)(h:c.toNat=l.length):a8 ⟨(c::(l++r)).toArray⟩ 0=(⟨l.toArray⟩,⟨r.toArray⟩,0):=by
 have e:=fH [c] (l++r) 1 rfl rfl;unfold a8;rw[List.singleton_append]at e;rw[e];exact eK l r _ (by simp[beNat,h])
theorem lS (s:ByteArray)(e:Int)(h:(a8 s e).2.2=0):
  e=0∧∃(c:UInt8) (l r:List UInt8),s=⟨(c::(l++r)).toArray⟩∧c.toNat=l.length∧a8 s e=(⟨l.toArray⟩,⟨r.toArray⟩,0):=by
 have h1:=pD _ _ _ h;obtain⟨he1,l,r,hs1,hn,hr⟩:=h1;obtain⟨he,_,l1,r1,hs,hl1,hi⟩:=iQ s e 1 he1;refine⟨he,?_⟩;rw[hi]at hs1 hn
 match l1,hl1 with
 |[c],_=>
  refine⟨c,l,r,?_,?_,?_⟩
  ·have:r1=l++r:=by
    have:=congrArg (fun b:ByteArray=>b.data.toList) hs1;simpa using this
   rw[hs,this];rfl
  ·simp[beNat]at hn;omega
  ·exact hr
end
section
abbrev En:=ByteArray×ByteArray
def bB (a b:ByteArray):Bool:=Op.bytesLess a.toList b.toList
theorem vn:∀x:List UInt8,Op.bytesLess x x=false
 |[]=>rfl
 |a::x=>by simp[Op.bytesLess,vn x]
theorem yV:∀x y z:List UInt8,Op.bytesLess x y=true->Op.bytesLess y z=true->Op.bytesLess x z=true
 |_,_,[]=>by intro h1 h2;cases ‹List UInt8› <;>simp[Op.bytesLess]at h2
 |_,[],_::_=>by intro h1;cases ‹List UInt8› <;>simp[Op.bytesLess]at h1
 |[],_::_,_::_=>by intros;rfl
 |a::x,b::y,c::z=>by
  intro h1 h2;simp only[Op.bytesLess,Bool.or_eq_true,decide_eq_true_eq,Bool.and_eq_true,beq_iff_eq]at h1 h2⊢;rcases h1 with h1| ⟨rfl,h1⟩
  ·rcases h2 with h2| ⟨rfl,h2⟩
   ·left;rw[UInt8.lt_iff_toNat_lt]at*;omega
   ·exact Or.inl h1
  ·rcases h2 with h2| ⟨rfl,h2⟩
   ·exact Or.inl h2
   ·exact Or.inr ⟨rfl,yV x y z h1 h2⟩
theorem Io:∀x y:List UInt8,Op.bytesLess x y=false->Op.bytesLess y x=false->x=y
 |[],[]=>fun _ _=>rfl
 |[],_::_=>fun h _=>by simp[Op.bytesLess]at h
 |_::_,[]=>fun _ h=>by simp[Op.bytesLess]at h
 |a::x,b::y=>fun h1 h2=>by
  simp only[Op.bytesLess,Bool.or_eq_false_iff,decide_eq_false_iff_not,Bool.and_eq_false_iff,beq_eq_false_iff_ne]at h1 h2;have e:a=b:=by
   apply UInt8.toNat_inj.1;have:=h1.1;have:=h2.1;rw[UInt8.lt_iff_toNat_lt]at*;omega
  subst e;have h3:=h1.2.resolve_left (by simp);have h4:=h2.2.resolve_left (by simp);rw[Io x y h3 h4]
theorem Bc:∀x y:List UInt8,(Lib.compareBytes x y<0↔Op.bytesLess x y=true)∧(Lib.compareBytes x y=0↔x=y)
 |[],[]=>by simp[Lib.compareBytes,Op.bytesLess]
 |[],_::_=>by simp[Lib.compareBytes,Op.bytesLess]
 |_::_,[]=>by simp[Lib.compareBytes,Op.bytesLess]
 |a::x,b::y=>by
  have ih:=Bc x y;rcases Nat.lt_trichotomy a.toNat b.toNat with c|c|c
  ·have e1:a<b:=UInt8.lt_iff_toNat_lt.2 c;have e2:a≠b:=by intro e;subst e;omega
   simp[Lib.compareBytes,Op.bytesLess,e1,e2]
  ·have e1:a=b:=UInt8.toNat_inj.1 c;subst e1;simp[Lib.compareBytes,Op.bytesLess,ih]
  ·have e1:¬a<b:=by rw[UInt8.lt_iff_toNat_lt];omega
   have e2:a≠b:=by intro e;subst e;omega
   have e3:b<a:=UInt8.lt_iff_toNat_lt.2 c;simp[Lib.compareBytes,Op.bytesLess,e1,e2,e3]
theorem jC {a b:ByteArray}(h:a.toList=b.toList):a=b:=by
 rw[Lib.toList_data,Lib.toList_data]at h;exact ByteArray.ext (Array.toList_inj.1 h)
theorem dU (a:ByteArray):bB a a=false:=vn _
theorem cU {a b c:ByteArray}(h1:bB a b=true)(h2:bB b c=true):bB a c=true:=yV _ _ _ h1 h2
theorem ML {a b:ByteArray}(h1:bB a b=false)(h2:bB b a=false):a=b:=jC (Io _ _ h1 h2)
theorem fW {a b:ByteArray}(h:bB a b=true):a≠b:=by intro e;rw[e,dU]at h;cases h
theorem kO {a b:ByteArray}(h:bB a b=true):bB b a=false:=by
 cases e:bB b a
 ·rfl
 ·have:=cU h e;rw[dU]at this;cases this
theorem il {a b:ByteArray}(h:bB a b=false)(hne:a≠b):bB b a=true:=by
 cases e:bB b a
 ·exact absurd (ML h e) hne
 ·rfl
theorem gX {a b c:ByteArray}(h1:bB a b=false)(h2:bB c b=true):bB c a=true:=by
 by_cases e:a=b
 ·rw[e];exact h2
 ·exact cU h2 (il h1 e)
def rX (a b:ByteArray):Int:=Lib.compareBytes a.data.toList b.data.toList
theorem Dj (a b:ByteArray):rX a b<0↔bB a b=true:=by
 unfold rX bB;rw[Lib.toList_data,Lib.toList_data];exact(Bc _ _).1
theorem Dl (a b:ByteArray):rX a b=0↔a=b:=by
 unfold rX;rw[(Bc _ _).2];exact⟨fun h=>ByteArray.ext (Array.toList_inj.1 h),fun h=>by rw[h]⟩
def cJ (k v:ByteArray):Bool:=decide (1<=k.size)&&(decide (k.size<=16)&&decide (v.size<=40))
theorem aV {k v:ByteArray}:cJ k v=true↔1<=k.size∧k.size<=16∧v.size<=40:=by simp[cJ]
def Dm (l:List En)(i:Nat):Bool:=cJ l[i]!.1 l[i]!.2&&(i==0||bB l[i-1]!.1 l[i]!.1)
def im (l:List En):Bool:=(List.range l.length).all (Dm l)
theorem wQ {l:List En}(h:∀j,j<l.length->Dm l j=true):im l=true:=by
 unfold im;rw[List.all_eq_true];intro j hj;exact h j (List.mem_range.1 hj)
theorem Be {l:List En}(h:im l=true)(j:Nat)(hj:j<l.length):Dm l j=true:=by
 unfold im at h;rw[List.all_eq_true]at h;exact h j (List.mem_range.2 hj)
theorem Bf {l:List En}(j:Nat)(hj:j<l.length)(h:Dm l j=false):im l=false:=by
 cases e:im l
 ·rfl
 ·rw[Be e j hj]at h;cases h
def Up (l:List En):Prop:=l.Pairwise (fun x y=>bB x.1 y.1=true)
structure Rg (l:List En):Prop where
 up:Up l
 may:∀x∈l,cJ x.1 x.2=true
theorem bJ {l:List En}{i:Nat}(h:i<l.length):l[i]! =l[i]:=getElem!_pos l i h
theorem Vs {l:List En}(h:∀j,j+1<l.length->bB l[j]!.1 l[j+1]!.1=true):Up l:=by
 have key:∀d i,i+d+1<l.length->bB l[i]!.1 l[i+d+1]!.1=true:=by
  intro d
  induction d with
  |zero=>intro i hi;exact h i hi
  |succ d ih=>
   intro i hi;exact cU (ih i (by omega)) (h (i+d+1) hi)
 unfold Up;rw[List.pairwise_iff_getElem];intro i j hi hj hij;have:=key (j-i-1) i (by omega);rw[show i+(j-i-1)+1=j by omega,bJ hi,bJ hj]at this;exact this
theorem Up.at {l:List En}(h:Up l){i j:Nat}(hij:i<j)(hj:j<l.length):bB l[i]!.1 l[j]!.1=true:=by
 have:=(List.pairwise_iff_getElem.1 h) i j (by omega) hj hij;rw[bJ hj,bJ (by omega)];exact this
theorem rg_of {l:List En}(h:im l=true):Rg l:=by
 refine⟨Vs fun j hj=>?_,fun x hx=>?_⟩
 ·have:=Be h (j+1) hj;unfold Dm at this;simp only[Bool.and_eq_true,Bool.or_eq_true]at this;rcases this.2 with e|e
  ·simp at e
  ·exact e
 ·obtain⟨i,hi,rfl⟩:=List.getElem_of_mem hx;have:=Be h i hi;unfold Dm at this;simp only[Bool.and_eq_true]at this;rw[bJ hi]at this;exact this.1
theorem gO {l:List En}(h:Rg l):im l=true:=by
 refine wQ fun j hj=>?_;unfold Dm;rw[Bool.and_eq_true];refine⟨h.may _ (by rw[bJ hj];exact List.getElem_mem hj),?_⟩;cases j with
 |zero=>rfl
 |succ j=>simp only[Bool.or_eq_true];exact Or.inr (h.up.at (Nat.lt_succ_self j) hj)
theorem MN {l:List En}:im l=true↔Rg l:=⟨rg_of,gO⟩
theorem Rg.nil:Rg []:=⟨List.Pairwise.nil,fun _ h=>by cases h⟩
theorem Rg.tail {x:En}{l:List En}(h:Rg (x::l)):Rg l:=⟨(List.pairwise_cons.1 h.up).2,fun y hy=>h.may y (List.mem_cons_of_mem _ hy)⟩
theorem Rg.head {x:En}{l:List En}(h:Rg (x::l)):∀y∈l,bB x.1 y.1=true:=(List.pairwise_cons.1 h.up).1
theorem Rg.cons {x:En}{l:List En}(h:Rg l)(hx:cJ x.1 x.2=true)(hl:∀y∈l,bB x.1 y.1=true):Rg (x::l):=
 ⟨List.pairwise_cons.2 ⟨hl,h.up⟩,fun y hy=>by
  rcases List.mem_cons.1 hy with e|e
  ·rw[e];exact hx
  ·exact h.may y e⟩
theorem Rg.sub {l m:List En}(h:Rg l)(s:m.Sublist l):Rg m:=⟨h.up.sublist s,fun x hx=>h.may x (s.subset hx)⟩
theorem Rg.ext:∀ {l m:List En},Rg l->Rg m->(∀x,x∈l↔x∈m)->l=m
 |[],[],_,_,_=>rfl
 |[],y::m,_,_,h=>by have:=(h y).2 (List.mem_cons_self ..);cases this
 |x::l,[],_,_,h=>by have:=(h x).1 (List.mem_cons_self ..);cases this
 |x::l,y::m,hl,hm,h=>by
  have hxy:x=y:=by
   rcases List.mem_cons.1 ((h x).1 (List.mem_cons_self ..))with e|e
   ·exact e
   ·rcases List.mem_cons.1 ((h y).2 (List.mem_cons_self ..))with f|f
    ·exact f.symm
    ·have a:=hm.head x e;have b:=hl.head y f;rw[kO a]at b;cases b
  subst hxy;rw[Rg.ext hl.tail hm.tail fun z=>⟨fun hz=>?_,fun hz=>?_⟩]
  ·rcases List.mem_cons.1 ((h z).1 (List.mem_cons_of_mem _ hz))with e|e
   ·exact absurd (hl.head z hz) (by rw[e,dU];simp)
   ·exact e
  ·rcases List.mem_cons.1 ((h z).2 (List.mem_cons_of_mem _ hz))with e|e
   ·exact absurd (hm.head z hz) (by rw[e,dU];simp)
   ·exact e
theorem Rg.one {l:List En}(h:Rg l){x y:En}(hx:x∈l)(hy:y∈l)(e:x.1=y.1):x=y:=by
 obtain⟨i,hi,rfl⟩:=List.getElem_of_mem hx;obtain⟨j,hj,rfl⟩:=List.getElem_of_mem hy;rcases Nat.lt_trichotomy i j with c|c|c
 ·have:=h.up.at c hj;rw[bJ hi,bJ hj,e,dU]at this;cases this
 ·subst c;rfl
 ·have:=h.up.at c hi;rw[bJ hi,bJ hj,e,dU]at this;cases this
def jn (l:List En)(k:ByteArray):Nat:=l.countP fun x=>bB x.1 k
def gN (l:List En)(k:ByteArray):Bool:=l.any fun x=>decide (x.1=k)
def iC:List En->ByteArray->ByteArray
 |[],_=>⟨#[]⟩
 |x::l,k=>if x.1=k then x.2 else iC l k
def iv (l:List En)(k:ByteArray):List En:=l.filter fun x=>!decide (x.1=k)
def lT (x:En):List En->List En
 |[]=>[x]
 |y::l=>if bB x.1 y.1=true then x::y::l else y::lT x l
def jD (l:List En)(k v:ByteArray):List En:=lT (k,v) (iv l k)
theorem eY {l:List En}{k:ByteArray}:gN l k=true↔∃x∈l,x.1=k:=by simp[gN]
theorem wR {l:List En}{k:ByteArray}(h:gN l k=false):∀x∈l,x.1≠k:=fun x hx e=>by
 have:=eY.2 ⟨x,hx,e⟩;rw[h]at this;cases this
theorem rY {l:List En}(h:Rg l):∀ {x:En},x∈l->iC l x.1=x.2:=by
 induction l with
 |nil=>intro x hx;cases hx
 |cons y l ih=>
  intro x hx;unfold iC;by_cases c:y.1=x.1
  ·rw[if_pos c,h.one (List.mem_cons_self ..) hx c]
  ·rw[if_neg c];rcases List.mem_cons.1 hx with e|e
   ·rw[e]at c;exact absurd rfl c
   ·exact ih h.tail e
theorem wS {l:List En}{k:ByteArray}(h:gN l k=false):iC l k=⟨#[]⟩:=by
 induction l with
 |nil=>rfl
 |cons y l ih=>
  have h1:=wR h y (List.mem_cons_self ..);unfold iC;rw[if_neg h1];refine ih ?_;cases e:gN l k
  ·rfl
  ·obtain⟨x,hx,e2⟩:=eY.1 e;exact absurd e2 (wR h x (List.mem_cons_of_mem _ hx))
theorem MO {l m:List En}{k:ByteArray}(hl:Rg l)(hm:Rg m)(h:∀v,(k,v)∈l↔(k,v)∈m):gN l k=gN m k∧iC l k=iC m k:=by
 cases e:gN l k
 ·cases f:gN m k
  ·exact⟨rfl,by rw[wS e,wS f]⟩
  ·obtain⟨x,hx,rfl⟩:=eY.1 f;exact absurd rfl (wR e x ((h x.2).2 hx))
 ·obtain⟨x,hx,rfl⟩:=eY.1 e;have hx2:x∈m:=(h x.2).1 hx;rw[eY.2 ⟨x,hx2,rfl⟩,rY hl hx,rY hm hx2];exact⟨rfl,rfl⟩
theorem j7 {l:List En}(h:Rg l)(k:ByteArray):Rg (iv l k):=h.sub List.filter_sublist
theorem fx {l:List En}{k:ByteArray}{x:En}:x∈iv l k↔x∈l∧x.1≠k:=by simp[iv]
theorem Ip {l:List En}{k:ByteArray}(h:gN l k=false):iv l k=l:=by
 unfold iv;rw[List.filter_eq_self];intro x hx;simp[wR h x hx]
theorem rZ {x y:En}:∀ {l:List En},y∈lT x l↔y=x∨y∈l
 |[]=>by simp[lT]
 |z::l=>by
  unfold lT;by_cases c:bB x.1 z.1=true
  ·rw[if_pos c];simp
  ·rw[if_neg c];simp only[List.mem_cons,rZ (l:=l)];constructor
   ·rintro(a|a|a)
    ·exact Or.inr (Or.inl a)
    ·exact Or.inl a
    ·exact Or.inr (Or.inr a)
   ·rintro(a|a|a)
    ·exact Or.inr (Or.inl a)
    ·exact Or.inl a
    ·exact Or.inr (Or.inr a)
theorem Dn {x:En}(hx:cJ x.1 x.2=true):∀ {l:List En},Rg l->(∀y∈l,y.1≠x.1)->Rg (lT x l)
 |[],_,_=>Rg.cons Rg.nil hx fun _ h=>by cases h
 |z::l,h,hne=>by
  unfold lT;by_cases c:bB x.1 z.1=true
  ·rw[if_pos c];refine h.cons hx fun y hy=>?_;rcases List.mem_cons.1 hy with e|e
   ·rw[e];exact c
   ·exact cU c (h.head y e)
  ·rw[if_neg c];refine(Dn hx h.tail fun y hy=>hne y (List.mem_cons_of_mem _ hy)).cons (h.may z (List.mem_cons_self ..)) fun y hy=>?_;rcases rZ.1 hy with e|e
   ·rw[e];exact il (by simpa using c) fun e2=>hne z (List.mem_cons_self ..) e2.symm
   ·exact h.head y e
theorem lU {l:List En}{k v:ByteArray}(h:Rg l)(hm:cJ k v=true):Rg (jD l k v):=
 Dn hm (j7 h k) fun _ hy=>(fx.1 hy).2
theorem gC {l:List En}{k v:ByteArray}{x:En}:x∈jD l k v↔x=(k,v)∨(x∈l∧x.1≠k):=by
 unfold jD;rw[rZ,fx]
theorem Bg {l:List En}(h:Rg l)(k:ByteArray):jn l k<=l.length∧(∀j,j<jn l k->bB l[j]!.1 k=true)∧(∀j,jn l k<=j->j<l.length->bB l[j]!.1 k=false):=by
 induction l with
 |nil=>exact⟨Nat.le_refl _,fun j hj=>by simp[jn]at hj,fun j _ hj=>by simp at hj⟩
 |cons x l ih=>
  obtain⟨i1,i2,i3⟩:=ih h.tail;cases c:bB x.1 k
  ·have e:jn (x::l) k=jn l k:=by simp[jn,c]
   have z:jn l k=0:=by
    unfold jn;rw[List.countP_eq_zero];intro y hy hc;have:=cU (h.head y hy) hc;rw[c]at this;cases this
   rw[e,z];refine⟨Nat.zero_le _,fun j hj=>absurd hj (Nat.not_lt_zero _),fun j _ hj=>?_⟩;cases j with
   |zero=>exact c
   |succ j=>have:=i3 j (by omega) (by simpa using hj);simpa using this
  ·have e:jn (x::l) k=jn l k+1:=by simp[jn,c]
   rw[e];refine⟨by simp;omega,fun j hj=>?_,fun j hj hl=>?_⟩
   ·cases j with
    |zero=>exact c
    |succ j=>have:=i2 j (by omega);simpa using this
   ·cases j with
    |zero=>omega
    |succ j=>have:=i3 j (by omega) (by simpa using hl);simpa using this
theorem RD {l:List En}{k:ByteArray}{i:Nat}(h:Rg l)(hi:i<=l.length)(h1:∀j,j<i->bB l[j]!.1 k=true)(h2:∀j,i<=j->j<l.length->bB l[j]!.1 k=false):i=jn l k:=by
 obtain⟨a,b,c⟩:=Bg h k;rcases Nat.lt_trichotomy i (jn l k)with d|d|d
 ·have:=h2 i (Nat.le_refl _) (by omega);rw[b i d]at this;cases this
 ·exact d
 ·have:=h1 _ d;rw[c _ (Nat.le_refl _) (by omega)]at this;cases this
theorem sg {l:List En}(h:Rg l)(k:ByteArray):gN l k=true↔jn l k<l.length∧l[jn l k]!.1=k:=by
 obtain⟨a,b,c⟩:=Bg h k;constructor
 ·intro hf;obtain⟨x,hx,e⟩:=eY.1 hf;obtain⟨i,hi,rfl⟩:=List.getElem_of_mem hx;rcases Nat.lt_trichotomy i (jn l k)with d|d|d
  ·have:=b i d;rw[bJ hi,e,dU]at this;cases this
  ·rw[<-d];exact⟨hi,by rw[bJ hi];exact e⟩
  ·have h1:=h.up.at d hi;rw[bJ hi,e]at h1;rw[c _ (Nat.le_refl _) (by omega)]at h1;cases h1
 ·rintro⟨d,e⟩;exact eY.2 ⟨l[jn l k]!,by rw[bJ d];exact List.getElem_mem d,e⟩
theorem RH {l:List En}(h:Rg l){k:ByteArray}(hf:gN l k=true):iC l k=l[jn l k]!.2:=by
 obtain⟨d,e⟩:=(sg h k).1 hf;have:=rY h (x:=l[jn l k]!) (by rw[bJ d];exact List.getElem_mem d);rw[e]at this;exact this
theorem gD {l:List En}{i:Nat}{x:En}(h:x∈l.take i):∃j,j<i∧j<l.length∧l[j]! =x:=by
 obtain⟨j,hj,rfl⟩:=List.getElem_of_mem h;have h2:=hj;rw[List.length_take]at h2;exact⟨j,by omega,by omega,by rw[bJ (by omega)];simp⟩
theorem gF {l:List En}{i:Nat}{x:En}(h:x∈l.drop i):∃j,i<=j∧j<l.length∧l[j]! =x:=by
 obtain⟨j,hj,rfl⟩:=List.getElem_of_mem h;simp at hj;exact⟨i+j,by omega,by omega,by rw[bJ (by omega)];simp⟩
theorem vp {l:List En}{i j:Nat}(h:j<i)(hl:j<l.length):l[j]! ∈l.take i:=by
 rw[bJ hl];have:j< (l.take i).length:=by simp;omega
 have e:(l.take i)[j]=l[j]:=by simp
 rw[<-e];exact List.getElem_mem this
theorem vq {l:List En}{i j:Nat}(h:i<=j)(hl:j<l.length):l[j]! ∈l.drop i:=by
 rw[bJ hl];obtain⟨d,rfl⟩:=Nat.le.dest h;have:d< (l.drop i).length:=by simp;omega
 have e:(l.drop i)[d]=l[i+d]:=by simp
 rw[<-e];exact List.getElem_mem this
theorem yX {l:List En}{i j:Nat}{m:List En}(h:Rg l)(hij:i<=j)(hm:Rg m)(h1:∀x∈l.take i,∀y∈m,bB x.1 y.1=true)(h2:∀x∈m,∀y∈l.drop j,bB x.1 y.1=true):Rg (l.take i++m++l.drop j):=by
 refine⟨?_,fun x hx=>?_⟩
 ·unfold Up;rw[List.append_assoc,List.pairwise_append,List.pairwise_append];refine⟨h.up.sublist (List.take_sublist ..),⟨hm.up,h.up.sublist (List.drop_sublist ..),h2⟩,fun x hx y hy=>?_⟩;rcases List.mem_append.1 hy with e|e
  ·exact h1 x hx y e
  ·obtain⟨a,a1,a2,rfl⟩:=gD hx;obtain⟨b,b1,b2,rfl⟩:=gF e;exact h.up.at (by omega) b2
 ·rcases List.mem_append.1 hx with e|e
  ·rcases List.mem_append.1 e with f|f
   ·exact h.may x (List.mem_of_mem_take f)
   ·exact hm.may x f
  ·exact h.may x (List.mem_of_mem_drop e)
theorem MQ {l:List En}(h:Rg l){k:ByteArray}(hf:gN l k=true):l.take (jn l k)++l.drop (jn l k+1)=iv l k:=by
 obtain⟨d,e⟩:=(sg h k).1 hf;have hp:=yX (m:=[]) h (Nat.le_succ (jn l k)) Rg.nil (fun _ _ _ h=>by cases h) (fun _ h=>by cases h);rw[List.append_nil]at hp;refine Rg.ext hp (j7 h k) fun x=>?_;rw[fx,List.mem_append];constructor
 ·rintro(a|a)
  ·obtain⟨j,j1,j2,rfl⟩:=gD a;refine⟨List.mem_of_mem_take a,?_⟩;have:=h.up.at j1 d;rw[e]at this;exact fW this
  ·obtain⟨j,j1,j2,rfl⟩:=gF a;refine⟨List.mem_of_mem_drop a,?_⟩;have:=h.up.at (show jn l k<j by omega) j2;rw[e]at this;exact(fW this).symm
 ·rintro⟨a,b⟩;obtain⟨j,hj,rfl⟩:=List.getElem_of_mem a;rw[<-bJ hj]at b⊢;rcases Nat.lt_trichotomy j (jn l k)with c|c|c
  ·exact Or.inl (vp c hj)
  ·rw[c]at b;exact absurd e b
  ·exact Or.inr (vq (by omega) hj)
theorem RJ {k v:ByteArray}(hm:cJ k v=true):Rg [(k,v)]:=Rg.cons Rg.nil hm fun _ h=>by cases h
theorem MR {l:List En}(h:Rg l){k v:ByteArray}(hm:cJ k v=true){j:Nat}(hj:j=if gN l k=true then jn l k+1 else jn l k):l.take (jn l k)++[(k,v)]++l.drop j=jD l k v:=by
 obtain⟨a1,a2,a3⟩:=Bg h k;have hle:jn l k<=j:=by rw[hj];split<;>omega
 have hdrop:∀i,j<=i->i<l.length->bB k l[i]!.1=true:=by
  intro i h1 h2;by_cases c:gN l k=true
  ·rw[if_pos c]at hj;obtain⟨d,e⟩:=(sg h k).1 c;have:=h.up.at (show jn l k<i by omega) h2
   rwa [e]at this
  ·rw[if_neg c]at hj;refine il (a3 i (by omega) h2) fun e=>c (eY.2 ⟨l[i]!,?_,e⟩);rw[bJ h2];exact List.getElem_mem h2
 have hp:=yX (m:=[(k,v)]) h hle (RJ hm) (fun x hx y hy=>by
  obtain⟨i,i1,i2,rfl⟩:=gD hx
  rw[List.mem_singleton.1 hy]
  exact a2 i i1) (fun x hx y hy=>by
  obtain⟨i,i1,i2,rfl⟩:=gF hy
  rw[List.mem_singleton.1 hx]
  exact hdrop i i1 i2)
 refine Rg.ext hp (lU h hm) fun x=>?_;rw[gC,List.mem_append,List.mem_append,List.mem_singleton];constructor
 ·rintro((a|a)|a)
  ·obtain⟨i,i1,i2,rfl⟩:=gD a;exact Or.inr ⟨List.mem_of_mem_take a,fW (a2 i i1)⟩
  ·exact Or.inl a
  ·obtain⟨i,i1,i2,rfl⟩:=gF a;exact Or.inr ⟨List.mem_of_mem_drop a,(fW (hdrop i i1 i2)).symm⟩
 ·rintro(a| ⟨a,b⟩)
  ·exact Or.inl (Or.inr a)
  ·obtain⟨i,hi,rfl⟩:=List.getElem_of_mem a;rw[<-bJ hi]at b⊢;by_cases c:i<jn l k
   ·exact Or.inl (Or.inl (vp c hi))
   ·refine Or.inr (vq ?_ hi);rw[hj];by_cases f:gN l k=true
    ·rw[if_pos f];obtain⟨d,e⟩:=(sg h k).1 f;rcases Nat.lt_or_ge (jn l k) i with g|g
     ·omega
     ·have:i=jn l k:=by omega
      rw[this]at b;exact absurd e b
    ·rw[if_neg f];omega
end
section
def lG (x:En):Nat:=2+x.1.size+x.2.size
def cY:List En->Nat
 |[]=>0
 |x::l=>lG x+cY l
theorem mV (l m:List En):cY (l++m)=cY l+cY m:=by
 induction l with
 |nil=>simp[cY]
 |cons x l ih=>simp[cY,ih];omega
theorem mW {l:List En}{i:Nat}(h:i<l.length):cY (l.take (i+1))=cY (l.take i)+lG l[i]! :=by
 rw[List.take_add_one,List.getElem?_eq_getElem h,mV,bJ h];simp[cY]
theorem yY (l:List En)(i:Nat):cY (l.take i)<=cY l:=by
 have:=mV (l.take i) (l.drop i);rw[List.take_append_drop]at this;omega
theorem kP {l:List En}{b:Nat}(h:∀x∈l,lG x<=b):cY l<=l.length*b:=by
 induction l with
 |nil=>simp[cY]
 |cons x l ih=>
  have h1:=h x (List.mem_cons_self ..);have h2:=ih fun y hy=>h y (List.mem_cons_of_mem _ hy);simp only[cY,List.length_cons,Nat.add_mul,Nat.one_mul];omega
def hfB (l:List En)(i:Nat):Bool:=decide (cY l<=2*cY (l.take (i+1)))
def eG (l:List En):Nat:=(((List.range (l.length-1)).find? (hfB l)).map (· +1)).getD (l.length-1)
theorem Bh {p:Nat->Bool}{n i:Nat}(hi:i<n)(h1:∀j,j<i->p j=false)(h2:p i=true):(List.range n).find? p=some i:=by
 rw[List.find?_eq_some_iff_getElem];refine⟨h2,i,by simpa using hi,by simp,fun j hj=>?_⟩;simp[h1 j hj]
theorem Fh {p:Nat->Bool}{n:Nat}(h1:∀j,j<n->p j=false):(List.range n).find? p=none:=by
 rw[List.find?_eq_none];intro j hj;simp[h1 j (List.mem_range.1 hj)]
theorem yZ {l:List En}{i:Nat}(hi:i<l.length-1)(h1:∀j,j<i->hfB l j=false)(h2:hfB l i=true):eG l=i+1:=by
 unfold eG;rw[Bh hi h1 h2];rfl
theorem wT {l:List En}(h1:∀j,j<l.length-1->hfB l j=false):eG l=l.length-1:=by
 unfold eG;rw[Fh h1];rfl
theorem Fi {l:List En}(h:l.length<2):eG l=0:=by
 rw[wT fun j hj=>by omega];omega
theorem Bi {l:List En}(h:2<=l.length):1<=eG l∧eG l<l.length∧(cY l<=2*cY (l.take (eG l))∨eG l=l.length-1)∧(eG l=1∨2*cY (l.take (eG l-1))<cY l):=by
 by_cases c:∃i,i<l.length-1∧hfB l i=true
 ·obtain⟨i,hi⟩:=c;have key:∀n,(∃i,i<=n∧i<l.length-1∧hfB l i=true)->∃i,i<l.length-1∧hfB l i=true∧∀j,j<i->hfB l j=false:=by
   intro n
   induction n with
   |zero=>rintro⟨i,h0,h1,h2⟩;exact⟨i,h1,h2,fun j hj=>by omega⟩
   |succ n ih=>
    rintro⟨i,h0,h1,h2⟩;by_cases d:∃j,j<=n∧j<l.length-1∧hfB l j=true
    ·exact ih d
    ·refine⟨i,h1,h2,fun j hj=>?_⟩;cases e:hfB l j
     ·rfl
     ·exact absurd ⟨j,by omega,by omega,e⟩ d
  obtain⟨k,k1,k2,k3⟩:=key i ⟨i,Nat.le_refl _,hi⟩;rw[yZ k1 k3 k2];refine⟨by omega,by omega,Or.inl (by simpa[hfB]using k2),?_⟩;cases k with
  |zero=>exact Or.inl rfl
  |succ k=>
   have:=k3 k (by omega);right;simp only[hfB,decide_eq_false_iff_not]at this;rw[show k+1+1-1=k+1 by omega];omega
 ·have h1:∀j,j<l.length-1->hfB l j=false:=fun j hj=>by
   cases e:hfB l j
   ·rfl
   ·exact absurd ⟨j,hj,e⟩ c
  rw[wT h1];refine⟨by omega,by omega,Or.inr rfl,?_⟩;rcases Nat.lt_or_ge 2 l.length with d|d
  ·have:=h1 (l.length-3) (by omega);simp only[hfB,decide_eq_false_iff_not]at this;right;rw[show l.length-1-1=l.length-3+1 by omega];omega
  ·left;omega
def mF (s:ByteArray):List UInt8:=UInt8.ofNat s.size::s.data.toList
def L6 (x:En):List UInt8:=mF x.1++mF x.2
def za:List En->List UInt8
 |[]=>[]
 |x::l=>L6 x++za l
theorem lV (s:ByteArray):(mF s).length=1+s.size:=by
 have:=Lib.size_eq s;simp[mF];omega
theorem sk (x:En):(L6 x).length=lG x:=by
 unfold L6 lG;rw[List.length_append,lV,lV];omega
theorem sq (l:List En):(za l).length=cY l:=by
 induction l with
 |nil=>rfl
 |cons x l ih=>simp only[za,cY,List.length_append,ih,sk]
def yr:List UInt8->Option (En×List UInt8)
 |[]=>none
 |c::r=>if r.length<=c.toNat then none else
  match r.drop c.toNat with
  |[]=>none
  |d::q=>if q.length<d.toNat then none else some ((⟨(r.take c.toNat).toArray⟩,⟨(q.take d.toNat).toArray⟩),q.drop d.toNat)
theorem Bj {a r:List UInt8}{c:UInt8}(h:c.toNat=a.length):mF ⟨a.toArray⟩++r=c::(a++r):=by
 have e:(⟨a.toArray⟩:ByteArray).size=a.length:=by simp[ByteArray.size]
 unfold mF;rw[e,<-h];simp
theorem wU {s r:List UInt8}{x:En}(h:yr s=some (x,r)):s=L6 x++r∧x.1.size<=255∧x.2.size<=255:=by
 cases s with
 |nil=>simp[yr]at h
 |cons c t=>
  simp only[yr]at h;by_cases h1:t.length<=c.toNat
  ·rw[if_pos h1]at h;cases h
  ·rw[if_neg h1]at h;cases hd:t.drop c.toNat with
   |nil=>rw[hd]at h;cases h
   |cons d q=>
    rw[hd]at h;simp only at h;by_cases h2:q.length<d.toNat
    ·rw[if_pos h2]at h;cases h
    ·rw[if_neg h2]at h;cases h;have l1:c.toNat=(t.take c.toNat).length:=by simp;omega
     have l2:d.toNat=(q.take d.toNat).length:=by simp;omega
     have c1:=UInt8.toNat_lt c;have d1:=UInt8.toNat_lt d;have e1:(⟨(t.take c.toNat).toArray⟩:ByteArray).size=c.toNat:=by simp[ByteArray.size];omega
     have e2:(⟨(q.take d.toNat).toArray⟩:ByteArray).size=d.toNat:=by simp[ByteArray.size];omega
     refine⟨?_,by simp only[e1];omega,by simp only[e2];omega⟩;unfold L6;rw[List.append_assoc,Bj l2,List.take_append_drop,<-hd,Bj l1,List.take_append_drop]
theorem Iq (c d:UInt8)(a b r:List UInt8)(h1:c.toNat=a.length)(h2:d.toNat=b.length):yr (c::(a++d::(b++r)))=some ((⟨a.toArray⟩,⟨b.toArray⟩),r):=by
 simp only[yr];have e1:¬(a++d::(b++r)).length<=c.toNat:=by rw[List.length_append,List.length_cons];omega
 have e2:(a++d::(b++r)).drop c.toNat=d::(b++r):=by rw[h1];simp
 have e3:(a++d::(b++r)).take c.toNat=a:=by rw[h1];simp
 have e4:¬(b++r).length<d.toNat:=by rw[List.length_append];omega
 have e5:(b++r).drop d.toNat=r:=by rw[h2];simp
 have e6:(b++r).take d.toNat=b:=by rw[h2];simp
 rw[if_neg e1,e2];simp only;rw[if_neg e4,e3,e5,e6]
theorem ofNat_size {n:Nat}(h:n<=255):(UInt8.ofNat n).toNat=n:=by
 simp;omega
theorem MS {x:En}(r:List UInt8)(h1:x.1.size<=255)(h2:x.2.size<=255):yr (L6 x++r)=some (x,r):=by
 have s1:=Lib.size_eq x.1;have s2:=Lib.size_eq x.2;have:=Iq (UInt8.ofNat x.1.size) (UInt8.ofNat x.2.size) x.1.data.toList x.2.data.toList r (by rw[ofNat_size h1];exact s1) (by rw[ofNat_size h2];exact s2);have e:L6 x++r=UInt8.ofNat x.1.size::(x.1.data.toList++UInt8.ofNat x.2.size::(x.2.data.toList++r)):=by simp[L6,mF]
 rw[e,this]
theorem sr {s r:List UInt8}{x:En}(h:yr s=some (x,r)):r.length<s.length:=by
 obtain⟨e,_,_⟩:=wU h;rw[e,List.length_append,sk];unfold lG;omega
def RN:Nat->List UInt8->Option (List En)
 |0,s=>if s.isEmpty then some []else none
 |n+1,s=>if s.isEmpty then some []else
  match yr s with
  |none=>none
  |some (x,r)=>(RN n r).map (x:: ·)
def zb (s:List UInt8):Option (List En):=RN s.length s
theorem Dp:∀(n m:Nat) (s:List UInt8),s.length<=n->s.length<=m->RN n s=RN m s
 |0,m,s,h,_=>by
  obtain rfl:s=[]:=List.length_eq_zero_iff.1 (by omega);cases m<;>rfl
 |n+1,0,s,_,h=>by
  obtain rfl:s=[]:=List.length_eq_zero_iff.1 (by omega);rfl
 |n+1,m+1,s,h1,h2=>by
  unfold RN;cases hs:s.isEmpty
  ·cases ht:yr s with
   |none=>rfl
   |some p=>
    obtain⟨x,r⟩:=p;have:=sr ht;simp only;rw[Dp n m r (by omega) (by omega)]
  ·rfl
theorem Dq:zb []=some []:=rfl
theorem ze {s:List UInt8}(hs:s≠[])(h:yr s=none):zb s=none:=by
 cases s with
 |nil=>exact absurd rfl hs
 |cons c t=>unfold zb;simp only[List.length_cons,RN,h];rfl
theorem su {s r:List UInt8}{x:En}(h:yr s=some (x,r)):zb s=(zb r).map (x:: ·):=by
 have hl:=sr h;cases s with
 |nil=>simp[yr]at h
 |cons c t=>
  unfold zb;simp only[List.length_cons,RN,h];rw[Dp t.length r.length r (by simpa using Nat.lt_succ_iff.1 hl) (Nat.le_refl _)];rfl
theorem MU {l:List En}(h:∀x∈l,x.1.size<=255∧x.2.size<=255):zb (za l)=some l:=by
 induction l with
 |nil=>rfl
 |cons x l ih=>
  have h1:=h x (List.mem_cons_self ..);unfold za;rw[su (MS (za l) h1.1 h1.2),ih fun y hy=>h y (List.mem_cons_of_mem _ hy)];rfl
theorem Ds:∀(n:Nat) (s:List UInt8) (l:List En),s.length<=n->zb s=some l->za l=s
 |n,[],l,_,h=>by rw[Dq]at h;cases h;rfl
 |0,c::t,l,hn,_=>by simp at hn
 |n+1,c::t,l,hn,h=>by
  cases hs:yr (c::t)with
  |none=>rw[ze (by simp) hs]at h;cases h
  |some p=>
   obtain⟨x,r⟩:=p;have hl:=sr hs;rw[su hs]at h;cases hd:zb r with
   |none=>rw[hd]at h;cases h
   |some m=>
    rw[hd]at h;cases h;rw[za,Ds n r m (by simp at hn hl⊢;omega) hd,<- (wU hs).1]
def zg (s:List UInt8):List En:=match zb s with
 |none=>[]
 |some l=>if im l=true then l else []
def Fj (s:List UInt8):Bool:=match zb s with
 |none=>false
 |some l=>im l
theorem Fk {s:List UInt8}(h:Fj s=true):Rg (zg s)∧za (zg s)=s:=by
 unfold Fj at h;unfold zg;cases hd:zb s with
 |none=>rw[hd]at h;cases h
 |some l=>
  rw[hd]at h;simp only at h⊢;rw[if_pos h];exact⟨rg_of h,Ds _ s l (Nat.le_refl _) hd⟩
theorem MV {l:List En}(h:Rg l):zg (za l)=l∧Fj (za l)=true:=by
 have hd:zb (za l)=some l:=MU fun x hx=>by
  have:=aV.1 (h.may x hx);omega
 unfold zg Fj;rw[hd];simp only[gO h];exact⟨rfl,trivial⟩
def U4 (l:List En):ByteArray:=⟨(if im l=true then za l else []).toArray⟩
def Ql (l:List En):Int:=if im l=true then 0 else 1
end
section
def ax (x:En):List Value:=[.string x.1,.string x.2]
theorem _root_.Go.Proofs.YtcenfooehjcddaaGreatDoor.GR.trans {u v w:World}(h:GR u v)(k:GR v w):GR u w:=by
 obtain⟨q,os,rfl⟩:=h;obtain⟨p,os',rfl⟩:=k;exact⟨q+p,os++os',by show grow (grow ((u.drewN q).drewN p) os) os'=_;rw[grow_grow,World.drewN_drewN]⟩
section
variable {α:Type}[Inhabited α]
variable {enc:α->List Value}{k base:Nat}{w w':World}{v:Value}{l:List α}
theorem _root_.Go.Proofs.YtcenfooehjcddaaGreatDoor.Own.below (h:Own enc k base w v l)(hb:Below w.heap.size w w'):Own enc k base w' v l:=by
 obtain⟨ao,cap,e,h1,h2,h3⟩:=h;refine⟨ao,cap,e,h1,h2,fun hne=>?_⟩;obtain⟨b,off,e2,G6,hlt,hH⟩:=h3 hne;exact⟨b,off,e2,G6,Nat.lt_of_lt_of_le hlt hb.size,fun t ht=>⟨(hb.cell (p:=⟨b,off+t,none⟩) hlt).trans (hH t ht).1,(hb.frozen (p:=⟨b,off+t,none⟩) hlt).trans (hH t ht).2⟩⟩
end
theorem cD (x:En):(ax x).length=2:=rfl
theorem fh (x:En):∀v∈ax x,v.oneCell'=true:=fun v hv=>by simp[ax]at hv;rcases hv with rfl|rfl<;>rfl
theorem fV:(Tryz.prog.info? 96).map (fun i=>(i.zero,i.size,i.bytes))=some (some (.agg #[.string ⟨#[]⟩,.string ⟨#[]⟩]),2,32):=by kernel_rfl
section
variable {α:Type}[Inhabited α]
end
theorem str_eq (a b:ByteArray):(a.toList==b.toList)=decide (a=b):=by
 by_cases h:a=b
 ·subst h;simp
 ·rw[decide_eq_false h];simp only[beq_eq_false_iff_ne,ne_eq];exact fun e=>h (jC e)
theorem Fl (a b c d:ByteArray)(w:World):(Op.equalIn 10000 96 (.agg #[.string a,.string b]) (.agg #[.string c,.string d])).run Tryz.prog w=.ok (decide ((a,b)=(c,d))) w:=by
 have u3:=Tryz.underlying9;have a3:=Tryz.isAgg9;have z3:=Tryz.sizeOf9;have hS:Tryz.prog.underlying 96=some (.struct (Tryz.prog.fieldsOf 96)):=by kernel_rfl
 have hp:Tryz.prog.stoodInHeld 96=false:=by kernel_rfl
 rw[show(10000:Nat)=9999+1 from rfl,run_equalIn_agg w 9999 96 _ _ hS hp];simp only[Program.fieldsOf,Tryz.underlying96];go_simp;have t1:∀ {x y:ByteArray},(x.toList=y.toList)=(x=y):=fun {x y}=>propext ⟨jC,fun h=>by rw[h]⟩;by_cases h1:a=c<;>by_cases h2:b=d<;>simp[h1,h2,t1]
theorem MW (x y:En)(w:World):Sem.run Tryz.prog (binOp .neq 96 (.agg (ax x).toArray) (.agg (ax y).toArray)) w=.ok (.bool (!decide (x=y))) w:=by
 obtain⟨a,b⟩:=x;obtain⟨c,d⟩:=y;simp only[ax];rw[run_neq_struct,Fl];rfl
theorem RP (op:BinOp)(a b:Operand)(x y:En)(w:World):Sem.run Tryz.prog (eqGuard op 96 a b (.agg (ax x).toArray) (.agg (ax y).toArray)) w=.ok () w:=
 GuardAt.agg (P:=Tryz.prog) (T:=96) (fun x:En=>(ax x).toArray) (by kernel_rfl) op a b x y w
theorem cW {w wr:World}{ao:Option Addr}{l:List En}(h3:l≠[]->∃b off,ao=some ⟨b,off,none⟩∧b<w.heap.size∧cx ax 2 w b off l)(i:Nat)(hi:i<l.length)(hb:Below w.heap.size w wr):
  ∃b off,ao=some ⟨b,off,none⟩∧b<w.heap.size∧wr.cell? ⟨b,off+i*2,none⟩=some (.string l[i]!.1)∧wr.cell? ⟨b,off+i*2+1,none⟩=some (.string l[i]!.2):=by
 obtain⟨b,off,e,hlt,hc⟩:=h3 (by intro h;rw[h]at hi;simp at hi);refine⟨b,off,e,hlt,?_,?_⟩
 ·rw[hb.cell (p:=⟨b,off+i*2,none⟩) hlt,hc (i*2) (by omega),get_flatK _ _ _ _ (by simp;omega),show i*2/2=i by omega,show i*2%2=0 by omega];simp[ax]
 ·rw[Nat.add_assoc,hb.cell (p:=⟨b,off+(i*2+1),none⟩) hlt,hc (i*2+1) (by omega),get_flatK _ _ _ _ (by simp;omega),show(i*2+1)/2=i by omega,show(i*2+1)%2=1 by omega];simp[ax]
theorem MZ {x y:En}{f:Bool}(h:decide (x=y)=f)(W:World):Sem.run Tryz.prog (binOp .neq 96 (.agg #[.string x.1,.string x.2]) (.agg #[.string y.1,.string y.2])) W=.ok (.bool !f) W:=by
 have:=MW x y W;rw[h]at this;exact this
theorem XH (x y:En)(op:BinOp)(a b:Operand)(W:World):Sem.run Tryz.prog (eqGuard op 96 a b (.agg #[.string x.1,.string x.2]) (.agg #[.string y.1,.string y.2])) W=.ok () W:=RP op a b x y W
abbrev bp (base:Nat)(W:World)(v:Value)(l:List En):Prop:=W.ownsRow base 96 2 v l.length (flatK ax 2 l.toArray).toList
theorem bp.empty (base:Nat)(W:World):bp base W (.slice none 0 0) []:=by unfold bp;simpa[flatK]using World.ownsRow_nil W base 96 2
theorem bp.own {base:Nat}{W:World}{v:Value}{l:List En}(h:bp base W v l):Own ax 2 base W v l:=bI (by decide) h
end
section
section
variable {w w':World}{q i k:Nat}{cs:Array Value}{t:TypeId}
end
theorem rR (x:En):#[Value.string x.1,Value.string x.2]=flatK ax 2 [x].toArray:=by
 apply Array.ext';have:=cE ax 2 cD [] x;rw[List.nil_append]at this;rw[this];simp[flatK,ax]
theorem _root_.Go.Proofs.YtcenfooehjcddaaGreatDoor.Cl.row {w:World}{q:Nat}{x:En}{t:TypeId}(h:Cl w q #[.string x.1,.string x.2] t):Row ax 2 w (.slice (some ⟨q,0,none⟩) 1 1) [x]:=
 kN h (rR x) rfl
theorem _root_.Go.Proofs.YtcenfooehjcddaaGreatDoor.Row.shape {w:World}{v:Value}{l:List En}(h:Row ax 2 w v l):∃ao c,v=.slice ao l.length c∧l.length<=c:=by
 obtain⟨ao,cap,rfl,h1,_⟩:=h;exact⟨ao,cap,rfl,h1⟩
theorem _root_.Go.Proofs.YtcenfooehjcddaaGreatDoor.Row.part {w:World}{ao:Option Addr}{n c:Nat}{l:List En}(h:Row ax 2 w (.slice ao n c) l)(i j m:Nat)(hm:j=i+m)(hj:j<=l.length)(cT:Option Addr)(hao:∀b off,ao=some ⟨b,off,none⟩->m≠0->cT=some ⟨b,off+i*2,none⟩)(c':Nat)(hc:m<=c')(hz:cT=none->c'=0):
  Row ax 2 w (.slice cT m c') ((l.drop i).take m):=by
 obtain⟨um,cap,e,h1,h2,h3⟩:=h;cases e;have hlen:((l.drop i).take m).length=m:=by simp;omega
 refine⟨cT,c',by rw[hlen],by rw[hlen];exact hc,hz,fun hne=>?_⟩;have hm0:m≠0:=by intro e;subst e;simp at hne
 obtain⟨b,off,e,hlt,hcell⟩:=h3 (by intro e;subst e;simp at hj;omega);refine⟨b,off+i*2,hao b off e hm0,hlt,fun t ht=>?_⟩;rw[hlen]at ht;rw[Nat.add_assoc,hcell (i*2+t) (by omega),get_flatK _ _ _ _ (by simp;omega),get_flatK _ _ _ _ (by simp;omega)];have e1:(i*2+t)/2=i+t/2:=by omega
 have e2:(i*2+t)%2=t%2:=by omega
 rw[e1,e2,getElem!_pos l.toArray (i+t/2) (by simp;omega),getElem!_pos ((l.drop i).take m).toArray (t/2) (by simp;omega)];simp
def fO (base:Nat)(w:World)(v:Value)(l:List En):Prop:=bp base w v l∨(l=[]∧∃ad,v=.slice (some ad) 0 0)
theorem fO.own {base:Nat}{w:World}{v:Value}{l:List En}(h:fO base w v l):Own ax 2 base w v l:=by
 rcases h with h| ⟨rfl,ad,rfl⟩
 ·exact h.own
 ·exact⟨some ad,0,rfl,Nat.le_refl _,(fun h=>by cases h),fun h=>absurd rfl h⟩
theorem fO.empty (base:Nat)(w:World)(ao:Option Addr):fO base w (.slice ao 0 0) []:=by
 cases ao with
 |none=>exact Or.inl (bp.empty _ _)
 |some ad=>exact Or.inr ⟨rfl,ad,rfl⟩
theorem fO.below {base:Nat}{w w':World}{v:Value}{l:List En}(h:fO base w v l)(hb:Below w.heap.size w w'):fO base w' v l:=by
 rcases h with h|h
 ·exact Or.inl (ownsRow_below h hb)
 ·exact Or.inr h
theorem fO.mono {base base':Nat}{w:World}{v:Value}{l:List En}(h:fO base w v l)(hb:base'<=base):fO base' w v l:=by
 rcases h with h|h
 ·left;refine⟨h.1,?_⟩;rcases h.2 with h2| ⟨g,cap,cur,hv,hg,r⟩
  ·exact Or.inl h2
  ·exact Or.inr ⟨g,cap,cur,hv,Nat.le_trans hb hg,r⟩
 ·exact Or.inr h
theorem oG {base:Nat}{w:World}{v:Value}{n:Nat}{xs:List Value}(h:w.ownsRow base 96 2 v n xs):∃ao c,v=.slice ao n c:=by
 rcases h.2 with⟨h,h2⟩| ⟨g,cap,cur,h,_⟩
 ·rw[h2];exact⟨_,_,h⟩
 ·exact⟨_,_,h⟩
theorem bp.other' {base:Nat}{W:World}{v:Value}{n:Nat}{xs:List Value}(h:W.ownsRow base 96 2 v n xs):∀k,v.ownBlock=some k->base<=k:=by
 intro k hk;rcases fJ h with hr| ⟨r,hr,hle⟩
 ·rw[hr]at hk;cases hk
 ·rw[hr]at hk;cases hk;exact hle
theorem vr {base:Nat}{w:World}{v u:Value}{l m:List En}(ty:TypeId)(h:fO base w v l)(hu:Row ax 2 w u m)(hl:l.length+m.length<1000000)(hbase:base<=w.heap.size):
  ∃ao n c w',(Builtin.append_ #[49,49] ty #[v,u]).run Tryz.prog w=.ok (.slice ao n c) w'∧fO base w' (.slice ao n c) (l++m)∧(∀w0,Below base w0 w->Below base w0 w'):=by
 obtain⟨i0,hi,hz0,hz1,hz2⟩:=info_parts fV;have ht:=Tryz.underlying49;obtain⟨ao,cap,rfl,h1,h2,h3⟩:=hu;have news:∀ad,ao=some ad->∀j u,(flatK ax 2 m.toArray).toList[j]? =some u->w.cell? (ad.add j)=some u:=by
  intro ad e j u hj;obtain⟨hj1,hj2⟩:=List.getElem?_eq_some_iff.1 hj;have lQ:j<m.length*2:=by simpa using hj1
  obtain⟨b,off,e2,_,hc⟩:=h3 (by intro e;rw[e]at lQ;simp at lQ);rw[e]at e2;cases e2;rw[Go.WideShapes.add_plain,hc j lQ,getElem!_pos _ j (by simpa using lQ),<-hj2];simp
 have Vt:ao=none->m=[]:=by
  intro e;rcases List.eq_nil_or_concat m with e1| ⟨m',y,e1⟩
  ·exact e1
  ·obtain⟨b,off,e2,_⟩:=h3 (by rw[e1];simp);rw[e]at e2;cases e2
 rcases h with h| ⟨rfl,ad0,rfl⟩
 ·cases ao with
  |none=>
   have hm:=Vt rfl;subst hm;have hc0:=h2 rfl;subst hc0;obtain⟨av,cv,rfl⟩:=oG h;exact⟨_,_,_,w,run_append_owned_none (P:=Tryz.prog) w base _ ty _ i0 2 ht hi _ _ _ h,by rw[List.append_nil];exact Or.inl h,fun _ hb=>hb⟩
  |some ad=>
   obtain⟨v',w',hr,g1,g2,_⟩:=run_append_own (P:=Tryz.prog) w base 49 ty 96 i0 _ 2 32 ht hi hz0 hz1 hz2 rfl (by decide) v _ _ h ad m.length cap (flatK ax 2 m.toArray).toList (by simp) (news ad rfl) (dt fh cD) (by unfold maxLen;omega) (by omega) hbase;obtain⟨av,cv,rfl⟩:=oG g1;refine⟨_,_,_,w',hr,Or.inl ?_,fun w0 hb=>hb.grown g2 hbase fun k hk=>bp.other' h k hk⟩;show w'.ownsRow base 96 2 _ (l++m).length (flatK ax 2 (l++m).toArray).toList;rw[List.length_append,cj ax 2 cD];exact g1
 ·by_cases hm:m=[]
  ·subst hm;refine⟨some ad0,0,0,w,?_,Or.inr ⟨rfl,ad0,rfl⟩,fun _ hb=>hb⟩;cases ao with
   |none=>simp[Builtin.append_,run_underlying ht,sizeOf,typeInfo,hi,Builtin.lenOf,Builtin.firstCells,storeCells]
   |some ad=>
    have hfc:=run_firstCells_some (P:=Tryz.prog) w i0.size 0 ad 0 cap [] (by simp) (fun j u hj=>by simp at hj);simp[Builtin.append_,run_underlying ht,sizeOf,typeInfo,hi,Builtin.lenOf,hfc,storeCells]
  ·have hpos:0<m.length:=List.length_pos_iff.2 hm;cases ao with
   |none=>exact absurd (Vt rfl) hm
   |some ad=>
    obtain⟨v',w',hr,g1,g2⟩:=run_append_arg_grows (P:=Tryz.prog) w 49 ty 96 i0 _ 2 32 ht hi hz0 hz1 hz2 rfl (by decide) ad0 0 0 [] (by simp) (by intro j u hj;simp at hj) ad m.length cap (flatK ax 2 m.toArray).toList (by simp) (news ad rfl) (by omega) (by unfold maxLen;omega) (by omega);obtain⟨av,cv,rfl⟩:=oG g1;refine⟨_,_,_,w',hr,Or.inl ?_,fun w0 hb=>hb.grown g2 hbase fun k hk=>by cases hk⟩;have g3:w'.ownsRow w.heap.size 96 2 (.slice av (0+m.length) cv) m.length (flatK ax 2 m.toArray).toList:=by
     have e:0+m.length=m.length:=Nat.zero_add _;rw[e]at g1⊢;simpa using g1
    rcases fO.mono (Or.inl g3) hbase with g4| ⟨g4,_⟩
    ·exact g4
    ·exact absurd g4 hm
theorem Ir {ops:Array Oper}{rest:List Oper}{o:Oper}{a:Act}{Q:Exit->Act->World->Prop}{w:World}(hgd:o.guard=.none)(s x:Operand)
  (ho:o.op=.call {callee:=.builtin .append,args:=#[s,x],argTypes:=#[49,49]})(base:Nat)(v:Value)(l:List En)(hs:a.eval s=v)(hown:fO base w v l)
  (u:Value)(m:List En)(hx:a.eval x=u)(hu:Row ax 2 w u m)(hl:l.length+m.length<1000000)(hbase:base<=w.heap.size)(lm:List En)(hlm:l++m=lm)
  (h:∀ao n c w',fO base w' (.slice ao n c) lm->(∀w0,Below base w0 w->Below base w0 w')->wpList Tryz.prog ops Q rest (a.put o.dst (.slice ao n c)) w'):wpList Tryz.prog ops Q (o::rest) a w:=by
 subst hlm;refine wpList_plain hgd fun K hK'=>?_;obtain⟨ao,n,c,w',hrun,h1,h2⟩:=vr o.type hown hu hl hbase;unfold Oper.wp;simp[execOp,ho,resolve,invoke,builtin,hs,hx,hrun,Result.andThen];exact hK' _ _ (h ao n c w' h1 h2)
theorem RQ {ops:Array Oper}{o:Oper}{a:Act}{K:Act->World->Prop}{Q:Exit->Act->World->Prop}{E:Prop}{w:World}(hg:o.guard=none)(s x:Operand)
  (ho:o.op=.call {callee:=.builtin .append,args:=#[s,x],argTypes:=#[49,49]})(base:Nat)(v:Value)(l:List En)(hs:a.eval s=v)(hown:fO base w v l)
  (u:Value)(m:List En)(hx:a.eval x=u)(hu:Row ax 2 w u m)(hl:l.length+m.length<1000000)(hbase:base<=w.heap.size)(lm:List En)(hlm:l++m=lm)
  (h:∀ao n c w',fO base w' (.slice ao n c) lm->(∀w0,Below base w0 w->Below base w0 w')->K (a.put o.dst (.slice ao n c)) w'):
  if Region.wanted o (yielded ops a.tmps)=true then Oper.wp Tryz.prog o a w K Q else E:=by
 subst hlm;have hw:Region.wanted o (yielded ops a.tmps)=true:=by simp[Region.wanted,hg]
 rw[if_pos hw];obtain⟨ao,n,c,w',hrun,h1,h2⟩:=vr o.type hown hu hl hbase;unfold Oper.wp execOp;simp only[ho,resolve,invoke,builtin,Sem.run_bind,Sem.run_pure,Result.andThen_ok,List.map_toArray,List.map_cons,List.map_nil,hs,hx,hrun];exact h ao n c w' h1 h2
end
section
def iF (k v:ByteArray):Int:=if cJ k v=true then 0 else 110
theorem dK {a b:Bool}(h:a=b):Ending.returned (.bool a)=Ending.returned (.bool b):=by rw[h]
theorem lH {a b:Int}(h:a=b):Ending.returned (.int .i64 a)=Ending.returned (.int .i64 b):=by rw[h]
theorem wV {k v:ByteArray}(h:¬(1<=k.size∧k.size<=16∧v.size<=40)):iF k v=110:=by
 unfold iF;rw[if_neg fun c=>h (aV.1 c)]
theorem Iu {k v:ByteArray}(h:1<=k.size∧k.size<=16∧v.size<=40):iF k v=0:=by
 unfold iF;rw[if_pos (aV.2 h)]
theorem Iw (s:ByteArray):s.toList.length=s.size:=by rw[Lib.toList_data,Lib.size_eq]
theorem Ix {k:ByteArray}(h:k.size=0):k=⟨#[]⟩:=by
 apply ByteArray.ext;apply Array.toList_inj.1;rw[Lib.size_eq]at h;exact List.eq_nil_of_length_eq_zero h
theorem Iy {k:ByteArray}(h:k.size≠0):¬k.toList=[]:=by
 intro e;have:=congrArg List.length e;rw[Iw]at this;exact h this
theorem Iz {k:ByteArray}(h:k.size≠0):k.toList.isEmpty=false:=by
 cases e:k.toList with
 |nil=>exact absurd e (Iy h)
 |cons a l=>rfl
theorem iT (k v:ByteArray)(w:World):Calls Tryz.prog 44 #[.string k,.string v] w fun e w'=>e=.returned (.int .i64 (iF k v))∧w=w':=by
 by_cases h1:k.size=0
 ·have E:Hid (iF k v=110):=wV (by omega);obtain rfl:k=⟨#[]⟩:=Ix h1;clear h1;go_enter Tryz.func44,Tryz.ntmps44;go_wp2;go_ret;exact⟨lH E.out.symm,rfl⟩
 ·have e1:=Iz h1;have e2:=Iy h1;by_cases h2:(16:Int)< (k.size:Int)
  ·have E:Hid (iF k v=110):=wV (by omega);go_enter Tryz.func44,Tryz.ntmps44;go_wp2;go_ret;exact⟨lH E.out.symm,rfl⟩
  ·by_cases h3:(40:Int)< (v.size:Int)
   ·have E:Hid (iF k v=110):=wV (by omega);go_enter Tryz.func44,Tryz.ntmps44;go_wp2;go_ret;exact⟨lH E.out.symm,rfl⟩
   ·have E:Hid (iF k v=0):=Iu (by omega);go_enter Tryz.func44,Tryz.ntmps44;go_wp2;go_ret;exact⟨lH E.out.symm,rfl⟩
theorem rS (x:En)(k:ByteArray)(W:World):Calls Tryz.prog 99 #[.agg #[.string x.1,.string x.2],.string k] W fun e w'=>e=.returned (.int .i64 (rX x.1 k))∧∃q os',w'=grow (W.drewN q) os':=by
 have hcon:=fun W'=>Any.strings_Compare Tryz.Mh x.1 k W';change ∀W',Calls Tryz.prog 100 _ _ _ at hcon;unfold rX;generalize Lib.compareBytes x.1.data.toList k.data.toList=r at hcon⊢;go_enter Tryz.func99,Tryz.ntmps99
 go_wp2_with (go_at_call 100;refine(hcon _).mono ?_;rintro e w' ⟨rfl,rfl⟩)
 go_ret;exact⟨rfl,0,_,by rw[alloc_eq_grow];rfl⟩
def Bk (l:List En)(k:ByteArray)(i:Nat)(f:Bool):Prop:=i<=l.length∧(f=true->i<l.length)∧(Rg l->i=jn l k∧f=gN l k)
theorem Bk.at {l:List En}{k:ByteArray}{i:Nat}{f:Bool}(hi:i<=l.length)(h1:Rg l->(∀t,t<i->bB l[t]!.1 k=true)∧(∀t,i<=t->t<l.length->bB l[t]!.1 k=false))(hf:f=true↔i<l.length∧l[i]!.1=k):Bk l k i f:=by
 refine⟨hi,fun e=>(hf.1 e).1,fun hr=>?_⟩;have e:=RD hr hi (h1 hr).1 (h1 hr).2;refine⟨e,?_⟩;rw[Bool.eq_iff_iff,hf,sg hr k,<-e]
theorem Bl (v:Value)(l:List En)(k:ByteArray)(w:World)(h:Row ax 2 w v l)(hl:l.length<=1000000):
  Calls Tryz.prog 98 #[v,.string k,.func (.func 99) #[] #[]] w fun e w'=>∃(i:Nat) (f:Bool),e=.returned (.tuple #[.int .i64 i,.bool f])∧Bk l k i f∧Below w.heap.size w w':=by
 obtain⟨ao,cap,rfl,h1,h2,h3⟩:=h;have H3:Aside (l≠[]->∃b off,ao=some ⟨b,off,none⟩∧b<w.heap.size∧cx ax 2 w b off l):=h3;clear h3;have HC:Hid (∀(x:En) (W:World),Calls Tryz.prog 99 #[.agg #[.string x.1,.string x.2],.string k] W fun e w'=>e=.returned (.int .i64 (rX x.1 k))∧∃q os',w'=grow (W.drewN q) os'):=fun x W=>rS x k W;go_enter Tryz.func98,Tryz.ntmps98;go_wp2
 go_loopg [9,10] l.length (fun kx s9 s10 wr=>∃lo hi:Nat,s9=.int .i64 lo∧s10=.int .i64 hi∧lo<=hi∧hi<=l.length∧hi-lo<=kx∧Hid (GR w wr)∧Hid (Rg l->(∀t,t<lo->bB l[t]!.1 k=true)∧(∀t,hi<=t->t<l.length->bB l[t]!.1 k=false)))
 case atStart=>exact⟨0,l.length,rfl,rfl,Nat.zero_le _,Nat.le_refl _,by omega,GR.refl _,fun _=>⟨fun t ht=>absurd ht (Nat.not_lt_zero _),fun t h1 h2=>by omega⟩⟩
 case round=>
  obtain⟨lo,hi,rfl,rfl,hlh,hin,hg,HG,I⟩:=hrel;by_cases hlt:lo<hi
  ·have hml:(lo+hi)/2<l.length:=by omega
   obtain⟨b,off,rfl,hb,x1,x2⟩:=cW H3.out ((lo+hi)/2) hml HG.out.below;generalize hx:l[(lo+hi)/2]! =x at*;have X:Hid (l[(lo+hi)/2]! =x):=hx;clear hx;have C:Hid _:=HC.out x wr;obtain⟨r,hr⟩:∃r,rX x.1 k=r:=⟨_,rfl⟩;have R:Hid (rX x.1 k=r):=hr;rw[hr]at C;clear hr;by_cases hyx:r<0
   ·have LT:Hid (bB x.1 k=true):=(Dj _ _).1 (by rw[R.out];exact hyx)
    go_wp2_with (go_at_call 99;refine Calls.mono C.out ?_;rintro e w' ⟨rfl,nq,osq,rfl⟩)
    go_roundg (hi- ((lo+hi)/2+1))
    case measure=>omega
    case rel=>
     refine⟨(lo+hi)/2+1,hi,by rw[show((lo:Int)+(hi:Int))/2+1=(((lo+hi)/2+1:Nat):Int) by omega],rfl,by omega,hin,Nat.le_refl _,HG.out.trans ⟨nq,osq,rfl⟩,fun hr=>⟨fun t ht=>?_,(I.out hr).2⟩⟩;rcases Nat.lt_or_ge t ((lo+hi)/2)with c|c
     ·exact cU (hr.up.at c hml) (by rw[X.out];exact LT.out)
     ·rw[show t=(lo+hi)/2 by omega,X.out];exact LT.out
   ·have LT:Hid (bB x.1 k=false):=by
     show _=_;cases e:bB x.1 k
     ·rfl
     ·exact absurd (by rw[<-R.out];exact(Dj _ _).2 e) hyx
    go_wp2_with (go_at_call 99;refine Calls.mono C.out ?_;rintro e w' ⟨rfl,nq,osq,rfl⟩)
    go_roundg ((lo+hi)/2-lo)
    case measure=>omega
    case rel=>
     refine⟨lo,(lo+hi)/2,rfl,by rw[show((lo:Int)+(hi:Int))/2=(((lo+hi)/2:Nat):Int) by omega],by omega,by omega,Nat.le_refl _,HG.out.trans ⟨nq,osq,rfl⟩,fun hr=>⟨(I.out hr).1,fun t ht htn=>?_⟩⟩;cases e:bB l[t]!.1 k
     ·rfl
     ·exfalso;rcases Nat.lt_or_ge ((lo+hi)/2) t with c|c
      ·have:=cU (hr.up.at c htn) e;rw[X.out,LT.out]at this;cases this
      ·rw[show t=(lo+hi)/2 by omega,X.out,LT.out]at e;cases e
  ·obtain rfl:hi=lo:=by omega
   by_cases hn:hi<l.length
   ·obtain⟨b,off,rfl,hb,x1,x2⟩:=cW H3.out hi hn HG.out.below;generalize hx:l[hi]! =x at*;have X:Hid (l[hi]! =x):=hx;clear hx;have C:Hid _:=HC.out x wr;obtain⟨r,hr⟩:∃r,rX x.1 k=r:=⟨_,rfl⟩;have R:Hid (rX x.1 k=r):=hr;rw[hr]at C;clear hr;by_cases hyx:r=0
    ·go_wp2_with (go_at_call 99;refine Calls.mono C.out ?_;rintro e w' ⟨rfl,nq,osq,rfl⟩)
     go_ret2;exact⟨hi,true,rfl,Bk.at hin I.out (by rw[X.out];exact⟨fun _=>⟨hn,(Dl _ _).1 (by rw[R.out];exact hyx)⟩,fun _=>rfl⟩),(HG.out.trans ⟨nq,osq,rfl⟩).below⟩
    ·have hr0:(r==0)=false:=beq_eq_false_iff_ne.2 hyx
     go_wp2_with (go_at_call 99;refine Calls.mono C.out ?_;rintro e w' ⟨rfl,nq,osq,rfl⟩)
     go_ret2;exact⟨hi,false,rfl,Bk.at hin I.out (by rw[X.out];exact⟨(fun h=>by cases h),fun h=>absurd (by rw[<-R.out];exact(Dl _ _).2 h.2) hyx⟩),(HG.out.trans ⟨nq,osq,rfl⟩).below⟩
   ·go_wp2;go_ret2;exact⟨hi,false,rfl,Bk.at hin I.out ⟨(fun h=>by cases h),fun h=>absurd h.1 hn⟩,HG.out.below⟩
theorem mX (v:Value)(l:List En)(k:ByteArray)(w:World)(h:Row ax 2 w v l)(hl:l.length<=1000000):
  Calls Tryz.prog 70 #[v,.string k] w fun e w'=>∃(i:Nat) (f:Bool),e=.returned (.tuple #[.int .i64 i,.bool f])∧Bk l k i f∧Below w.heap.size w w':=by
 have C:Hid _:=Bl v l k w h hl;obtain⟨ao,c,rfl,_⟩:=h.shape;clear h;go_enter Tryz.func70,Tryz.ntmps70
 go_wp2_with (go_at_call 98;refine Calls.mono C.out ?_;rintro e w' ⟨i,f,rfl,hf,hb⟩)
 go_ret2;exact⟨i,f,rfl,hf,hb⟩
end
section
theorem _root_.Go.Proofs.YtcenfooehjcddaaGreatDoor.GR.drewN {w w':World}(h:GR w w')(n:Nat):GR w (w'.drewN n):=by
 obtain⟨q,os,rfl⟩:=h;exact⟨q+n,os,by show grow ((w.drewN q).drewN n) os=_;rw[World.drewN_drewN]⟩
theorem Dt (k v:ByteArray)(e:Int)(he:iF k v=e)(W:World):∀m,Calls Tryz.prog 44 #[.string k,.string v] (W.drewN m) fun r w'=>r=.returned (.int .i64 e)∧∃m',w'=W.drewN m':=fun m=>
 (iT k v (W.drewN m)).mono fun _ _ ⟨h1,h2⟩=>⟨by rw[h1,he],m,h2.symm⟩
theorem wW {l:List En}{i:Nat}{b c:Bool}(h1:cJ l[i]!.1 l[i]!.2=b)(h2:(i==0||bB l[i-1]!.1 l[i]!.1)=c):Dm l i=(b&&c):=by
 unfold Dm;rw[h1,h2]
theorem kQ {k v:ByteArray}:iF k v=if cJ k v=true then 0 else 110:=rfl
theorem iU (v:Value)(l:List En)(w:World)(h:Row ax 2 w v l)(hl:l.length<=1000000):
  Calls Tryz.prog 68 #[v] w fun e w'=>e=.returned (.bool (im l))∧Below w.heap.size w w':=by
 obtain⟨ao,cap,rfl,h1,h2,h3⟩:=h;have H3:Aside (l≠[]->∃b off,ao=some ⟨b,off,none⟩∧b<w.heap.size∧cx ax 2 w b off l):=h3;clear h3;go_enter Tryz.func68,Tryz.ntmps68;go_wp2
 go_loopg [7] l.length (fun kx s7 wr=>∃(i:Nat),s7=.int .i64 i∧i<=l.length∧l.length-i<=kx∧Hid (GR w wr)∧Hid (∀j,j<i->Dm l j=true))
 case atStart=>exact⟨0,rfl,Nat.zero_le _,Nat.le_refl _,GR.refl _,fun j hj=>absurd hj (Nat.not_lt_zero _)⟩
 case round=>
  obtain⟨i,rfl,hi,hki,HG,HN⟩:=hrel;by_cases hil:i<l.length
  ·have dO:(i:Int)< (l.length:Int):=by omega
   obtain⟨b,off,rfl,hb,x1,x2⟩:=cW H3.out i hil HG.out.below;obtain⟨x,hx⟩:∃x,l[i]! =x:=⟨_,rfl⟩;rw[hx]at x1 x2;have X:Hid (l[i]! =x):=hx;clear hx;have HG2:Hid (GR w (wr.alloc (.cells #[.string x.1,.string x.2] 96))):=HG.out.alloc _;have y1:(wr.alloc (.cells #[.string x.1,.string x.2] 96)).cell? ⟨wr.heap.size,0,none⟩=some (.string x.1):=by simp
   have hsz:wr.heap.size< (wr.alloc (.cells #[.string x.1,.string x.2] 96)).heap.size:=by simp
   have y2:(wr.alloc (.cells #[.string x.1,.string x.2] 96)).cell? ⟨wr.heap.size,1,none⟩=some (.string x.2):=by simp
   cases hm:cJ x.1 x.2
   ·have Q1:Hid _:=Dt x.1 x.2 110 (by rw[kQ,hm];rfl) (wr.alloc (.cells #[.string x.1,.string x.2] 96));have RF:Hid (im l=false):=Bf i hil (wW (b:=false) (c:=(i==0||bB l[i-1]!.1 l[i]!.1)) (by rw[X.out];exact hm) rfl);clear HN hm
    go_upto_region 4 with fail
    generalize wr.alloc (.cells #[.string x.1,.string x.2] 96)=W at*
    go_quiet ((go_at_call 44;with_reducible exact Q1.out _))
    go_wp2;go_ret;exact⟨dK RF.out.symm,(HG2.out.drewN _).below⟩
   ·have Q1:Hid _:=Dt x.1 x.2 0 (by rw[kQ,hm];rfl) (wr.alloc (.cells #[.string x.1,.string x.2] 96));have M:Hid (cJ x.1 x.2=true):=hm;clear hm;rcases Nat.eq_zero_or_pos i with hi0|hi0
    ·have N2:Hid (∀j,j<i+1->Dm l j=true):=fun j hj=>by
      obtain rfl:j=i:=by omega
      rw[wW (b:=true) (c:=true) (by rw[X.out];exact M.out) (by rw[hi0];rfl)];rfl
     have hd:decide ((0:Int)< (i:Int))=false:=by rw[hi0];decide
     have hd2:decide (0<i)=false:=by rw[hi0];decide
     clear HN hi0
     go_upto_region 4 with fail
     generalize wr.alloc (.cells #[.string x.1,.string x.2] 96)=W at*
     go_quiet ((go_at_call 44;with_reducible exact Q1.out _))
     go_wp2
     go_roundg (l.length- (i+1))
     case measure=>omega
     case rel=>exact⟨i+1,by go_num,by omega,Nat.le_refl _,HG2.out.drewN _,N2⟩
    ·obtain⟨i,rfl⟩:∃i',i=i'+1:=⟨i-1,by omega⟩;clear hi0;obtain⟨b2,YN,e2,hb2,z1,_⟩:=cW H3.out i (by omega) HG.out.below;cases e2;obtain⟨y,hy⟩:∃y,l[i]! =y:=⟨_,rfl⟩;rw[hy]at z1;have Y:Hid (l[i]! =y):=hy;clear hy;have z2:(wr.alloc (.cells #[.string x.1,.string x.2] 96)).cell? ⟨b,off+i*2,none⟩=some (.string y.1):=Lib.cell?_alloc_some _ z1;cases hlt:bB y.1 x.1
     ·have RF:Hid (im l=false):=Bf (i+1) hil (wW (b:=true) (c:=false) (by rw[X.out];exact M.out) (by
       rw[show i+1-1=i from rfl,X.out,Y.out,hlt];rfl))
      have hlt2:Op.bytesLess y.1.toList x.1.toList=false:=hlt;clear HN hlt
      go_upto_region 4 with fail
      generalize wr.alloc (.cells #[.string x.1,.string x.2] 96)=W at*
      go_quiet ((go_at_call 44;with_reducible exact Q1.out _))
      go_wp2;go_ret;exact⟨dK RF.out.symm,(HG2.out.drewN _).below⟩
     ·have N2:Hid (∀j,j<i+1+1->Dm l j=true):=fun j hj=>by
       rcases Nat.lt_or_ge j (i+1)with c|c
       ·exact HN.out j c
       ·obtain rfl:j=i+1:=by omega
        rw[wW (b:=true) (c:=true) (by rw[X.out];exact M.out) (by rw[show i+1-1=i from rfl,X.out,Y.out,hlt];simp)];rfl
      have hlt2:Op.bytesLess y.1.toList x.1.toList=true:=hlt;clear HN hlt
      go_upto_region 4 with fail
      generalize wr.alloc (.cells #[.string x.1,.string x.2] 96)=W at*
      go_quiet ((go_at_call 44;with_reducible exact Q1.out _))
      go_wp2
      go_roundg (l.length- (i+1+1))
      case measure=>omega
      case rel=>exact⟨i+1+1,by go_num,by omega,Nat.le_refl _,HG2.out.drewN _,N2⟩
  ·have dO:¬(i:Int)< (l.length:Int):=by omega
   obtain rfl:i=l.length:=by omega
   have RT:Hid (im l=true):=wQ HN.out;clear HN;go_wp2;go_ret;exact⟨dK RT.out.symm,HG.out.below⟩
end
section
def Gv (w:World)(l:List En)(e:Ending)(w':World):Prop:=∃v',e=.returned v'∧Own ax 2 w.heap.size w' v' l∧Below w.heap.size w w'
theorem IE:Tryz.prog.underlying 49=some (.slice (Tryz.prog.elem 49)):=by kernel_rfl
theorem IG (u:World):(sizeOf (Tryz.prog.elem 49)).run Tryz.prog u=.ok 2 u:=by kernel_rfl
theorem add0 (a:Addr):a.add 0=a:=by
 cases a;simp[Addr.add]
theorem wX (ao:Option Addr)(n c k:Nat)(hk:k<=c)(u:World):(Instr.slice 49 (.slice ao n c) none (some (.int .i64 (k:Int))) none).run Tryz.prog u=.ok (.slice ao k c) u:=by
 rw[run_slice_h u 49 ao n c IE .i64 k (by omega) (by omega),IG];simp only[Result.andThen,sliced,Int.toNat_natCast];cases ao<;>simp[add0]
theorem II (ao:Option Addr)(n c:Nat)(u:World):(Instr.slice 49 (.slice ao n c) none (some (.int .i64 0)) (some (.int .i64 0))).run Tryz.prog u=.ok (.slice ao 0 0) u:=by
 rw[run_slice_hm u 49 ao n c IE .i64 .i64 0 0 (by omega) (by omega) (by omega),IG];simp[Result.andThen,sliced]
theorem wY (ao:Option Addr)(n c k:Nat)(hk:k<=n)(u:World):(Instr.slice 49 (.slice ao n c) (some (.int .i64 (k:Int))) none none).run Tryz.prog u=.ok (.slice (if c=k then ao else ao.map (·.add (k*2))) (n-k) (c-k)) u:=by
 rw[run_slice_l u 49 ao n c IE .i64 k (by omega) (by omega),IG];simp[Result.andThen,sliced]
theorem _root_.Go.Proofs.YtcenfooehjcddaaGreatDoor.Row.pre {w:World}{ao:Option Addr}{n c:Nat}{l:List En}(h:Row ax 2 w (.slice ao n c) l)(k:Nat)(hk:k<=l.length):Row ax 2 w (.slice ao k c) (l.take k):=by
 have e:=h;obtain⟨um,cap,e1,h1,h2,h3⟩:=e;cases e1;have:=h.part 0 k k (by omega) hk ao (fun b off e _=>by rw[e];simp) c (by omega) h2;simpa using this
theorem _root_.Go.Proofs.YtcenfooehjcddaaGreatDoor.Row.suf {w:World}{ao:Option Addr}{n c:Nat}{l:List En}(h:Row ax 2 w (.slice ao n c) l)(k:Nat)(hk:k<=l.length):Row ax 2 w (.slice (if c=k then ao else ao.map (·.add (k*2))) (n-k) (c-k)) (l.drop k):=by
 have e:=h;obtain⟨um,cap,e1,h1,h2,h3⟩:=e;cases e1;have:=h.part k l.length (l.length-k) (by omega) (Nat.le_refl _) (if c=k then ao else ao.map (·.add (k*2))) (fun b off e hm=>by
  rw[if_neg (by omega),e]
  show some (Addr.add ⟨b,off,none⟩ (k*2))=_
  rw[Go.WideShapes.add_plain]) (c-k) (by omega) (fun e=>by
  by_cases c1:c=k
  ·omega
  ·rw[if_neg c1]at e
   have:ao=none:=by cases ao with
    |none=>rfl
    |some a=>simp at e
   have:=h2 this
   omega)
 rwa [List.take_of_length_le (by simp)]at this
theorem zh (a:Addr)(c:Nat)(w:World):Calls Tryz.prog 69 #[.slice (some a) 0 c] w (Gv w ([]:List En)):=by
 obtain⟨i0,hi,hz0,hz1,hz2⟩:=info_parts fV;have q22:∀(w:World) (a:Option Addr) (n c n' c':Nat),(binOp .eql 49 (.slice a n c) (.slice none n' c')).run Tryz.prog w=.ok (.bool a.isNone) w:=fun w a n c n' c'=>Lib.run_eql_slice_nil w _ _ a n c n' c' Tryz.underlying49;go_enter Tryz.func69,Tryz.ntmps69
 go_wp2_with (at_builtin;refine wpList_append_own _ rfl _ _ 49 rfl w.heap.size 96 i0 _ 2 32 Tryz.underlying49 hi hz0 hz1 hz2 rfl (by decide) _ _ _ rfl (World.ownsRow_made w #[] 0 (Nat.le_refl _) (Nat.zero_le _) (by simp)) a 0 c [] rfl rfl (fun j u hj=>by simp at hj) (fun u hu=>by simp at hu) (by simp[maxLen]) (by simp) (by simp) ?_)
 intro v' w1 hown hgrow hnil;go_wp2;go_ret;refine⟨v',rfl,bI (n:=0) (by decide) (by simpa[flatK]using hown),?_⟩;exact((Below.refl _ w).alloc (Nat.le_refl _) _).grown hgrow (by simp) (by intro k hk;simp[Value.ownBlock]at hk;omega)
theorem kR (v:Value)(l:List En)(w:World)(h:Row ax 2 w v l)(hl:l.length<=1000000):Calls Tryz.prog 69 #[v] w (Gv w l):=by
 obtain⟨ao,cap,rfl,h1,h2,h3⟩:=h;by_cases hne:l=[]
 ·subst hne;cases ao with
  |none=>
   refine(AnyE.slices_Clone_nil Tryz.rG _ _ w).mono ?_;rintro e w' ⟨rfl,rfl⟩;exact⟨_,rfl,Own.nil,Below.refl _ _⟩
  |some a=>exact zh a cap w
 ·obtain⟨b,off,rfl,hb,hc⟩:=h3 hne;obtain⟨i0,hi,hz0,hz1,hz2⟩:=info_parts fV;refine(AnyE.slices_Clone Tryz.rG i0 _ 2 32 hi hz0 hz1 hz2 rfl (by decide) Tryz.sizeOf96 b off l.length cap (flatK ax 2 l.toArray).toList w (by simp) (by unfold maxLen;omega) (by omega) (fun j u hj=>?_) (dt fh cD)).mono ?_
  ·obtain⟨hj1,hj2⟩:=List.getElem?_eq_some_iff.1 hj;have lQ:j<l.length*2:=by simpa using hj1
   rw[hc j lQ,getElem!_pos _ j (by simpa using lQ),<-hj2];simp
  ·rintro e w' ⟨v',rfl,hown,_,hbel⟩;exact⟨v',rfl,bI (by decide) hown,hbel⟩
theorem lX (v vo:Value)(l m:List En)(i j:Nat)(w:World)(h:Row ax 2 w v l)(ho:Row ax 2 w vo m)(hij:i<=j)(hj:j<=l.length)(hl:l.length+l.length+m.length<1000000):
  Calls Tryz.prog 71 #[v,.int .i64 i,.int .i64 j,vo] w (Gv w (l.take i++m++l.drop j)):=by
 obtain⟨ao,c,rfl,hc⟩:=h.shape;obtain⟨gR,c2,rfl,hc2⟩:=ho.shape;have P1:Aside (Row ax 2 w (.slice ao i c) (l.take i)):=h.pre i (by omega);have P2:Aside (Row ax 2 w (.slice gR m.length c2) m):=ho;have P3:Aside (Row ax 2 w _ (l.drop j)):=h.suf j hj;have e0:=II ao l.length c;have e1:=wX ao l.length c i (by omega);have e2:=wY ao l.length c j hj;generalize(if c=j then ao else ao.map (·.add (j*2)))=wZ at e2 P3;have t1:(l.take i).length=i:=by simp;omega
 have t3:(l.drop j).length=l.length-j:=by simp
 have D1:Aside (Row ax 2 w.drew (.slice ao i c) (l.take i)):=P1.out.below (Below.refl _ w).drew;have Z0:Aside (fO w.heap.size w.drew (.slice ao 0 0) []):=fO.empty _ _ _;generalize l.take i=x at*;generalize l.drop j=y at*;obtain⟨xm,hxm⟩:∃xm,x++m=xm:=⟨_,rfl⟩;have lxm:xm.length=i+m.length:=by rw[<-hxm,List.length_append,t1]
 rw[hxm];obtain⟨tot,htot⟩:∃tot,xm++y=tot:=⟨_,rfl⟩;rw[htot];have XM:Hid (x++m=xm):=hxm;have YO:Hid (xm++y=tot):=htot;clear h ho P1 hxm htot;go_enter Tryz.func71,Tryz.ntmps71
 go_wp2_with fail
 go_region_held3 (fun _=>True) (trivial) ((refine RQ rfl _ _ rfl w.heap.size _ [] rfl Z0.out _ x rfl D1.out (by simp;omega) (Nat.le_refl _) x (by simp) ?_;intro a1 n1 c1 w1 O1 B1))
 have O1':Aside (fO w.heap.size w1 (.slice a1 n1 c1) x):=O1;have YP:Hid (Below w.heap.size w w1):=B1 _ (Below.refl _ w).drew;have R1:Aside (Row ax 2 w1 (.slice gR m.length c2) m):=P2.out.below YP.out;have s1:=YP.out.size;clear O1 B1 P2 Z0 D1 e0 e1
 go_wp2_with (at_builtin;refine Ir rfl _ _ rfl w.heap.size _ x rfl O1'.out _ m rfl R1.out (by omega) s1 xm XM.out ?_)
 intro a2 n2 c3 w2 O2 B2;have O2':Aside (fO w.heap.size w2 (.slice a2 n2 c3) xm):=O2;have YQ:Hid (Below w.heap.size w w2):=B2 _ YP.out;have R2:Aside (Row ax 2 w2 (.slice wZ (l.length-j) (c-j)) y):=P3.out.below YQ.out;have s2:=YQ.out.size;clear O2 B2 O1' R1 P3
 go_wp2_with (at_builtin;refine Ir rfl _ _ rfl w.heap.size _ xm rfl O2'.out _ y rfl R2.out (by omega) s2 tot YO.out ?_)
 intro a4 n4 c4 w4 O4 B4;have O4':Aside (fO w.heap.size w4 (.slice a4 n4 c4) tot):=O4;have B4':Hid (Below w.heap.size w w4):=B4 _ YQ.out;clear O4 B4 O2' R2 e2;go_wp2;go_ret;exact⟨_,rfl,O4'.out.own,B4'.out⟩
def qF (l:List En)(k:ByteArray):ByteArray:=if im l=true then iC l k else⟨#[]⟩
def lI (l:List En)(k:ByteArray):Bool:=im l&&gN l k
def Bn (l:List En)(k v:ByteArray):List En:=if(cJ k v&&im l)=true then jD l k v else l
def zj (l:List En)(k:ByteArray):List En:=if im l=true then iv l k else l
theorem IJ {l:List En}{k:ByteArray}{i:Nat}{f:Bool}(hf:Bk l k i f)(h:f=false∨im l=false):qF l k=⟨#[]⟩∧lI l k=false:=by
 unfold qF lI;cases hr:im l
 ·exact⟨rfl,rfl⟩
 ·have h2:=(hf.2.2 (rg_of hr)).2;rcases h with h|h
  ·rw[h]at h2;rw[<-h2,wS h2.symm];exact⟨rfl,rfl⟩
  ·rw[hr]at h;cases h
theorem M7 {l:List En}{k:ByteArray}{i:Nat}(hf:Bk l k i true)(hr:im l=true):qF l k=l[i]!.2∧lI l k=true:=by
 obtain⟨h1,h2⟩:=hf.2.2 (rg_of hr);unfold qF lI;rw[hr,if_pos rfl,RH (rg_of hr) h2.symm,<-h1,<-h2];exact⟨rfl,rfl⟩
theorem Du (v:Value)(l:List En)(k:ByteArray)(w:World)(h:Row ax 2 w v l)(hl:l.length<=1000000):
  Calls Tryz.prog 63 #[v,.string k] w fun e w'=>e=.returned (.tuple #[.string (qF l k),.bool (lI l k)])∧Below w.heap.size w w':=by
 have C:Hid _:=mX v l k w h hl;have H:Aside (Row ax 2 w v l):=h;obtain⟨ao,c,rfl,_⟩:=h.shape;clear h;go_enter Tryz.func63,Tryz.ntmps63
 go_upto_region 2 with(go_at_call 70;refine Calls.mono C.out ?_;rintro e w1 ⟨i,f,rfl,hf,hb⟩)
 have FN:Hid (Bk l k i f):=hf;have hil:f=true->i<l.length:=hf.2.1;have B1:Hid (Below w.heap.size w w1):=hb;clear hf hb C;cases f with
 |false=>
  obtain⟨e1,e2⟩:=IJ FN.out (Or.inl rfl);have E1:Hid (qF l k=⟨#[]⟩):=e1;have E2:Hid (lI l k=false):=e2;clear e1 e2 FN hil;go_wp2;go_ret2;exact⟨by rw[E1.out,E2.out];rfl,B1.out⟩
 |true=>
  have C2:Hid _:=iU _ l w1 (H.out.below B1.out) hl;have hi:=hil rfl;cases hr:im l with
  |false=>
   obtain⟨e1,e2⟩:=IJ FN.out (Or.inr hr);have E1:Hid (qF l k=⟨#[]⟩):=e1;have E2:Hid (lI l k=false):=e2;rw[hr]at C2;clear e1 e2 FN hil hr
   go_wp2_with (go_at_call 68;refine Calls.mono C2.out ?_;rintro e w2 ⟨rfl,hb2⟩)
   go_ret2;exact⟨by rw[E1.out,E2.out];rfl,B1.out.trans (hb2.mono B1.out.size)⟩
  |true=>
   obtain⟨e1,e2⟩:=M7 FN.out hr;have E1:Hid (qF l k=l[i]!.2):=e1;have E2:Hid (lI l k=true):=e2;rw[hr]at C2;clear e1 e2 FN hil hr
   go_upto_region 4 with(go_at_call 68;refine Calls.mono C2.out ?_;rintro e w2 ⟨rfl,hb2⟩)
   have B2:Hid (Below w.heap.size w w2):=B1.out.trans (hb2.mono B1.out.size);obtain⟨um,c1,e3,h1,h2,h3⟩:=H.out;cases e3;obtain⟨b,off,rfl,hbb,x1,x2⟩:=cW h3 i hi B2.out;clear h3 hb2 H;generalize l[i]! =x at*;go_wp2;go_ret2;exact⟨by rw[E1.out,E2.out];rfl,B2.out⟩
theorem IK {l:List En}{k v:ByteArray}(h:cJ k v=false∨im l=false):Bn l k v=l:=by
 unfold Bn;rcases h with h|h<;>simp[h]
theorem Dv {l:List En}{k v:ByteArray}{i:Nat}{f:Bool}(hf:Bk l k i f)(hm:cJ k v=true)(hr:im l=true)(j:Nat)(hj:j=if f=true then i+1 else i):l.take i++[(k,v)]++l.drop j=Bn l k v:=by
 obtain⟨h1,h2⟩:=hf.2.2 (rg_of hr);unfold Bn;rw[hm,hr,Bool.and_self,if_pos rfl,h1];refine MR (rg_of hr) hm ?_;rw[hj,h1,h2]
theorem IL (vl:Value)(l:List En)(k v:ByteArray)(w:World)(h:Row ax 2 w vl l)(hl:l.length<=400000):
  Calls Tryz.prog 47 #[vl,.string k,.string v] w (Gv w (Bn l k v)):=by
 have H:Aside (Row ax 2 w vl l):=h;obtain⟨ao,c,rfl,hc⟩:=h.shape;have CK:Hid _:=iT k v w;cases hm:cJ k v with
 |false=>
  rw[IK (Or.inl hm)];rw[kQ,hm]at CK;have C:Hid _:=kR _ l w h (by omega);clear h hm;go_enter Tryz.func47,Tryz.ntmps47
  go_wp2_with (first| (go_at_call 44;refine Calls.mono CK.out ?_;rintro e w1 ⟨rfl,rfl⟩)| (go_at_call 69;refine Calls.mono C.out ?_;rintro e w1 ⟨v1,rfl,ho,hb⟩))
  go_ret;exact⟨_,rfl,ho,hb⟩
 |true=>
  rw[kQ,hm]at CK;have CR:Hid _:=iU _ l w h (by omega);clear h;cases hr:im l with
  |false=>
   rw[IK (Or.inr hr)];rw[hr]at CR;clear hm hr;go_enter Tryz.func47,Tryz.ntmps47
   go_upto_region 2 with(first| (go_at_call 44;refine Calls.mono CK.out ?_;rintro e w1 ⟨rfl,rfl⟩)| (go_at_call 68;refine Calls.mono CR.out ?_;rintro e w1 ⟨rfl,hb⟩))
   have B1:Hid (Below w.heap.size w w1):=hb;have C:Hid _:=kR _ l w1 (H.out.below hb) (by omega);clear hb CK CR
   go_wp2_with (go_at_call 69;refine Calls.mono C.out ?_;rintro e w2 ⟨v2,rfl,ho,hb⟩)
   go_ret;exact⟨_,rfl,ho.mono B1.out.size,B1.out.trans (hb.mono B1.out.size)⟩
  |true=>
   rw[hr]at CR;have M:Hid (cJ k v=true):=hm;have RG:Hid (im l=true):=hr;clear hm hr;go_enter Tryz.func47,Tryz.ntmps47
   go_upto_region 3 with(first| (go_at_call 44;refine Calls.mono CK.out ?_;rintro e w1 ⟨rfl,rfl⟩)| (go_at_call 68;refine Calls.mono CR.out ?_;rintro e w1 ⟨rfl,hb⟩))
   have B1:Hid (Below w.heap.size w w1):=hb;have C:Hid _:=mX _ l k w1 (H.out.below hb) (by omega);clear hb CK CR
   go_upto_region 5 with(go_at_call 70;refine Calls.mono C.out ?_;rintro e w2 ⟨i,f,rfl,hf,hb2⟩)
   have B2:Hid (Below w.heap.size w w2):=B1.out.trans (hb2.mono B1.out.size);have hil:=hf.1;have M8:=hf.2.1;have FN:Hid (Bk l k i f):=hf;clear hb2 hf C B1;have B3:Hid (Below w.heap.size w (w2.alloc (.cells #[.string k,.string v] 96))):=B2.out.alloc B2.out.size _;have RO:Hid (Row ax 2 (w2.alloc (.cells #[.string k,.string v] 96)) (.slice (some ⟨w2.heap.size,0,none⟩) 1 1) [(k,v)]):=(Cl.new w2 #[.string k,.string v] 96).row;have RL:Hid (Row ax 2 (w2.alloc (.cells #[.string k,.string v] 96)) (.slice ao l.length c) l):=H.out.below B3.out;cases f with
   |false=>
    have E:=Dv FN.out M.out RG.out i rfl;have S:Hid _:=lX _ _ l [(k,v)] i i _ RL.out RO.out (Nat.le_refl _) hil (by simp;omega);rw[E]at S;clear E RL RO H
    go_wp2_with (go_at_call 71;refine Calls.mono S.out ?_;rintro e w4 ⟨v4,rfl,ho,hb⟩)
    go_ret;exact⟨_,rfl,ho.mono B3.out.size,B3.out.trans (hb.mono B3.out.size)⟩
   |true=>
    have hi:=M8 rfl;have E:=Dv FN.out M.out RG.out (i+1) rfl;have S:Hid _:=lX _ _ l [(k,v)] i (i+1) _ RL.out RO.out (Nat.le_succ _) hi (by simp;omega);rw[E]at S;clear E RL RO H
    go_wp2_with (go_at_call 71;refine Calls.mono S.out ?_;rintro e w4 ⟨v4,rfl,ho,hb⟩)
    go_ret;exact⟨_,rfl,ho.mono B3.out.size,B3.out.trans (hb.mono B3.out.size)⟩
theorem IM {l:List En}{k:ByteArray}{i:Nat}{f:Bool}(hf:Bk l k i f)(h:f=false∨im l=false):zj l k=l:=by
 unfold zj;cases hr:im l
 ·rfl
 ·have h2:=(hf.2.2 (rg_of hr)).2;rcases h with h|h
  ·rw[h]at h2;rw[if_pos rfl,Ip h2.symm]
  ·rw[hr]at h;cases h
theorem M9 {l:List En}{k:ByteArray}{i:Nat}(hf:Bk l k i true)(hr:im l=true):l.take i++[]++l.drop (i+1)=zj l k:=by
 obtain⟨h1,h2⟩:=hf.2.2 (rg_of hr);unfold zj;rw[hr,if_pos rfl,List.append_nil,h1,MQ (rg_of hr) h2.symm]
theorem Bo (vl:Value)(l:List En)(k:ByteArray)(w:World)(h:Row ax 2 w vl l)(hl:l.length<=400000):
  Calls Tryz.prog 64 #[vl,.string k] w (Gv w (zj l k)):=by
 have H:Aside (Row ax 2 w vl l):=h;obtain⟨ao,c,rfl,hc⟩:=h.shape;have C:Hid _:=mX _ l k w h (by omega);clear h;go_enter Tryz.func64,Tryz.ntmps64
 go_upto_region 2 with(go_at_call 70;refine Calls.mono C.out ?_;rintro e w1 ⟨i,f,rfl,hf,hb⟩)
 have FN:Hid (Bk l k i f):=hf;have hil:f=true->i<l.length:=hf.2.1;have B1:Hid (Below w.heap.size w w1):=hb;clear hf hb C;cases f with
 |false=>
  have E:Hid (zj l k=l):=IM FN.out (Or.inl rfl);have C:Hid _:=kR _ l w1 (H.out.below B1.out) (by omega);clear FN hil
  go_wp2_with (go_at_call 69;refine Calls.mono C.out ?_;rintro e w2 ⟨v2,rfl,ho,hb⟩)
  go_ret;exact⟨_,rfl,by rw[E.out];exact ho.mono B1.out.size,B1.out.trans (hb.mono B1.out.size)⟩
 |true=>
  have C2:Hid _:=iU _ l w1 (H.out.below B1.out) (by omega);have hi:=hil rfl;cases hr:im l with
  |false=>
   have E:Hid (zj l k=l):=IM FN.out (Or.inr hr);rw[hr]at C2;clear FN hil hr
   go_upto_region 3 with(go_at_call 68;refine Calls.mono C2.out ?_;rintro e w2 ⟨rfl,hb2⟩)
   have B2:Hid (Below w.heap.size w w2):=B1.out.trans (hb2.mono B1.out.size);have C:Hid _:=kR _ l w2 (H.out.below B2.out) (by omega);clear hb2 C2 B1
   go_wp2_with (go_at_call 69;refine Calls.mono C.out ?_;rintro e w3 ⟨v3,rfl,ho,hb⟩)
   go_ret;exact⟨_,rfl,by rw[E.out];exact ho.mono B2.out.size,B2.out.trans (hb.mono B2.out.size)⟩
  |true=>
   have E:=M9 FN.out hr;rw[hr]at C2;clear FN hil hr
   go_upto_region 4 with(go_at_call 68;refine Calls.mono C2.out ?_;rintro e w2 ⟨rfl,hb2⟩)
   have B2:Hid (Below w.heap.size w w2):=B1.out.trans (hb2.mono B1.out.size);have S:Hid _:=lX _ (.slice none 0 0) l [] i (i+1) w2 (H.out.below B2.out) (Own.nil (base:=0)).row (Nat.le_succ _) hi (by simp;omega);rw[E]at S;clear E hb2 C2 B1 H
   go_wp2_with (go_at_call 71;refine Calls.mono S.out ?_;rintro e w3 ⟨v3,rfl,ho,hb⟩)
   go_ret;exact⟨_,rfl,ho.mono B2.out.size,B2.out.trans (hb.mono B2.out.size)⟩
end
section
theorem oH {l:List En}{i:Nat}(h:i<l.length):cY (l.take i)+lG l[i]! <=cY l:=by
 rw[<-mW h];exact yY _ _
theorem sD (v:Value)(l:List En)(w:World)(h:Row ax 2 w v l)(hl:l.length<=1000000)(hs:cY l<=1000000000):
  Calls Tryz.prog 156 #[v] w fun e w'=>e=.returned (.int .i64 (cY l))∧Below w.heap.size w w':=by
 obtain⟨ao,cap,rfl,h1,h2,h3⟩:=h;have H3:Aside (l≠[]->∃b off,ao=some ⟨b,off,none⟩∧b<w.heap.size∧cx ax 2 w b off l):=h3;clear h3;go_enter Tryz.func156,Tryz.ntmps156;go_wp2
 go_loopg [3,8] l.length (fun kx s3 s8 wr=>∃(i n:Nat),s3=.int .i64 n∧s8=.int .i64 i∧i<=l.length∧l.length-i<=kx∧Hid (cY (l.take i)=n)∧Hid (Below w.heap.size w wr))
 case atStart=>exact⟨0,0,rfl,rfl,Nat.zero_le _,Nat.le_refl _,rfl,Below.refl _ _⟩
 case round=>
  obtain⟨i,n,rfl,rfl,hi,hki,HS,HB⟩:=hrel;by_cases hil:i<l.length
  ·have dO:(i:Int)< (l.length:Int):=by omega
   obtain⟨b,off,rfl,hb,x1,x2⟩:=cW H3.out i hil HB.out;have hle:=oH hil;have T:Hid (cY (l.take (i+1))=cY (l.take i)+lG l[i]!):=mW hil;rw[HS.out]at T hle;generalize l[i]! =x at*;have B2:Hid (Below w.heap.size w (wr.alloc (.cells #[.string x.1,.string x.2] 96))):=HB.out.alloc HB.out.size _;unfold lG at T hle;have hx:n+(2+x.1.size+x.2.size)<=1000000000:=by omega
   clear hle;go_wp2
   go_roundg (l.length- (i+1))
   case measure=>omega
   case rel=>exact⟨i+1,n+(2+x.1.size+x.2.size),by go_num,by go_num,by omega,Nat.le_refl _,T,B2⟩
  ·have dO:¬(i:Int)< (l.length:Int):=by omega
   obtain rfl:i=l.length:=by omega
   rw[List.take_length]at HS;go_wp2;go_ret;exact⟨lH (by rw[HS.out]),HB.out⟩
theorem zk (q:Nat)(x:En)(w:World)(t:TypeId)(h:Cl w q #[.string x.1,.string x.2] t)(hs:lG x<=1000000000):
  Calls Tryz.prog 156 #[.slice (some ⟨q,0,none⟩) 1 1] w fun e w'=>e=.returned (.int .i64 (lG x))∧Below w.heap.size w w':=
 (sD _ [x] w h.row (by simp) (by simpa[cY]using hs)).mono fun _ _ h=>by simpa[cY]using h
theorem mQ (v:Value)(l:List En)(w:World)(h:Row ax 2 w v l)(hl:l.length<=1000000)(hs:cY l<=1000000000):
  Calls Tryz.prog 176 #[v] w fun e w'=>e=.returned (.int .i64 (eG l))∧Below w.heap.size w w':=by
 by_cases Vu:l.length<2
 ·obtain⟨ao,c,rfl,_⟩:=h.shape;rw[Fi Vu];have hz:(l.length:Int)<2:=by omega
  clear h;go_enter Tryz.func176,Tryz.ntmps176;go_wp2;go_ret;exact⟨rfl,Below.refl _ _⟩
 ·have C:Hid _:=sD v l w h hl hs;obtain⟨ao,cap,rfl,h1,h2,h3⟩:=h;have H3:Aside (l≠[]->∃b off,ao=some ⟨b,off,none⟩∧b<w.heap.size∧cx ax 2 w b off l):=h3;clear h3;obtain⟨n,hn⟩:∃n,l.length=n+1:=⟨l.length-1,by omega⟩;have N:Hid (l.length=n+1):=hn;rw[hn]at C Vu hl h1⊢;have e1:=wX ao (n+1) cap n (by omega);obtain⟨S,hS⟩:∃S,cY l=S:=⟨_,rfl⟩;have YR:Hid (cY l=S):=hS;rw[hS]at C hs;have hz:¬((n:Int)+1<2):=by omega
  clear hS hn;go_enter Tryz.func176,Tryz.ntmps176
  go_upto_region 4 with(go_at_call 156;refine Calls.mono C.out ?_;rintro e w1 ⟨rfl,hb⟩)
  have B1:Hid (Below w.heap.size w w1):=hb;clear hb C;go_wp2
  go_loopg [3,4,18] n (fun kx s3 s4 YS wr=>∃(i f:Nat),s3=.int .i64 f∧s4=.int .i64 ((S:Int)- (f:Int))∧YS=.int .i64 i∧i<=n∧n-i<=kx∧f<=S∧Hid (cY (l.take i)=f)∧Hid (∀j,j<i->hfB l j=false)∧Hid (Below w.heap.size w wr))
  case atStart=>exact⟨0,0,rfl,by simp,rfl,Nat.zero_le _,Nat.le_refl _,Nat.zero_le _,rfl,fun j hj=>absurd hj (Nat.not_lt_zero _),B1⟩
  case round=>
   obtain⟨i,f,rfl,rfl,rfl,hi,hki,hfS,HS,HN,HB⟩:=hrel;by_cases hil:i<n
   ·have dO:(i:Int)< (n:Int):=by omega
    have Fo:i<l.length:=by have:=N.out;omega
    obtain⟨b,off,rfl,hb,x1,x2⟩:=cW H3.out i Fo HB.out;have hle:=oH Fo;have T:Hid (cY (l.take (i+1))=cY (l.take i)+lG l[i]!):=mW Fo;rw[HS.out]at T hle;rw[YR.out]at hle;generalize l[i]! =x at*;obtain⟨z,hz2⟩:∃z,lG x=z:=⟨_,rfl⟩;rw[hz2]at T hle;have Z:Hid (lG x=z):=hz2;clear hz2;have K1:Hid (Cl (wr.alloc (.cells #[.string x.1,.string x.2] 96)) wr.heap.size #[.string x.1,.string x.2] 96):=Cl.new _ _ _;have B2:Hid (Below w.heap.size w (wr.alloc (.cells #[.string x.1,.string x.2] 96))):=HB.out.alloc HB.out.size _
    go_upto_region 7 with fail
    generalize wr.alloc (.cells #[.string x.1,.string x.2] 96)=W at*;generalize wr.heap.size=p at*;obtain⟨y1,y2⟩:=K1.out.two;have K2:Hid (Cl (W.alloc (.cells #[.string x.1,.string x.2] 96)) W.heap.size #[.string x.1,.string x.2] 96):=Cl.new _ _ _;have B3:Hid (Below w.heap.size w (W.alloc (.cells #[.string x.1,.string x.2] 96))):=B2.out.alloc B2.out.size _;have C1:Hid _:=zk _ x _ _ K2.out (by rw[Z.out];omega);rw[Z.out]at C1;have XI:=K1.out.lt
    go_upto_region 8 with(go_at_call 156;refine Calls.mono C1.out ?_;rintro e w3 ⟨rfl,hb3⟩)
    have B4:Hid (Below w.heap.size w w3):=B3.out.trans (hb3.mono B3.out.size);have K4:Hid (Cl w3 p #[.string x.1,.string x.2] 96):=(K1.out.alloc _).on hb3;clear hb3 C1 K2 K1 y1 y2 B2 B3;obtain⟨y1,y2⟩:=K4.out.two;have K5:Hid (Cl (w3.alloc (.cells #[.string x.1,.string x.2] 96)) w3.heap.size #[.string x.1,.string x.2] 96):=Cl.new _ _ _;have B5:Hid (Below w.heap.size w (w3.alloc (.cells #[.string x.1,.string x.2] 96))):=B4.out.alloc B4.out.size _;have C2:Hid _:=zk _ x _ _ K5.out (by rw[Z.out];omega);rw[Z.out]at C2;have aap:=K4.out.lt
    go_upto_region 9 with(go_at_call 156;refine Calls.mono C2.out ?_;rintro e w6 ⟨rfl,hb6⟩)
    have B6:Hid (Below w.heap.size w w6):=B5.out.trans (hb6.mono B5.out.size);clear hb6 C2 K5 K4 y1 y2 B4 B5;by_cases hc:S<=2*(f+z)
    ·have hcz:(S:Int)- (f:Int)- (z:Int)<=(f:Int)+(z:Int):=by omega
     have E:Hid (eG l=i+1):=yZ (by have:=N.out;omega) HN.out (by unfold hfB;rw[YR.out,T.out];exact decide_eq_true hc);clear HN;go_wp2;go_ret;exact⟨lH (by rw[E.out];omega),B6.out⟩
    ·have hcz:¬(S:Int)- (f:Int)- (z:Int)<=(f:Int)+(z:Int):=by omega
     have N2:Hid (∀j,j<i+1->hfB l j=false):=fun j hj=>by
      rcases Nat.lt_or_ge j i with d|d
      ·exact HN.out j d
      ·obtain rfl:j=i:=by omega
       unfold hfB;rw[YR.out,T.out];exact decide_eq_false hc
     clear HN;go_wp2
     go_roundg (n- (i+1))
     case measure=>omega
     case rel=>exact⟨i+1,f+z,by go_num,by go_num,by go_num,by omega,Nat.le_refl _,by omega,T,N2,B6⟩
   ·have dO:¬(i:Int)< (n:Int):=by omega
    obtain rfl:i=n:=by omega
    have E:Hid (eG l=i):=by
     have:=wT (l:=l) (by rw[N.out];exact HN.out);rw[N.out]at this;exact this
    clear HN;go_wp2;go_ret;exact⟨lH (by rw[E.out]),HB.out⟩
end
end N
namespace N
section
theorem RZ {a b:ByteArray}(h:a≠b):(a.toList==b.toList)=false:=by rw[str_eq];exact decide_eq_false h
theorem Vv (va vb:Value)(a b:List En)(w:World)(ha:Row ax 2 w va a)(hb:Row ax 2 w vb b)(hl:a.length<=1000000)(hl2:b.length<=1000000):
  Calls Tryz.prog 21 #[va,vb] w fun e w'=>e=.returned (.bool (decide (a=b)))∧Below w.heap.size w w':=by
 obtain⟨ao,ca,rfl,a1,a2,a3⟩:=ha;obtain⟨bo,cb,rfl,b1,b2,b3⟩:=hb;have A3:Aside (a≠[]->∃b off,ao=some ⟨b,off,none⟩∧b<w.heap.size∧cx ax 2 w b off a):=a3;have B3:Aside (b≠[]->∃b' off,bo=some ⟨b',off,none⟩∧b'<w.heap.size∧cx ax 2 w b' off b):=b3;clear a3 b3;by_cases hlen:a.length=b.length
 ·have HL:Hid (a.length=b.length):=hlen;have hle1:a.length<=b.length:=by omega
  have hle2:b.length<=a.length:=by omega
  have hneq:((a.length:Int) != (b.length:Int))=false:=by simp;omega
  clear hlen;go_enter Tryz.func21,Tryz.ntmps21;go_wp2
  go_loopg [5] a.length (fun kx s5 wr=>∃(i:Nat),s5=.int .i64 i∧i<=a.length∧a.length-i<=kx∧Hid (GR w wr)∧Hid (a.take i=b.take i))
  case atStart=>exact⟨0,rfl,Nat.zero_le _,Nat.le_refl _,GR.refl _,by simp[Hid]⟩
  case round=>
   obtain⟨i,rfl,hi,hki,HG,HN⟩:=hrel;by_cases hil:i<a.length
   ·have dO:(i:Int)< (a.length:Int):=by omega
    have zl:i<b.length:=by omega
    obtain⟨ba,oa,rfl,G6,x1,x2⟩:=cW A3.out i hil HG.out.below;obtain⟨bb,ob,rfl,hbb,y1,y2⟩:=cW B3.out i zl HG.out.below;have T:Hid (a.take (i+1)=a.take i++[a[i]!]):=bU hil;have T2:Hid (b.take (i+1)=b.take i++[b[i]!]):=bU zl;generalize a[i]! =x at*;generalize b[i]! =y at*;have HD:Hid (GR w wr.drew):=HG.out.drew;by_cases he:x=y
    ·have E:=fun W=>MZ (x:=x) (y:=y) (decide_eq_true he) W;have G:=XH x y;have HE:Hid (x=y):=he;clear he;simp only[Bool.not_true]at E
     go_wp2_with fail
     go_region
     all_goals go_wp2
     all_goals go_roundg (a.length- (i+1))
     case measure=>omega
     case rel=>
      refine⟨i+1,by go_num,by omega,Nat.le_refl _,HD,?_⟩;show _=_;rw[T.out,T2.out,HN.out,HE.out]
    ·have E:=fun W=>MZ (x:=x) (y:=y) (decide_eq_false he) W;have G:=XH x y;have HE:Hid (x≠y):=he;clear he;simp only[Bool.not_false]at E
     go_wp2_with fail
     go_region
     all_goals go_wp2
     all_goals go_ret
     all_goals
      refine⟨dK (decide_eq_false fun h=>HE.out ?_).symm,HD.out.below⟩;subst h;have:=T.out.symm.trans T2.out;simpa using this
   ·have dO:¬(i:Int)< (a.length:Int):=by omega
    obtain rfl:i=a.length:=by omega
    go_wp2;go_ret;refine⟨dK (decide_eq_true ?_).symm,HG.out.below⟩;have:=HN.out;rw[List.take_length,HL.out,List.take_length]at this;exact this
 ·have hneq:((a.length:Int) != (b.length:Int))=true:=by simp;omega
  have HL:Hid (a.length≠b.length):=hlen;clear hlen;go_enter Tryz.func21,Tryz.ntmps21;go_wp2;go_ret;exact⟨dK (decide_eq_false fun h=>HL.out (by rw[h])).symm,Below.refl _ _⟩
theorem XJ (k v:ByteArray)(w:World):Calls Tryz.prog 17 #[.string k,.string v] w fun e w'=>e=.returned (.bool (cJ k v))∧w=w':=by
 by_cases h1:(1:Int)<=(k.size:Int)
 ·by_cases h2:(k.size:Int)<=16
  ·by_cases h3:(v.size:Int)<=40
   ·have E:Hid (cJ k v=true):=aV.2 (by omega);go_enter Tryz.func17,Tryz.ntmps17;go_wp2;go_ret;exact⟨dK E.out.symm,rfl⟩
   ·have E:Hid (cJ k v=false):=by
     show _=_;cases e:cJ k v
     ·rfl
     ·have:=aV.1 e;omega
    go_enter Tryz.func17,Tryz.ntmps17;go_wp2;go_ret;exact⟨dK E.out.symm,rfl⟩
  ·have E:Hid (cJ k v=false):=by
    show _=_;cases e:cJ k v
    ·rfl
    ·have:=aV.1 e;omega
   go_enter Tryz.func17,Tryz.ntmps17;go_wp2;go_ret;exact⟨dK E.out.symm,rfl⟩
 ·have E:Hid (cJ k v=false):=by
   show _=_;cases e:cJ k v
   ·rfl
   ·have:=aV.1 e;omega
  go_enter Tryz.func17,Tryz.ntmps17;go_wp2;go_ret;exact⟨dK E.out.symm,rfl⟩
theorem YT (l:List En)(k:ByteArray):(iv l k).length<=l.length:=List.length_filter_le _ _
end
section
def encS (s:ByteArray):List Value:=[.string s]
theorem fj (s:ByteArray):(encS s).length=1:=rfl
theorem zm (s:ByteArray):∀v∈encS s,v.oneCell'=true:=fun v hv=>by simp[encS]at hv;subst hv;rfl
theorem mY:(Tryz.prog.info? 9).map (fun i=>(i.zero,i.size,i.bytes))=some (some (.string ⟨#[]⟩),1,16):=by kernel_rfl
abbrev cI (base:Nat)(W:World)(v:Value)(l:List ByteArray):Prop:=W.ownsRow base 9 1 v l.length (flatK encS 1 l.toArray).toList
theorem cI.empty (base:Nat)(W:World):cI base W (.slice none 0 0) []:=by unfold cI;simpa[flatK]using World.ownsRow_nil W base 9 1
theorem IQ (x y:ByteArray):(flatK encS 1 [x,y].toArray).toList=[.string x,.string y]:=by
 have h:=cj encS 1 fj [x,y] [];have h1:=cE encS 1 fj [] x;have h2:=cE encS 1 fj [x] y;rw[List.nil_append]at h1;rw[show [x]++[y]=[x,y]from rfl,h1]at h2;rw[h2];simp[flatK,encS]
theorem Dw {ops:Array Oper}{rest:List Oper}{o:Oper}{a:Act}{Q:Exit->Act->World->Prop}{w:World}(hgd:o.guard=.none)(s x:Operand)
    (ho:o.op=.call {callee:=.builtin .append,args:=#[s,x],argTypes:=#[48,48]})(base:Nat)(v:Value)(l:List ByteArray)(hs:a.eval s=v)(hown:cI base w v l)
    (q:Nat)(y z:ByteArray)(hx:a.eval x=.slice (some ⟨q,0,none⟩) 2 2)(hq:Cl w q #[.string y,.string z] 9)(hl:l.length+2<1000000)(hbase:base<=w.heap.size)(lm:List ByteArray)(hlm:l++[y,z]=lm)
    (h:∀ao n c w',cI base w' (.slice ao n c) lm->(∀w0,Below base w0 w->Below base w0 w')->wpList Tryz.prog ops Q rest (a.put o.dst (.slice ao n c)) w'):wpList Tryz.prog ops Q (o::rest) a w:=by
  subst hlm;obtain⟨i0,hi,hz0,hz1,hz2⟩:=info_parts mY;refine wpList_append_own w hgd s x 48 ho base 9 i0 _ 1 16 Tryz.underlying48 hi hz0 hz1 hz2 rfl (by decide) v _ _ hs hown ⟨q,0,none⟩ 2 2 [.string y,.string z] hx rfl ?_ (fun u hu=>by simp at hu;rcases hu with rfl|rfl<;>rfl) (by unfold maxLen;omega) (by omega) hbase ?_
  · intro j u hj;rw[Go.WideShapes.add_plain,Nat.zero_add,hq.cell j,<-hj]
    match j with
    | 0=>rfl
    | 1=>rfl
    | j+2=>simp
  · intro v' w' g1 g2 _;obtain⟨cT,n',c',rfl⟩:∃ao n c,v'=.slice ao n c:=by
      rcases g1.2 with⟨h,_⟩| ⟨g,cap,cur,h,_⟩
      · exact⟨_,_,_,h⟩
      · exact⟨_,_,_,h⟩
    refine h _ _ _ _ ?_ (fun w0 hb=>hb.grown g2 hbase fun k hk=>?_)
    · show w'.ownsRow base 9 1 _ (l++[y,z]).length (flatK encS 1 (l++[y,z]).toArray).toList;rw[List.length_append,cj encS 1 fj,IQ];exact g1
    · rcases fJ hown with hr| ⟨r,hr,hle⟩
      · rw[hr]at hk;cases hk
      · rw[hr]at hk;cases hk;exact hle
def G7:List En->List ByteArray
 |[]=>[]
 |x::l=>⟨(mF x.1).toArray⟩::⟨(mF x.2).toArray⟩::G7 l
theorem Na (l m:List En):G7 (l++m)=G7 l++G7 m:=by
 induction l with
 |nil=>rfl
 |cons x l ih=>simp[G7,ih]
theorem IU {l:List En}{i:Nat}(h:i<l.length):G7 (l.take (i+1))=G7 (l.take i)++[⟨(mF l[i]!.1).toArray⟩,⟨(mF l[i]!.2).toArray⟩]:=by
 rw[bU h,Na];rfl
theorem Dx (l:List En):cat (G7 l)=za l:=by
 induction l with
 |nil=>rfl
 |cons x l ih=>
  unfold cat at ih⊢;simp[G7,za,L6,ih]
theorem Bp {s:ByteArray}(h:s.size<=255):rU s=mF s∧rV s=0:=by
 unfold rU rV mF;rw[if_pos h,if_pos h];exact⟨rfl,rfl⟩
theorem zn {base:Nat}{w:World}{v:Value}{xs:List ByteArray}(h:cI base w v xs)(hN:xs.length<=1000000)(hlen:(cat xs).length<=140737488355328):
  Calls Tryz.prog 76 #[v] w fun r w'=>r=.returned (.string ⟨(cat xs).toArray⟩)∧Below w.heap.size w w':=by
 obtain⟨ao,c,rfl,h1,h2,h3⟩:=(bI (enc:=encS) (by decide) h).row;by_cases hne:xs=[]
 ·subst hne;exact(join_none ao c w).mono fun _ _ ⟨a,b⟩=>⟨a,by rw[b];exact Below.refl _ _⟩
 ·obtain⟨b,off,rfl,hb,hc⟩:=h3 hne;refine rJ b off c xs.length xs w (fun j x hj=>?_) hb rfl (by omega) h1 hlen;obtain⟨hj1,hj2⟩:=List.getElem?_eq_some_iff.1 hj;rw[hc j (by omega),get_flatK _ _ _ _ (by simpa using hj1)];rw[Nat.div_one,Nat.mod_one,getElem!_pos xs.toArray j (by simpa using hj1)];simp[encS,hj2]
theorem cI.below {base:Nat}{w w':World}{v:Value}{l:List ByteArray}(h:cI base w v l)(hb:Below w.heap.size w w'):cI base w' v l:=ownsRow_below h hb
theorem sF (v:Value)(l:List En)(w:World)(h:Row ax 2 w v l)(hl:l.length<=100000):
  Calls Tryz.prog 131 #[v] w fun e w'=>e=.returned (.tuple #[.string (U4 l),.int .i64 (Ql l)])∧Below w.heap.size w w':=by
 have C:Hid _:=iU v l w h (by omega);have H:Aside (Row ax 2 w v l):=h;obtain⟨ao,cap,rfl,hcap⟩:=h.shape;clear h;unfold U4 Ql;cases hr:im l with
 |false=>
  rw[if_neg (by simp),if_neg (by simp)];rw[hr]at C;go_enter Tryz.func131,Tryz.ntmps131
  go_wp2_with (go_at_call 68;refine Calls.mono C.out ?_;rintro e w1 ⟨rfl,hb⟩)
  go_ret2;exact⟨rfl,hb⟩
 |true=>
  rw[if_pos rfl,if_pos rfl];rw[hr]at C;have RG:Hid (Rg l):=rg_of hr;clear hr;go_enter Tryz.func131,Tryz.ntmps131
  go_upto_region 3 with(go_at_call 68;refine Calls.mono C.out ?_;rintro e w1 ⟨rfl,hb⟩)
  have B1:Hid (Below w.heap.size w w1):=hb;have H1:Aside (Row ax 2 w1 (.slice ao l.length cap) l):=H.out.below hb;clear hb C H;obtain⟨um,aaq,e1,h1,h2,h3⟩:=H1.out;cases e1;have H3:Aside (l≠[]->∃b off,ao=some ⟨b,off,none⟩∧b<w1.heap.size∧cx ax 2 w1 b off l):=h3;clear h3 H1;go_wp2
  go_loopg [4,16] l.length (fun kx s4 s16 wr=>∃(i:Nat) (cT:Option Addr) (n' c':Nat) (out:List ByteArray),s4=.slice cT n' c'∧s16=.int .i64 i∧i<=l.length∧l.length-i<=kx∧out.length=2*i∧Hid (G7 (l.take i)=out)∧Aside (cI w1.heap.size wr (.slice cT n' c') out)∧Hid (Below w1.heap.size w1 wr))
  case atStart=>exact⟨0,none,0,0,[],rfl,rfl,Nat.zero_le _,Nat.le_refl _,rfl,rfl,cI.empty _ _,Below.refl _ _⟩
  case round=>
   obtain⟨i,cT,n',c',out,rfl,rfl,hi,hki,hol,HD,HO,HB⟩:=hrel;by_cases hil:i<l.length
   ·have dO:(i:Int)< (l.length:Int):=by omega
    obtain⟨b,off,rfl,hb,x1,x2⟩:=cW H3.out i hil HB.out;have T:Hid _:=IU hil;have hm:=aV.1 (RG.out.may _ (j6 hil));rw[HD.out]at T;generalize l[i]! =x at*;obtain⟨t1,t2⟩:=Bp (s:=x.1) (by omega);obtain⟨t3,t4⟩:=Bp (s:=x.2) (by omega);have B2:Hid (Below w1.heap.size w1 (wr.alloc (.cells #[.string x.1,.string x.2] 96))):=HB.out.alloc HB.out.size _;have O2:Aside (cI w1.heap.size (wr.alloc (.cells #[.string x.1,.string x.2] 96)) (.slice cT n' c') out):=HO.out.below ((Below.refl _ wr).alloc (Nat.le_refl _) _);have K2:Hid (Cl (wr.alloc (.cells #[.string x.1,.string x.2] 96)) wr.heap.size #[.string x.1,.string x.2] 96):=Cl.new _ _ _;clear HO HB HD
    go_upto_region 7 with fail
    generalize wr.alloc (.cells #[.string x.1,.string x.2] 96)=W at*;generalize wr.heap.size=p at*;obtain⟨y1,y2⟩:=K2.out.two;have XI:=K2.out.lt;have C1:Hid _:=rW x.1 W (by unfold maxLen;omega);rw[t1,t2]at C1
    go_upto_region 8 with(go_at_call 167;refine Calls.mono C1.out ?_;rintro e w3 ⟨rfl,hb3⟩)
    have B3:Hid (Below w1.heap.size w1 w3):=B2.out.trans (hb3.mono B2.out.size);have O3:Aside (cI w1.heap.size w3 (.slice cT n' c') out):=O2.out.below hb3;have K3:Hid (Cl w3 p #[.string x.1,.string x.2] 96):=K2.out.on hb3;clear B2 O2 K2 hb3 C1 y1 y2 XI x1 x2;obtain⟨y1,y2⟩:=K3.out.two;have XI:=K3.out.lt;have C2:Hid _:=rW x.2 w3 (by unfold maxLen;omega);rw[t3,t4]at C2
    go_upto_region 9 with(go_at_call 167;refine Calls.mono C2.out ?_;rintro e w4 ⟨rfl,hb4⟩)
    have B4:Hid (Below w1.heap.size w1 w4):=B3.out.trans (hb4.mono B3.out.size);have O4:Aside (cI w1.heap.size w4 (.slice cT n' c') out):=O3.out.below hb4;clear B3 O3 K3 hb4 C2 y1 y2 XI t1 t2 t3 t4 hm;obtain⟨o2,ho2⟩:∃o2,G7 (l.take (i+1))=o2:=⟨_,rfl⟩;have T2:Hid (out++[(⟨(mF x.1).toArray⟩:ByteArray),⟨(mF x.2).toArray⟩]=o2):=by show _=_;rw[<-T.out,ho2]
    have l2:o2.length=2*(i+1):=by rw[<-T2.out];simp;omega
    have HD2:Hid (G7 (l.take (i+1))=o2):=ho2;clear T ho2;generalize(⟨(mF x.1).toArray⟩:ByteArray)=p1 at*;generalize(⟨(mF x.2).toArray⟩:ByteArray)=p2 at*;have B5:Hid (Below w1.heap.size w1 (w4.alloc (.cells #[.string p1,.string p2] 9))):=B4.out.alloc B4.out.size _;have O5:Aside (cI w1.heap.size (w4.alloc (.cells #[.string p1,.string p2] 9)) (.slice cT n' c') out):=O4.out.below ((Below.refl _ w4).alloc (Nat.le_refl _) _);have K5:Hid (Cl (w4.alloc (.cells #[.string p1,.string p2] 9)) w4.heap.size #[.string p1,.string p2] 9):=Cl.new _ _ _;have hsz:=B5.out.size;clear O4 B4
    go_wp2_with (at_builtin;refine Dw rfl _ _ rfl w1.heap.size _ out rfl O5.out _ p1 p2 rfl K5.out (by omega) hsz o2 T2.out ?_)
    intro a6 n6 c6 w6 P6 Q6;have O7:Aside (cI w1.heap.size w6 (.slice a6 n6 c6) o2):=P6;have B7:Hid (Below w1.heap.size w1 w6):=Q6 _ B5.out;clear P6 Q6 O5 K5 B5 hsz T2;go_wp2
    go_roundg (l.length- (i+1))
    case measure=>omega
    case rel=>exact⟨i+1,a6,n6,c6,o2,rfl,by go_num,by omega,Nat.le_refl _,l2,HD2,O7,B7⟩
   ·have dO:¬(i:Int)< (l.length:Int):=by omega
    obtain rfl:i=l.length:=by omega
    rw[List.take_length]at HD;have hb2:cY l<=l.length*58:=kP fun x hx=>by
     have:=aV.1 (RG.out.may x hx);unfold lG;omega
    have CJ:Hid _:=zn HO.out (by omega) (by rw[<-HD.out,Dx,sq];omega);rw[<-HD.out,Dx]at CJ;clear HO HD
    go_wp2_with (go_at_call 76;refine Calls.mono CJ.out ?_;rintro e w6 ⟨rfl,hb6⟩)
    go_ret2;exact⟨rfl,B1.out.trans ((HB.out.trans (hb6.mono HB.out.size)).mono B1.out.size)⟩
end
section
theorem jE (s:ByteArray)(e n:Int):(aN s e n).2.1.size<=s.size:=by
 unfold aN;split
 ·simp
 ·split
  ·simp
  ·split
   ·simp
   ·simp
theorem jF (s:ByteArray)(e n:Int):(bh s e n).2.1.size<=s.size:=by
 unfold bh;split
 ·simp
 ·exact jE s e n
theorem zq (s:ByteArray)(e:Int):(a8 s e).2.1.size<=s.size:=Nat.le_trans (jE _ _ _) (jF _ _ _)
theorem pF (s:ByteArray)(h:s.size≠0):(a8 s 0).2.1.size<s.size:=by
 refine Nat.lt_of_le_of_lt (jE _ _ _) ?_;have:bh s 0 1=((beNat (aN s 0 1).1.data.toList:Int),(aN s 0 1).2.1,(aN s 0 1).2.2):=by simp[bh,bQ]
 rw[this];have h2:aN s 0 1=(s.extract 0 1,s.extract 1 s.size,0):=by
  unfold aN;rw[if_neg (by simp),if_neg (by omega),if_neg (by omega)];rfl
 rw[h2];simp;omega
theorem R7 (s:ByteArray)(h:s.size≠0):(a8 (a8 s 0).2.1 (a8 s 0).2.2).2.1.size<s.size∧
  (((a8 (a8 s 0).2.1 (a8 s 0).2.2).2.2=0∧yr s.data.toList=some (((a8 s 0).1,(a8 (a8 s 0).2.1 (a8 s 0).2.2).1),(a8 (a8 s 0).2.1 (a8 s 0).2.2).2.1.data.toList))∨
   ((a8 (a8 s 0).2.1 (a8 s 0).2.2).2.2≠0∧yr s.data.toList=none)):=by
 refine⟨Nat.lt_of_le_of_lt (zq _ _) (pF s h),?_⟩;by_cases c:(a8 (a8 s 0).2.1 (a8 s 0).2.2).2.2=0
 ·left;refine⟨c,?_⟩;obtain⟨e1,d,b,r,hs2,hd,hr2⟩:=lS _ _ c;obtain⟨_,c1,a,q,hs1,hc,hr1⟩:=lS s 0 e1;rw[hr2,hr1];rw[hr1]at hs2;have hq:q=d::(b++r):=by
    have:=congrArg (fun x:ByteArray=>x.data.toList) hs2;simpa using this
  rw[hs1,hq];simp only;exact Iq c1 d a b r hc hd
 ·right;refine⟨c,?_⟩;cases ht:yr s.data.toList with
  |none=>rfl
  |some p=>
    exfalso;apply c;obtain⟨x,r⟩:=p;obtain⟨he,h1,h2⟩:=wU ht;have s1:=Lib.size_eq x.1;have s2:=Lib.size_eq x.2;have e1:s=⟨(UInt8.ofNat x.1.size::(x.1.data.toList++(mF x.2++r))).toArray⟩:=by
     apply jT;rw[he];simp[L6,mF]
    have r1:=lR (UInt8.ofNat x.1.size) x.1.data.toList (mF x.2++r) (by rw[ofNat_size h1];exact s1);rw[<-e1]at r1;rw[r1];have r2:=lR (UInt8.ofNat x.2.size) x.2.data.toList r (by rw[ofNat_size h2];exact s2);have e2:mF x.2++r=UInt8.ofNat x.2.size::(x.2.data.toList++r):=rfl;rw[e2,r2]
theorem fO.only {base b:Nat}{w w':World}{v:Value}{l:List En}(h:fO base w v l)(ho:Only b w w')(hb:b<base):fO base w' v l:=by
 rcases h with h|h
 ·left;refine⟨h.1,?_⟩;rcases h.2 with h2| ⟨g,cap,cur,hv,hg,hh,r⟩
  ·exact Or.inl h2
  ·exact Or.inr ⟨g,cap,cur,hv,hg,by rw[ho.block g (by omega)];exact hh,r⟩
 ·exact Or.inr h
def Nc (S s:ByteArray)(e:Int)(out:List En):Prop:=(e=0∧zb S.data.toList=(zb s.data.toList).map (out++ ·))∨(e≠0∧zb S.data.toList=none)
theorem xd (out:List En)(x:En)(o:Option (List En)):(o.map (x:: ·)).map (out++ ·)=o.map ((out++[x])++ ·):=by
 cases o<;>simp
theorem Nc.next {S s s2:ByteArray}{out:List En}{x:En}{e2:Int}(h:Nc S s 0 out)(hs:s.size≠0)(h2:(e2=0∧yr s.data.toList=some (x,s2.data.toList))∨(e2≠0∧yr s.data.toList=none)):Nc S s2 e2 (out++[x]):=by
 rcases h with⟨_,h⟩| ⟨h,_⟩
 ·rcases h2 with⟨e,h2⟩| ⟨e,h2⟩
  ·left;refine⟨e,?_⟩;rw[h,su h2,xd]
  ·right;refine⟨e,?_⟩;rw[h,ze (by
    intro e
    have:=Lib.size_eq s
    rw[e]at this
    exact hs this) h2]
   rfl
 ·exact absurd rfl h
theorem Nc.bad {S s:ByteArray}{e:Int}{out:List En}(h:Nc S s e out)(he:e≠0):zg S.data.toList=[]∧Fj S.data.toList=false:=by
 rcases h with⟨h,_⟩| ⟨_,h⟩
 ·exact absurd h he
 ·unfold zg Fj;rw[h];exact⟨rfl,rfl⟩
theorem Nc.good {S s:ByteArray}{out:List En}(h:Nc S s 0 out)(hs:s.size=0):zg S.data.toList=(if im out=true then out else [])∧Fj S.data.toList=im out:=by
 rcases h with⟨_,h⟩| ⟨h,_⟩
 ·have e:s.data.toList=[]:=List.eq_nil_of_length_eq_zero (by rw[<-Lib.size_eq];exact hs);rw[e,Dq]at h;simp only[Option.map_some,List.append_nil]at h;unfold zg Fj;rw[h];exact⟨rfl,rfl⟩
 ·exact absurd rfl h
def lr (b:Bool):Int:=if b=true then 0 else 3
theorem Bq (S:ByteArray)(w:World)(hS:S.size<=100000):
  Calls Tryz.prog 208 #[.string S] w fun e w'=>∃v',e=.returned (.tuple #[v',.int .i64 (lr (Fj S.data.toList))])∧Own ax 2 w.heap.size w' v' (zg S.data.toList)∧Below w.heap.size w w':=by
 have C0:Hid _:=mM S w;have R0:Hid (Rd w.heap.size S 0 (w.alloc (.cells #[.string S,.int .i64 0] 228))):=Rd.made S (by unfold maxLen;omega) w;have B0:Hid (Below w.heap.size w (w.alloc (.cells #[.string S,.int .i64 0] 228))):=(Below.refl _ w).alloc (Nat.le_refl _) _;obtain⟨rb,hrb⟩:∃rb,w.heap.size=rb:=⟨_,rfl⟩;rw[hrb]at C0 R0 B0⊢;have YU:Hid (w.heap.size=rb):=hrb;clear hrb;generalize w.alloc (.cells #[.string S,.int .i64 0] 228)=W0 at*;go_enter Tryz.func208,Tryz.ntmps208
 go_wp2_with (go_at_call 114;refine Calls.mono C0.out ?_;rintro e w1 ⟨rfl,rfl⟩)
 go_loopg [4] (S.size+1) (fun kx s4 wr=>∃(cT:Option Addr) (n' c':Nat) (out:List En) (s:ByteArray) (e:Int),s4=.slice cT n' c'∧s.size<kx+1∧out.length+s.size<=S.size∧Hid (Rd rb s e wr)∧Hid (Nc S s e out)∧Aside (fO (rb+1) wr (.slice cT n' c') out)∧Hid (Below rb w wr))
 case atStart=>exact⟨none,0,0,[],S,0,rfl,by omega,by simp,R0,Or.inl ⟨rfl,by cases zb S.data.toList<;>simp⟩,fO.empty _ _ _,B0⟩
 case round=>
  clear C0 R0 B0;obtain⟨cT,n',c',out,s,e,rfl,hk,hsz,HR,HD,HO,HB⟩:=hrel;have CE:Hid _:=mL rb s e wr HR.out;have CL:Hid _:=jS rb s e wr HR.out;by_cases he:e=0
  ·subst he;by_cases hs0:s.size=0
   ·have hs1:¬(0:Int)< (s.size:Int):=by omega
    have CN:Hid _:=mN rb s 0 wr HR.out;have en:eI s 0=0:=by simp[eI,hs0]
    rw[en]at CN;obtain⟨g1,g2⟩:=HD.out.good hs0;have CR:Hid _:=iU _ out wr HO.out.own.row (by omega);have G1:Hid _:=g1;have G2:Hid _:=g2;clear g1 g2 en HD hs0;cases hr:im out with
    |true=>
     have G3:Hid (zg S.data.toList=out):=by have:=G1.out;rw[hr,if_pos rfl]at this;exact this
     rw[hr]at CR G2;clear hr G1
     go_wp2_with (first| (go_at_call 144;refine Calls.mono CE.out ?_;rintro e w' ⟨rfl,rfl⟩)| (go_at_call 145;refine Calls.mono CL.out ?_;rintro e w' ⟨rfl,rfl⟩)| (go_at_call 116;refine Calls.mono CN.out ?_;rintro e w' ⟨rfl,rfl⟩)| (go_at_call 68;refine Calls.mono CR.out ?_;rintro e w2 ⟨rfl,hb2⟩))
     go_ret2;refine⟨_,by rw[G2.out];rfl,?_,HB.out.trans (hb2.mono (by have:=HB.out.size;have:=YU.out;omega))⟩;rw[G3.out];exact(HO.out.own.below hb2).mono (Nat.le_succ _)
    |false=>
     have G3:Hid (zg S.data.toList=[]):=by have:=G1.out;rw[hr,if_neg (by simp)]at this;exact this
     rw[hr]at CR G2;clear hr G1
     go_wp2_with (first| (go_at_call 144;refine Calls.mono CE.out ?_;rintro e w' ⟨rfl,rfl⟩)| (go_at_call 145;refine Calls.mono CL.out ?_;rintro e w' ⟨rfl,rfl⟩)| (go_at_call 116;refine Calls.mono CN.out ?_;rintro e w' ⟨rfl,rfl⟩)| (go_at_call 68;refine Calls.mono CR.out ?_;rintro e w2 ⟨rfl,hb2⟩))
     go_ret2;refine⟨_,by rw[G2.out];rfl,?_,HB.out.trans (hb2.mono (by have:=HB.out.size;have:=YU.out;omega))⟩;rw[G3.out];exact Own.nil
   ·have hs1:(0:Int)< (s.size:Int):=by omega
    have C1:Hid _:=oF rb s 0 wr HR.out;obtain⟨k1,k2⟩:=R7 s hs0;obtain⟨T1,hT1⟩:∃T1,a8 s 0=T1:=⟨_,rfl⟩;rw[hT1]at C1 k1 k2;obtain⟨kk,s1,e1⟩:=T1
    (try dsimp only at k1 k2)
    obtain⟨T2,R8⟩:∃T2,a8 s1 e1=T2:=⟨_,rfl⟩;rw[R8]at k1 k2;obtain⟨vv,s2,e2⟩:=T2
    (try dsimp only at k1 k2)
    have HD2:Hid (Nc S s2 e2 (out++[(kk,vv)])):=HD.out.next hs0 k2;have TT:Hid (a8 s1 e1=(vv,s2,e2)):=R8;clear hT1 R8 k2 HD
    go_upto_region 5 with(first| (go_at_call 144;refine Calls.mono CE.out ?_;rintro e w' ⟨rfl,rfl⟩)| (go_at_call 145;refine Calls.mono CL.out ?_;rintro e w' ⟨rfl,rfl⟩)| (go_at_call 209;refine Calls.mono C1.out ?_;rintro e w2 ⟨rfl,hr2,ho2⟩))
    (try dsimp only at hr2)
    have C2:Hid _:=oF rb s1 e1 w2 hr2;rw[TT.out]at C2;have O2:Hid (Only rb wr w2):=ho2;clear hr2 ho2 C1 CE CL
    go_upto_region 6 with(go_at_call 209;refine Calls.mono C2.out ?_;rintro e w3 ⟨rfl,hr3,ho3⟩)
    (try dsimp only at hr3)
    have O3:Only rb wr w3:=O2.out.trans ho3;have Z3:Aside (fO (rb+1) w3 (.slice cT n' c') out):=HO.out.only O3 (Nat.lt_succ_self _);have B3:Hid (Below rb w w3):=HB.out.trans (O3.below (Nat.le_refl _));have R3:Hid (Rd rb s2 e2 w3):=hr3;clear hr3 ho3 O3 C2 O2 HO HB HR TT;have hlt:=R3.out.lt;obtain⟨o2,ho2⟩:∃o2,out++[(kk,vv)]=o2:=⟨_,rfl⟩;have l2:o2.length=out.length+1:=by rw[<-ho2];simp
    have E2:Hid (out++[(kk,vv)]=o2):=ho2;rw[ho2]at HD2;clear ho2;have B4:Hid (Below (rb+1) w3 (w3.alloc (.cells #[.string kk,.string vv] 96))):=(Below.refl _ w3).alloc (by omega) _;have O4:Aside (fO (rb+1) (w3.alloc (.cells #[.string kk,.string vv] 96)) (.slice cT n' c') out):=Z3.out.below ((Below.refl _ w3).alloc (Nat.le_refl _) _);have K4:Hid (Row ax 2 (w3.alloc (.cells #[.string kk,.string vv] 96)) (.slice (some ⟨w3.heap.size,0,none⟩) 1 1) [(kk,vv)]):=(Cl.new w3 #[.string kk,.string vv] 96).row;have hs4:rb+1<=(w3.alloc (.cells #[.string kk,.string vv] 96)).heap.size:=by simp;omega
    clear Z3
    go_wp2_with (at_builtin;refine Ir rfl _ _ rfl (rb+1) _ out rfl O4.out _ [(kk,vv)] rfl K4.out (by simp;omega) hs4 o2 E2.out ?_)
    intro a5 n5 c5 w5 P5 Q5;have O6:Aside (fO (rb+1) w5 (.slice a5 n5 c5) o2):=P5;have B6:Below (rb+1) w3 w5:=Q5 _ B4.out;have R6:Hid (Rd rb s2 e2 w5):=R3.out.below B6 (Nat.lt_succ_self _);have B7:Hid (Below rb w w5):=B3.out.trans (B6.mono (Nat.le_succ _));clear P5 Q5 B6 O4 K4 B4 hs4 E2 R3 B3;go_wp2
    go_roundg s2.size
    case measure=>omega
    case rel=>exact⟨a5,n5,c5,o2,s2,e2,rfl,by omega,by omega,R6,HD2,O6,B7⟩
  ·have CN:Hid _:=mN rb s e wr HR.out;have en:eI s e=e:=by simp[eI,he]
   rw[en]at CN;obtain⟨g1,g2⟩:=HD.out.bad he;have G1:Hid _:=g1;have G2:Hid _:=g2;have e1:(e==0)=false:=beq_eq_false_iff_ne.2 he;have e2:(e != 0)=true:=by rw[bne_iff_ne];exact he
   clear g1 g2 en HD he
   go_wp2_with (first| (go_at_call 144;refine Calls.mono CE.out ?_;rintro e w' ⟨rfl,rfl⟩)| (go_at_call 116;refine Calls.mono CN.out ?_;rintro e w' ⟨rfl,rfl⟩))
   go_ret2;refine⟨_,by rw[G2.out];rfl,?_,HB.out⟩;rw[G1.out];exact Own.nil
end
section
end
section
end
end N
end Go.Proofs.YtcenfooehjcddaaGreatDoor
