/- Walks of the package cowtree and of what it stands on: lemmas, made short. -/
import Derived.Test.YtcenfooehjcddaaGreatDoorR4
import Derived.Test.YtcenfooehjcddaaGreatDoorR12
import Derived.Test.YtcenfooehjcddaaGreatDoorR6
set_option maxHeartbeats 16000000
set_option maxRecDepth 100000
set_option linter.unusedVariables false
set_option linter.unusedSimpArgs false
namespace Go.Proofs.YtcenfooehjcddaaGreatDoor
namespace P
open Go.RowKit Go.Lib
open N (En bB Rg cJ aV jD iv gN iC gC fx lU j7 eY rY wS)
def A2 {σ:Type}(st:σ->Int->Int->Bool->σ):List En->σ->σ×Int
 |[],s=>(s,0)
 |e::l,s=>if(gp e).2=true then A2 st l (st s (gp e).1.1 (gp e).1.2.1 (gp e).1.2.2)else(s,3)
theorem xW {σ:Type}{st:σ->Int->Int->Bool->σ}:∀ {l:List En} {s:σ},(∀e∈l,(gp e).2=true)->A2 st l s=(l.foldl (fun s e=>st s (gp e).1.1 (gp e).1.2.1 (gp e).1.2.2) s,0)
 |[],_,_=>rfl
 |e::l,s,h=>by
  rw[A2,if_pos (h e (by simp)),xW fun x hx=>h x (by simp[hx])];rfl
structure kC (E:List En)(F:Int->Int->Option Bool):Prop where
 rg:Rg E
 mem:∀u v b,dy u v=0->((cM u v,tN b)∈E↔F u v=some b)
 all:∀e∈E,Lib.hasPrefix e.1.data.toList [65]=true->(gp e).2=true
def Me (F:Int->Int->Option Bool)(u v:Int)(o:Option Bool):Int->Int->Option Bool:=fun a c=>if(a=u∧c=v)∨(a=v∧c=u)then o else F a c
theorem nT {u v:Int}(h:dy u v=0)(b:Bool):cJ (cM u v) (tN b)=true:=by
 rw[aV,kj h];refine⟨?_,?_,?_⟩
 ·simp[ByteArray.size,beBytes_length]
 ·simp[ByteArray.size,beBytes_length]
 ·cases b<;>decide+kernel
theorem kD {e:En}(h:(gp e).2=true):∃u v b,dy u v=0∧e=(cM u v,tN b)∧gp e=((u,v,b),true):=by
 rcases vN e with⟨u,v,b,h1,h2,h3⟩|h1
 ·exact⟨u,v,b,h2,h3,h1⟩
 ·rw[h1]at h;cases h
def tQ (E:List En)(u v:Int)(b:Bool):List En:=jD (jD E (cM u v) (tN b)) (cM v u) (tN b)
def Av (E:List En)(u v:Int):List En:=iv (iv E (cM u v)) (cM v u)
theorem Yn {e:En}(h:(gp e).2=true):Lib.hasPrefix e.1.data.toList [65]=true:=by
 obtain⟨u,v,b,h1,h2,_⟩:=kD h;rw[h2];simp only;rw[kj h1];exact jJ.2 ⟨_,rfl⟩
theorem kC.set {E:List En}{F:Int->Int->Option Bool}(h:kC E F){u v:Int}(hm:dy u v=0)(b:Bool):kC (tQ E u v b) (Me F u v (some b)):=by
 have hm2:=l9 hm;refine⟨lU (lU h.rg (nT hm b)) (nT hm2 b),fun a c t hac=>?_,fun e he hp=>?_⟩
 ·unfold tQ Me;rw[gC,gC];simp only[Prod.mk.injEq];by_cases c1:a=u∧c=v
  ·obtain⟨rfl,rfl⟩:=c1;have hne:cM a c≠cM c a:=fun e=>(eN.1 hm).2.2 (kU hm hm2 e).1;rw[if_pos (.inl ⟨rfl,rfl⟩)];constructor
   ·rintro(⟨e,_⟩| ⟨⟨_,e⟩| ⟨_,e⟩,_⟩)
    ·exact absurd e hne
    ·rw[Ji e]
    ·exact absurd rfl e
   ·intro e;injection e with e;subst e;exact .inr ⟨.inl ⟨rfl,rfl⟩,hne⟩
  ·by_cases c2:a=v∧c=u
   ·obtain⟨rfl,rfl⟩:=c2;rw[if_pos (.inr ⟨rfl,rfl⟩)];constructor
    ·rintro(⟨_,e⟩| ⟨_,e⟩)
     ·rw[Ji e]
     ·exact absurd rfl e
    ·intro e;injection e with e;subst e;exact .inl ⟨rfl,rfl⟩
   ·rw[if_neg (by intro e;rcases e with e|e;exact c1 e;exact c2 e),<-h.mem a c t hac];have n1:cM a c≠cM u v:=fun e=>c1 (kU hac hm e);have n2:cM a c≠cM v u:=fun e=>c2 (kU hac hm2 e);constructor
    ·rintro(⟨e,_⟩| ⟨⟨e,_⟩| ⟨e,_⟩,_⟩)
     ·exact absurd e n2
     ·exact absurd e n1
     ·exact e
    ·intro e;exact .inr ⟨.inr ⟨e,n1⟩,n2⟩
 ·unfold tQ at he;rw[gC,gC]at he;rcases he with rfl| ⟨rfl| ⟨he,_⟩,_⟩
  ·rw[nE hm2]
  ·rw[nE hm]
  ·exact h.all e he hp
theorem kC.clr {E:List En}{F:Int->Int->Option Bool}(h:kC E F){u v:Int}(hm:dy u v=0):kC (Av E u v) (Me F u v none):=by
 have hm2:=l9 hm;refine⟨j7 (j7 h.rg _) _,fun a c t hac=>?_,fun e he hp=>?_⟩
 ·unfold Av Me;rw[fx,fx];by_cases c1:a=u∧c=v
  ·obtain⟨rfl,rfl⟩:=c1;rw[if_pos (.inl ⟨rfl,rfl⟩)];exact⟨fun e=>absurd rfl e.1.2,fun e=>by cases e⟩
  ·by_cases c2:a=v∧c=u
   ·obtain⟨rfl,rfl⟩:=c2;rw[if_pos (.inr ⟨rfl,rfl⟩)];exact⟨fun e=>absurd rfl e.2,fun e=>by cases e⟩
   ·rw[if_neg (by intro e;rcases e with e|e;exact c1 e;exact c2 e),<-h.mem a c t hac];exact⟨fun e=>e.1.1,fun e=>⟨⟨e,fun x=>c1 (kU hac hm x)⟩,fun x=>c2 (kU hac hm2 x)⟩⟩
 ·unfold Av at he;rw[fx,fx]at he;exact h.all e he.1.1 hp
def iy (E:List En)(u v:Int):Bool×Bool:=if gN E (cM u v)=true then((gp (cM u v,iC E (cM u v))).1.2.2,(gp (cM u v,iC E (cM u v))).2)else(false,false)
theorem kC.get {E:List En}{F:Int->Int->Option Bool}(h:kC E F){u v:Int}(hm:dy u v=0):iy E u v=((F u v).getD false,(F u v).isSome):=by
 unfold iy;cases hf:gN E (cM u v)with
 |true=>
  rw[if_pos rfl];obtain⟨⟨k,x⟩,hx,e⟩:=eY.1 hf;simp only at e;subst e;have hg:=rY h.rg hx;simp only at hg;rw[hg];obtain⟨a,c,b,h1,h2,h3⟩:=kD (h.all _ hx (by simp only;rw[kj hm];exact jJ.2 ⟨_,rfl⟩));injection h2 with h2 h4;obtain⟨rfl,rfl⟩:=kU hm h1 h2;rw[h3];subst h4;rw[(h.mem _ _ _ hm).1 hx];rfl
 |false=>
  rw[if_neg (by simp)];cases hF:F u v with
  |none=>rfl
  |some b=>
   have:=eY.2 ⟨_,(h.mem _ _ _ hm).2 hF,rfl⟩;simp only at this;rw[hf]at this;cases this
def jO (E:List En)(u:Int):List (Int×Bool):=(gj (xy u) (toA u) E).map fun e=>((gp e).1.2.1,(gp e).1.2.2)
theorem kF {fr tt:ByteArray}{E:List En}{e:En}:e∈gj fr tt E↔e∈E∧(!bB e.1 fr&&bG tt e.1)=true:=by
 unfold gj;rw[List.mem_filter]
theorem nU (u:Int)(k:ByteArray):bG (toA u) k=bB k (toA u):=by
 unfold bG;rw[decide_eq_false (by unfold toA;intro h;have:=congrArg (fun b:ByteArray=>b.data.size) h;simp at this),Bool.false_or]
theorem T5 {k:ByteArray}{x y:List UInt8}(h1:bB k ⟨(65::x).toArray⟩=false)(h2:bB k ⟨(65::y).toArray⟩=true):Lib.hasPrefix k.data.toList [65]=true:=by
 have h1:Op.bytesLess k.data.toList (65::x)=false:=by rw[<-mb,zO];exact h1
 have h2:Op.bytesLess k.data.toList (65::y)=true:=by rw[<-mb,zO];exact h2
 cases hk:k.data.toList with
 |nil=>rw[hk]at h1;simp[Op.bytesLess]at h1
 |cons a r=>
  rw[hk]at h1 h2;simp only[Op.bytesLess,Bool.or_eq_false_iff,Bool.or_eq_true,decide_eq_false_iff_not,decide_eq_true_eq,Bool.and_eq_true,beq_iff_eq]at h1 h2;rcases h2 with h2|h2
  ·exact absurd h2 h1.1
  ·rw[h2.1];exact jJ.2 ⟨r,rfl⟩
theorem kC.nV {E:List En}{F:Int->Int->Option Bool}(h:kC E F){u:Int}:∀e∈gj (xy u) (toA u) E,(gp e).2=true:=fun e he=>by
 obtain⟨h1,h2⟩:=kF.1 he;rw[nU,Bool.and_eq_true,Bool.not_eq_true']at h2;exact h.all e h1 (T5 h2.1 h2.2)
theorem kC.nW {E:List En}{F:Int->Int->Option Bool}(h:kC E F){u:Int}(hu:dC u=true){v:Int}{b:Bool}:(v,b)∈jO E u↔dy u v=0∧F u v=some b:=by
 unfold jO;rw[List.mem_map];constructor
 ·rintro⟨e,he,h2⟩;obtain⟨a,c,t,m1,m2,m3⟩:=kD (h.nV e he);rw[m3]at h2;injection h2 with h2 h3;subst h2 h3;obtain⟨h4,h5⟩:=kF.1 he;rw[nU,m2]at h5;simp only at h5;rw[qL hu m1]at h5;have:=of_decide_eq_true h5;subst this;rw[m2]at h4;exact⟨m1,(h.mem _ _ _ m1).1 h4⟩
 ·rintro⟨h1,h2⟩;refine⟨(cM u v,tN b),kF.2 ⟨(h.mem _ _ _ h1).2 h2,?_⟩,by rw[nE h1]⟩;rw[nU];simp only;rw[qL hu h1];exact decide_eq_true rfl
theorem kC.Pv {E:List En}{F:Int->Int->Option Bool}(h:kC E F){u:Int}(hu:dC u=true):(jO E u).Pairwise fun x y=>x.1<y.1:=by
 unfold jO;rw[List.pairwise_map];have hp:(gj (xy u) (toA u) E).Pairwise fun x y=>bB x.1 y.1=true:=h.rg.up.sublist List.filter_sublist;refine hp.imp_of_mem fun {x y} hx hy hlt=>?_;obtain⟨a,c,t,m1,m2,m3⟩:=kD (h.nV x hx);obtain⟨a',c',t',Yo,Yp,m3'⟩:=kD (h.nV y hy);rw[m3,m3'];have i1:=(kF.1 hx).2;have i2:=(kF.1 hy).2;rw[nU,m2]at i1;rw[nU,Yp]at i2;simp only at i1 i2;rw[qL hu m1]at i1;rw[qL hu Yo]at i2;have e1:=of_decide_eq_true i1;have e2:=of_decide_eq_true i2;subst e1 e2;rw[m2,Yp]at hlt;simp only at hlt;rw[xx m1 Yo]at hlt;have:=of_decide_eq_true hlt;simp only;omega
abbrev uv:ByteArray:=⟨#[65]⟩
abbrev mq:ByteArray:=⟨#[66]⟩
def Gx (E:List En):List (Int×Int):=((gj uv mq E).filter fun e=>decide ((gp e).1.1< (gp e).1.2.1)).map fun e=>((gp e).1.1,(gp e).1.2.1)
theorem QF {k:ByteArray}:(!bB k uv&&bG mq k)=Lib.hasPrefix k.data.toList [65]:=by
 have e1:bG mq k=bB k mq:=by
  unfold bG;rw[decide_eq_false (by intro h;have:=congrArg (fun b:ByteArray=>b.data.size) h;simp at this),Bool.false_or]
 have e2:bB k uv=Op.bytesLess k.data.toList [65]:=by rw[<-mb,zO]
 have e3:bB k mq=Op.bytesLess k.data.toList [66]:=by rw[<-mb,zO]
 rw[e1,e2,e3];cases k.data.toList with
 |nil=>simp[Op.bytesLess,Lib.hasPrefix]
 |cons a r=>
  have hb:Op.bytesLess r []=false:=by cases r<;>rfl
  simp only[Op.bytesLess,hb,Bool.and_false,Bool.or_false,Lib.hasPrefix,List.isPrefixOf,Bool.and_true];by_cases h:a=65
  ·subst h;decide
  ·have:(65==a)=false:=beq_eq_false_iff_ne.2 fun e=>h e.symm;rw[this];by_cases c:a<65
   ·simp[c]
   ·have c1:¬a<66:=by
     intro d;apply h;have d1:=UInt8.lt_iff_toNat_lt.1 d;have c2:¬a.toNat<65:=fun x=>c (UInt8.lt_iff_toNat_lt.2 x);have e66:(66:UInt8).toNat=66:=rfl;exact UInt8.toNat_inj.1 (show a.toNat=65 by omega)
    simp[c1]
theorem kC.xX {E:List En}{F:Int->Int->Option Bool}(h:kC E F):∀e∈gj uv mq E,(gp e).2=true:=fun e he=>by
 obtain⟨h1,h2⟩:=kF.1 he;rw[QF]at h2;exact h.all e h1 h2
theorem kC.Pw {E:List En}{F:Int->Int->Option Bool}(h:kC E F){u v:Int}:(u,v)∈Gx E↔dy u v=0∧u<v∧(F u v).isSome=true:=by
 unfold Gx;rw[List.mem_map];constructor
 ·rintro⟨e,he,h2⟩;rw[List.mem_filter]at he;obtain⟨a,c,t,m1,m2,m3⟩:=kD (h.xX e he.1);rw[m3]at h2 he;injection h2 with h2 h3;subst h2 h3;have h4:=(kF.1 he.1).1;rw[m2]at h4;exact⟨m1,of_decide_eq_true he.2,by rw[(h.mem _ _ _ m1).1 h4];rfl⟩
 ·rintro⟨h1,h2,h3⟩;obtain⟨b,hb⟩:=Option.isSome_iff_exists.1 h3;refine⟨(cM u v,tN b),List.mem_filter.2 ⟨kF.2 ⟨(h.mem _ _ _ h1).2 hb,?_⟩,by rw[nE h1];exact decide_eq_true h2⟩,by rw[nE h1]⟩;rw[QF];simp only;rw[kj h1];exact jJ.2 ⟨_,rfl⟩
theorem kC.T6 {E:List En}{F:Int->Int->Option Bool}(h:kC E F):(Gx E).Pairwise fun x y=>x.1<y.1∨(x.1=y.1∧x.2<y.2):=by
 unfold Gx;rw[List.pairwise_map];have hp:((gj uv mq E).filter fun e=>decide ((gp e).1.1< (gp e).1.2.1)).Pairwise fun x y=>bB x.1 y.1=true:=h.rg.up.sublist (List.Sublist.trans List.filter_sublist List.filter_sublist);refine hp.imp_of_mem fun {x y} hx hy hlt=>?_;rw[List.mem_filter]at hx hy;obtain⟨a,c,t,m1,m2,m3⟩:=kD (h.xX x hx.1);obtain⟨a',c',t',Yo,Yp,m3'⟩:=kD (h.xX y hy.1);rw[m3,m3'];rw[m2,Yp]at hlt;simp only at hlt;rw[xx m1 Yo]at hlt;exact of_decide_eq_true hlt
end P
namespace P
open N
def BT:Nat->Type
 |0=>List En
 |h+1=>List (Int×BT h)×List ByteArray
abbrev It:=Bool×ByteArray
def jg:List (List It)->List ByteArray->List It
 |x::l,s::ss=>x++(true,s)::jg l ss
 |l,_=>l.flatten
def aY:(h:Nat)->BT h->Nd
 |0,l=>⟨true,l,[],[]⟩
 |_+1,t=>⟨false,[],t.1.map Prod.fst,t.2⟩
def cC:(h:Nat)->BT h->List It
 |0,l=>List.map (fun(x:En)=>(false,x.1)) l
 |h+1,t=>jg (t.1.map fun u=>cC h u.2) t.2
def dW:(h:Nat)->BT h->List En
 |0,l=>l
 |h+1,t=>(t.1.map fun u=>dW h u.2).flatten
def mI:(h:Nat)->BT h->List (Int×Nd)
 |0,_=>[]
 |h+1,t=>(t.1.map fun u=>(u.1,aY h u.2)::mI h u.2).flatten
def bQ (h:Nat)(t:BT h):Nat:=dZ (aY h t)
def uw:(h:Nat)->BT h->ByteArray->BT h->BT h
 |0,a,_,b=>(show List En from a)++(show List En from b)
 |_+1,a,k,b=>(a.1++b.1,a.2++k::b.2)
abbrev KT (h:Nat):=Int×BT h
def rj {h:Nat}(u:KT h):List (Int×Nd):=(u.1,aY h u.2)::mI h u.2
def iz {h:Nat}(K:List (KT h)):List (Int×Nd):=(K.map rj).flatten
def dE {h:Nat}(K:List (KT h))(ss:List ByteArray):List It:=jg (K.map fun u=>cC h u.2) ss
def bO {h:Nat}(K:List (KT h)):List En:=(K.map fun u=>dW h u.2).flatten
def KP {h:Nat}(K:List (KT h))(ss:List ByteArray)(i:Nat):Prop:=
 ∀A a b B sA k sB,K=A++a::b::B->ss=sA++k::sB->A.length=sA.length->
  (i=A.length->bQ h a.2<80->240<bQ h (uw h a.2 k b.2))∧(B=[]->i=A.length+1->bQ h b.2<80->240<bQ h (uw h a.2 k b.2))
def Wl:(h:Nat)->BT h->Prop
 |0,l=>(show List En from l)≠[]
 |h+1,t=>t.2.length+1=t.1.length∧(∀i,KP t.1 t.2 i)∧∀u∈t.1,Wl h u.2∧bQ h u.2<=240
def RI (x y:It):Prop:=if y.1=true then bB x.2 y.2=true else if x.1=true then bB y.2 x.2=false else bB x.2 y.2=true
structure bS (l:List It):Prop where
 up:l.Pairwise RI
 sz:∀x∈l,1<=x.2.size∧x.2.size<=16
theorem bS.sub {l m:List It}(h:bS l)(s:m.Sublist l):bS m:=⟨h.up.sublist s,fun x hx=>h.sz x (s.subset hx)⟩
theorem tR (ss:List ByteArray):jg [] ss=[]:=by cases ss<;>rfl
theorem ie (x:List It)(l:List (List It))(s:ByteArray)(ss:List ByteArray):jg (x::l) (s::ss)=x++(true,s)::jg l ss:=rfl
theorem Kz (x:List It)(l:List (List It)):jg (x::l) []=x++l.flatten:=rfl
theorem nX:∀ {A:List (List It)} {sA:List ByteArray} (B:List (List It)) (sB:List ByteArray),A.length=sA.length->jg (A++B) (sA++sB)=jg A sA++jg B sB
 |[],[],B,sB,_=>by simp[tR]
 |[],_::_,_,_,h=>by cases h
 |_::_,[],_,_,h=>by cases h
 |x::A,s::sA,B,sB,h=>by
  have:=nX (A:=A) (sA:=sA) B sB (by simpa using h);simp only[List.cons_append,ie,this,List.append_assoc]
def kG (l:List (List It))(ss:List ByteArray):List It:=jg ([]::l) ss
theorem rk (x:List It)(l:List (List It))(ss:List ByteArray):jg (x::l) ss=x++kG l ss:=by
 cases ss<;>simp[kG,ie,Kz]
theorem kH (x:List It)(l:List (List It))(s:ByteArray)(ss:List ByteArray):kG (x::l) (s::ss)=(true,s)::(x++kG l ss):=by
 rw[kG,ie,rk];rfl
theorem fG {h:Nat}{A B:List (KT h)}{u:KT h}{sA sB:List ByteArray}(hA:A.length=sA.length):dE (A++u::B) (sA++sB)=dE A sA++(cC h u.2++kG (B.map fun u=>cC h u.2) sB):=by
 unfold dE;rw[List.map_append,nX _ _ (by simpa using hA),List.map_cons,rk]
theorem rq {h:Nat}{A B:List (KT h)}{u v:KT h}{sA sB:List ByteArray}{k:ByteArray}(hA:A.length=sA.length):dE (A++u::v::B) (sA++k::sB)=dE A sA++(cC h u.2++(true,k)::(cC h v.2++kG (B.map fun u=>cC h u.2) sB)):=by
 rw[fG hA,List.map_cons,kH]
theorem dP {h:Nat}(A B:List (KT h)):iz (A++B)=iz A++iz B:=by simp[iz]
theorem eR {h:Nat}(u:KT h)(B:List (KT h)):iz (u::B)=rj u++iz B:=by simp[iz]
theorem cL {h:Nat}(A B:List (KT h)):bO (A++B)=bO A++bO B:=by simp[bO]
theorem cG {h:Nat}(u:KT h)(B:List (KT h)):bO (u::B)=dW h u.2++bO B:=by simp[bO]
theorem xY (h:Nat)(a b:BT h)(k:ByteArray):aY h (uw h a k b)=jo (aY h a) k (aY h b):=by
 cases h with
 |zero=>simp[aY,uw,jo]
 |succ h=>simp[aY,uw,jo]
theorem Aw (h:Nat)(a:BT h):(aY h a).leaf=decide (h=0):=by cases h<;>simp[aY]
theorem tS (h:Nat)(a b:BT h)(k:ByteArray):bQ h (uw h a k b)=bQ h a+bQ h b+(if h=0 then 0 else 1+k.size):=by
 cases h with
 |zero=>
  show cY (_++_)=cY a+cY b+0;rw[mV];rfl
 |succ h=>simp[bQ,aY,uw,dZ,dL,bV];omega
theorem KY (h:Nat)(a b:BT h)(k:ByteArray):dW h (uw h a k b)=dW h a++dW h b:=by
 cases h with
 |zero=>rfl
 |succ h=>simp[dW,uw]
theorem Cv (h:Nat)(a b:BT h)(k:ByteArray):mI h (uw h a k b)=mI h a++mI h b:=by
 cases h with
 |zero=>rfl
 |succ h=>simp[mI,uw]
theorem Px (a b:BT 0)(k:ByteArray):cC 0 (uw 0 a k b)=cC 0 a++cC 0 b:=by
 show List.map _ (_++_)=_;rw[List.map_append];rfl
theorem xZ {h:Nat}(a b:BT (h+1))(k:ByteArray)(ha:a.2.length+1=a.1.length):cC (h+1) (uw (h+1) a k b)=cC (h+1) a++(true,k)::cC (h+1) b:=by
 obtain⟨aK,aS⟩:=a;obtain⟨bK,bs⟩:=b;show dE (aK++bK) (aS++k::bs)=dE aK aS++(true,k)::dE bK bs;have ha:aS.length+1=aK.length:=ha;have e:∃A u,aK=A++[u]∧A.length=aS.length:=by
  refine⟨aK.dropLast,aK.getLast (fun e=>by rw[e]at ha;simp at ha),(List.dropLast_concat_getLast _).symm,?_⟩;simp at ha⊢;omega
 obtain⟨A,u,rfl,hA⟩:=e;have e1:=fG (A:=A) (u:=u) (B:=[]) (sA:=aS) (sB:=[]) hA;simp only[List.append_nil]at e1;rw[e1,List.append_assoc,List.singleton_append,fG hA];cases bK with
 |nil=>simp[kG,jg,dE,tR]
 |cons v B=>
  rw[List.map_cons,kH];have e2:kG (List.map (fun u:KT h=>cC h u.2) []) []=[]:=rfl;have e3:dE (v::B) bs=cC h v.2++kG (B.map fun u=>cC h u.2) bs:=by rw[dE,List.map_cons,rk]
  rw[e2,e3];simp only[List.append_nil,List.append_assoc]
theorem tT (h:Nat)(a b:BT h)(k:ByteArray)(ha:Wl h a):(cC h (uw h a k b)).Sublist (cC h a++(true,k)::cC h b):=by
 cases h with
 |zero=>rw[Px];exact List.Sublist.append (List.Sublist.refl _) (List.sublist_cons_self _ _)
 |succ h=>rw[xZ _ _ _ ha.1];exact List.Sublist.refl _
theorem jh:∀(l:List (List It)) (ss:List ByteArray),ss.length<=l.length->(ss.map fun s=>((true,s):It)).Sublist (jg l ss)
 |l,[],_=>by simp
 |[],s::ss,h=>by simp at h
 |x::l,s::ss,h=>by
  rw[ie,List.map_cons];exact List.Sublist.trans (List.Sublist.cons_cons _ (jh l ss (by simpa using h))) (List.sublist_append_right _ _)
theorem bS.keys {ss:List ByteArray}(h:bS (ss.map fun s=>((true,s):It))):Br ss=true:=by
 refine gO ⟨?_,?_⟩
 ·unfold N.Up;rw[List.pairwise_map];have:=h.up;rw[List.pairwise_map]at this;exact this.imp fun {a b} hab=>by simpa[RI,kE]using hab
 ·intro x hx;obtain⟨s,hs,rfl⟩:=List.mem_map.1 hx;have:=h.sz (true,s) (List.mem_map_of_mem hs);exact aV.2 ⟨this.1,this.2,by show(0:Nat)<=40;omega⟩
theorem bS.leaf {l:List En}(h:bS (l.map fun(x:En)=>((false,x.1):It)))(hv:∀x∈l,x.2.size<=40):Rg l:=by
 refine⟨?_,?_⟩
 ·unfold N.Up;have:=h.up;rw[List.pairwise_map]at this;exact this.imp fun {a b} hab=>by simpa[RI]using hab
 ·intro x hx;have:=h.sz (false,x.1) (List.mem_map_of_mem (f:=fun(x:En)=>((false,x.1):It)) hx);exact aV.2 ⟨this.1,this.2,hv x hx⟩
end P
namespace P
open N
def _root_.Go.Proofs.YtcenfooehjcddaaGreatDoor.Dr.vw (S:Dr)(d:Dk)(id:Int):Nd×Int:=S.read d id 0
theorem _root_.Go.Proofs.YtcenfooehjcddaaGreatDoor.Dr.jL (S:Dr)(d:Dk)(id depth:Int)(h:depth<24):S.read d id depth=S.vw d id:=by
 unfold Dr.vw Dr.read dX;have h1:¬(24:Int)<=depth:=by omega
 simp[h,h1]
structure Us (S:Dr)(p:Int):Prop where
 lo:2<=p
 hi:p<S.x.pages
 fr:¬dm S.x.free p
 sp:p∉S.spare
structure Sd (room:Nat)(S:Dr):Prop where
 x:S.x.Ok room
 sp:∀q∈S.spare,(S.x.fresh q).isSome=true
 nf:∀q,(S.nodes q).isSome=true->(S.x.fresh q).isSome=true∧q∉S.spare
 sn:S.spare.Nodup
 fi:∀q n,S.nodes q=some n->cF n=true
 bz:∀q c,S.x.fresh q=some c->c.body.size<=240
 tk:∀q∈S.taken,(S.x.fresh q).isSome=true
def _root_.Go.Proofs.YtcenfooehjcddaaGreatDoor.TX.cap (x:TX)(room:Nat):Int:=jA x.free+((room:Int)-x.pages)
def pQ (S:Dr)(d:Dk)(c:List (Int×Nd)):Prop:=∀x∈c,S.vw d x.1=(x.2,0)
structure Fm (room:Nat)(d:Dk)(c:Nat)(S:Dr)(X:List Int)(S':Dr)(X':List Int):Prop where
 ok:Sd room S'
 us:∀p∈X',Us S' p
 nd:X'.Nodup
 keep:∀p,Us S p->p∉X->Us S' p∧p∉X'∧S'.vw d p=S.vw d p∧(S'.x.fresh p).isSome=(S.x.fresh p).isSome
 tight:∀p,(S'.x.fresh p).isSome=true->p∉S'.spare->p∈X'∨((S.x.fresh p).isSome=true∧p∉S.spare∧p∉X)
 cnt:S'.cnt+X'.length<=S.cnt+X.length+c
 nY:S'.x.cnt+X'.length<=S.x.cnt+X.length+c
 Cw:S'.taken.length+X'.length<=S.taken.length+X.length+c
 EA:S'.spare.length+X'.length<=S.spare.length+X.length+c
 bot:S'.bot=S.bot
 cap:S'.x.cap room+S'.taken.length=S.x.cap room+S.taken.length
 mine:(∀p∈X,S.may p=true)->(∀p∈X',S'.may p=true)∧S'.taken.length<=S.taken.length+c∧X'.length+S'.spare.length+S.taken.length=X.length+S.spare.length+S'.taken.length
theorem dQ (S:Dr)(p:Int):S.may p=true↔(S.x.fresh p).isSome=true∧p∉S.spare:=by
 simp[Dr.may]
section
variable {room c c':Nat}{d:Dk}{S S1 S2:Dr}{X X1 X2 Y:List Int}
theorem Fm.refl (ok:Sd room S)(us:∀p∈X,Us S p)(nd:X.Nodup):Fm room d 0 S X S X:=
 ⟨ok,us,nd,fun p h hn=>⟨h,hn,rfl,rfl⟩,fun p h1 h2=>by
  by_cases hx:p∈X
  ·exact .inl hx
  ·exact .inr ⟨h1,h2,hx⟩,by omega,by omega,by omega,by omega,rfl,rfl,fun h=>⟨h,by omega,by omega⟩⟩
theorem Fm.trans (h1:Fm room d c S X S1 X1)(h2:Fm room d c' S1 X1 S2 X2):Fm room d (c+c') S X S2 X2:=
 ⟨h2.ok,h2.us,h2.nd,fun p h hn=>by
  obtain⟨a1,a2,a3,a4⟩:=h1.keep p h hn
  obtain⟨b1,b2,b3,b4⟩:=h2.keep p a1 a2
  exact⟨b1,b2,b3.trans a3,b4.trans a4⟩,fun p a b=>by
  rcases h2.tight p a b with h| ⟨h3,h4,h5⟩
  ·exact .inl h
  ·rcases h1.tight p h3 h4 with h|h
   ·exact absurd h h5
   ·exact .inr h,by have:=h1.cnt;have:=h2.cnt;omega,by have:=h1.nY;have:=h2.nY;omega,by have:=h1.Cw;have:=h2.Cw;omega,by have:=h1.EA;have:=h2.EA;omega,h2.bot.trans h1.bot,h2.cap.trans h1.cap,fun hm=>by
  obtain⟨a1,a2,a3⟩:=h1.mine hm
  obtain⟨b1,b2,b3⟩:=h2.mine a1
  exact⟨b1,by omega,by omega⟩⟩
theorem Fm.ext (h:Fm room d c S X S1 X1)(us:∀p∈Y,Us S p)(nd:(X++Y).Nodup):Fm room d c S (X++Y) S1 (X1++Y):=by
 obtain⟨n1,n2,n3⟩:=List.nodup_append.1 nd;have hk:∀p∈Y,Us S1 p∧p∉X1:=fun p hp=>by
  have:=h.keep p (us p hp) (fun hx=>n3 p hx p hp rfl);exact⟨this.1,this.2.1⟩
 refine⟨h.ok,fun p hp=>?_,?_,fun p hp hn=>?_,fun p a b=>?_,?_,?_,?_,?_,h.bot,h.cap,fun hm=>?_⟩
 ·rcases List.mem_append.1 hp with hp|hp
  ·exact h.us p hp
  ·exact(hk p hp).1
 ·exact List.nodup_append.2 ⟨h.nd,n2,fun a ha b hb e=>(hk b hb).2 (e▸ha)⟩
 ·rw[List.mem_append,not_or]at hn;obtain⟨a1,a2,a3,a4⟩:=h.keep p hp hn.1;exact⟨a1,by rw[List.mem_append,not_or];exact⟨a2,hn.2⟩,a3,a4⟩
 ·rcases h.tight p a b with h1| ⟨h1,h2,h3⟩
  ·exact .inl (List.mem_append_left _ h1)
  ·by_cases hy:p∈Y
   ·exact .inl (List.mem_append_right _ hy)
   ·exact .inr ⟨h1,h2,by rw[List.mem_append,not_or];exact⟨h3,hy⟩⟩
 ·have:=h.cnt;simp only[List.length_append];omega
 ·have:=h.nY;simp only[List.length_append];omega
 ·have:=h.Cw;simp only[List.length_append];omega
 ·have:=h.EA;simp only[List.length_append];omega
 ·obtain⟨a1,a2,a3⟩:=h.mine (fun p hp=>hm p (List.mem_append_left _ hp));refine⟨fun p hp=>?_,a2,by simp only[List.length_append];omega⟩;rcases List.mem_append.1 hp with hp|hp
  ·exact a1 p hp
  ·have h1:=(dQ S p).1 (hm p (List.mem_append_right _ hp));have h2:=h.keep p (us p hp) (fun hx=>n3 p hx p hp rfl);exact(dQ S1 p).2 ⟨by rw[h2.2.2.2];exact h1.1,h2.1.sp⟩
theorem Fm.perm (h:Fm room d c S X S1 X1){Y Y1:List Int}(e:X.Perm Y)(e1:X1.Perm Y1):Fm room d c S Y S1 Y1:=
 ⟨h.ok,fun p hp=>h.us p (e1.mem_iff.2 hp),e1.nodup_iff.1 h.nd,fun p hp hn=>by
  obtain⟨a1,a2,a3,a4⟩:=h.keep p hp (fun hx=>hn (e.mem_iff.1 hx))
  exact⟨a1,fun hx=>a2 (e1.mem_iff.2 hx),a3,a4⟩,fun p a b=>by
  rcases h.tight p a b with h| ⟨h1,h2,h3⟩
  ·exact .inl (e1.mem_iff.1 h)
  ·exact .inr ⟨h1,h2,fun hx=>h3 (e.mem_iff.2 hx)⟩,by have:=h.cnt;have:=e.length_eq;have:=e1.length_eq;omega,by have:=h.nY;have:=e.length_eq;have:=e1.length_eq;omega,by have:=h.Cw;have:=e.length_eq;have:=e1.length_eq;omega,by have:=h.EA;have:=e.length_eq;have:=e1.length_eq;omega,h.bot,h.cap,fun hm=>by
  obtain⟨a1,a2,a3⟩:=h.mine (fun p hp=>hm p (e.mem_iff.1 hp))
  have:=e.length_eq
  have:=e1.length_eq
  exact⟨fun p hp=>a1 p (e1.mem_iff.2 hp),a2,by omega⟩⟩
theorem Fm.mono (h:Fm room d c S X S1 X1)(hc:c<=c'):Fm room d c' S X S1 X1:=
 ⟨h.ok,h.us,h.nd,h.keep,h.tight,by have:=h.cnt;omega,by have:=h.nY;omega,by have:=h.Cw;omega,by have:=h.EA;omega,h.bot,h.cap,fun hm=>by
  obtain⟨a1,a2,a3⟩:=h.mine hm
  exact⟨a1,by omega,a3⟩⟩
theorem Fm.Py (h:Fm room d c S X S1 X1){C:List (Int×Nd)}(hC:pQ S d C)(us:∀p∈C.map Prod.fst,Us S p)(hd:∀p∈C.map Prod.fst,p∉X):pQ S1 d C:=fun x hx=>by
 have hm:=List.mem_map_of_mem (f:=Prod.fst) hx;rw[(h.keep x.1 (us _ hm) (hd _ hm)).2.2.1];exact hC x hx
def Ev (room:Nat)(d:Dk)(c:Nat)(S:Dr)(X:List Int)(S':Dr):Prop:=∃Xm,Fm room d c S X S' Xm∧S'.x.free=[]∧room<=S'.x.pages
abbrev Er (room:Nat)(d:Dk)(c:Nat)(S:Dr)(X:List Int)(S':Dr)(e:Int):Prop:=e≠0->e=2∧Ev room d c S X S'
theorem Er.ext {e:Int}(h:Er room d c S X S1 e)(us:∀p∈Y,Us S p)(nd:(X++Y).Nodup):Er room d c S (X++Y) S1 e:=fun he=>by
 obtain⟨h1,Xm,F,h2⟩:=h he;exact⟨h1,_,F.ext us nd,h2⟩
theorem Er.perm {e:Int}(h:Er room d c S X S1 e)(p:X.Perm Y):Er room d c S Y S1 e:=fun he=>by
 obtain⟨h1,Xm,F,h2⟩:=h he;exact⟨h1,_,F.perm p (List.Perm.refl _),h2⟩
theorem Er.mono {e:Int}(h:Er room d c S X S1 e)(hc:c<=c'):Er room d c' S X S1 e:=fun he=>by
 obtain⟨h1,Xm,F,h2⟩:=h he;exact⟨h1,_,F.mono hc,h2⟩
theorem Fm.er {e:Int}(F:Fm room d c S X S1 X1)(h:Er room d c' S1 X1 S2 e):Er room d (c+c') S X S2 e:=fun he=>by
 obtain⟨h1,Xm,F2,h2⟩:=h he;exact⟨h1,_,F.trans F2,h2⟩
theorem Fm.Ax (h:Fm room d c S X S1 X1){p:Int}(hp:Us S p)(hn:p∉X):Us S1 p∧p∉X1:=⟨(h.keep p hp hn).1,(h.keep p hp hn).2.1⟩
end
section
variable {room:Nat}{d:Dk}{S:Dr}
theorem nZ {S S':Dr}{p:Int}(hx:bX S'.x d p 1=bX S.x d p 1)(hy:bX S'.x d p 2=bX S.x d p 2)(hn:S'.nodes p=S.nodes p):S'.vw d p=S.vw d p:=by
 unfold Dr.vw Dr.read dX;rw[hx,hy,hn]
theorem ru (ok:Sd room S){p:Int}(hp:Us S p):Fm room d 0 S [p] (S.drop p) []:=by
 unfold Dr.drop;split
 ·rename_i hm
  have hm':=(dQ S p).1 hm;refine⟨⟨ok.x,fun q hq=>?_,fun q hq=>?_,List.nodup_append.2 ⟨ok.sn,by simp,fun a ha b hb e=>hm'.2 (by rw[List.mem_singleton.1 hb]at e;rw[<-e];exact ha)⟩,fun q n hq=>?_,ok.bz,ok.tk⟩,(fun _ h=>by cases h),List.nodup_nil,fun q hq hn=>?_,fun q a b=>?_,?_,?_,?_,?_,rfl,rfl,fun _=>⟨(fun _ h=>by cases h),Nat.le_refl _,by simp;omega⟩⟩
  ·rcases List.mem_append.1 hq with h|h
   ·exact ok.sp q h
   ·rw[List.mem_singleton.1 h];exact hm'.1
  ·simp only at hq;split at hq
   ·cases hq
   ·rename_i hne
    have:=ok.nf q hq;refine⟨this.1,?_⟩;simp only[List.mem_append,List.mem_singleton,not_or];exact⟨this.2,hne⟩
  ·simp only at hq;split at hq
   ·cases hq
   ·exact ok.fi q n hq
  ·have hne:q≠p:=by simpa using hn
   refine⟨⟨hq.lo,hq.hi,hq.fr,?_⟩,by simp,?_,rfl⟩
   ·simp only[List.mem_append,List.mem_singleton,not_or];exact⟨hq.sp,hne⟩
   ·exact nZ rfl rfl (by simp[hne])
  ·simp only[List.mem_append,List.mem_singleton,not_or]at b;exact .inr ⟨a,b.1,by simpa using b.2⟩
  ·simp
  ·simp
  ·simp
  ·simp
 ·rename_i hm
  have hm':¬((S.x.fresh p).isSome=true∧p∉S.spare):=fun h=>hm ((dQ S p).2 h);refine⟨ok,(fun _ h=>by cases h),List.nodup_nil,fun q hq hn=>⟨hq,by simp,rfl,rfl⟩,fun q a b=>?_,?_,?_,?_,?_,rfl,rfl,fun hc=>absurd ((dQ S p).1 (hc p (by simp))) hm'⟩
  ·refine .inr ⟨a,b,?_⟩;simp only[List.mem_singleton];rintro rfl;exact hm' ⟨a,b⟩
  ·simp
  ·simp
  ·simp
  ·simp
structure Tk (d:Dk)(room:Nat)(x x':TX)(p:Int):Prop where
 ok:x'.Ok room
 lo:2<=p
 hi:p<x'.pages
 nf:¬dm x'.free p
 was:dm x.free p∨p=x.pages
 fs:x'.fresh=gY x.fresh p c0
 cn:x'.cnt=x.cnt+1
 fr:∀q,dm x'.free q->dm x.free q
 pg:x.pages<=x'.pages
 cp:x'.cap room=x.cap room-1
theorem Ay {x:TX}(ok:x.Ok room)(h0:(x.alloc room).1.2=0):Tk d room x (x.alloc room).2 (x.alloc room).1.1:=by
 have ok':=TX.tE ok;obtain⟨fr,pg,g,c⟩:=x;unfold TX.alloc at ok' h0⊢;cases fr with
 |cons r s=>
  obtain⟨_,d1,d3,_,d2⟩:=yR ok.cn;have hr:=ok.cn.dT (Int.le_refl _) (bE.1 ok.cn).1.2.1;have r1:=ok.fr r.1 hr;exact⟨ok',r1.1,r1.2,fun hn=>by have:r.1<r.1:=((d2 _).1 hn).2;omega,.inl hr,rfl,rfl,fun q hq=>((d2 q).1 hq).1,Nat.le_refl _,by unfold TX.cap;simp only;rw[d3];omega⟩
 |nil=>
  simp only at ok' h0⊢;split at h0
  ·cases h0
  ·rename_i hp
   rw[if_neg hp]at ok'⊢;have h2:2<=pg:=ok.p2;refine⟨ok',?_,?_,dz _,.inr rfl,rfl,rfl,fun q hq=>absurd hq (dz q),?_,?_⟩
   ·show(2:Int)<=(pg:Int);omega
   ·show(pg:Int)< ((pg+1:Nat):Int);omega
   ·show pg<=pg+1;omega
   ·unfold TX.cap;simp only;push_cast;omega
theorem tU {x:TX}(h0:(x.alloc room).1.2≠0):(x.alloc room).1.2=2∧(x.alloc room).2=x∧x.free=[]∧room<=x.pages:=by
 obtain⟨fr,pg,g,c⟩:=x;unfold TX.alloc at h0⊢;cases fr with
 |cons r s=>exact absurd rfl h0
 |nil=>
  simp only at h0⊢;split
  ·rename_i hp
   exact⟨rfl,rfl,trivial,hp⟩
  ·rename_i hp
   rw[if_neg hp]at h0;exact absurd rfl h0
theorem Tk.get {x x':TX}{p:Int}(h:Tk d room x x' p){q:Int}(hne:q≠p)(hi:q<x.pages)(hf:¬dm x.free q)(k:UInt8):bX x' d q k=bX x d q k:=by
 have h1:x'.fresh q=x.fresh q:=by rw[h.fs];simp[gY,hne]
 have h2:¬(x'.pages:Int)<=q:=by have:=h.pg;omega
 have h3:¬(x.pages:Int)<=q:=by omega
 unfold bX TX.get;rw[h1,jx hf,jx (fun c=>hf (h.fr q c))];simp[h2,h3]
theorem Tk.ne {x x':TX}{p q:Int}(h:Tk d room x x' p)(hi:q<x.pages)(hf:¬dm x.free q):q≠p:=by
 rintro rfl;rcases h.was with w|w
 ·exact hf w
 ·omega
structure Bd (S:Dr)(m:Nat):Prop where
 cnt:S.cnt+m<100000
 nY:S.x.cnt+m<900000
 Cw:S.taken.length+m<100000
 EA:S.spare.length+m<100000
theorem Bd.ok {m:Nat}(h:Bd S m):S.okB=true:=by
 have:=h.cnt;have:=h.nY;have:=h.Cw;have:=h.EA;simp only[Dr.okB,Bool.and_eq_true,decide_eq_true_eq];omega
theorem Bd.mono {m m':Nat}(h:Bd S m)(hm:m'<=m):Bd S m':=⟨by have:=h.cnt;omega,by have:=h.nY;omega,by have:=h.Cw;omega,by have:=h.EA;omega⟩
theorem Fm.bd {c m m':Nat}{S':Dr}{X X':List Int}(h:Fm room d c S X S' X')(hb:Bd S m)(hm:X.length+c+m'<=m+X'.length):Bd S' m':=by
 have:=hb.cnt;have:=hb.nY;have:=hb.Cw;have:=hb.EA;have:=h.cnt;have:=h.nY;have:=h.Cw;have:=h.EA;exact⟨by omega,by omega,by omega,by omega⟩
theorem T7 (ok:Sd room S){p:Int}(hp:Us S p)(hm:S.may p=true)(n:Nd)(hf:cF n=true):Fm room d 1 S [p] (S.set p n) [p]∧(S.set p n).vw d p=(n,0):=by
 have hm':=(dQ S p).1 hm;refine⟨⟨⟨ok.x,ok.sp,fun q hq=>?_,ok.sn,fun q n' hq=>?_,ok.bz,ok.tk⟩,fun q hq=>?_,by simp,fun q hq hn=>?_,fun q a b=>?_,by simp[Dr.set],by simp[Dr.set],by simp[Dr.set],by simp[Dr.set],rfl,rfl,fun hc=>⟨fun q hq=>by rw[List.mem_singleton.1 hq];exact hm,by simp[Dr.set],by simp[Dr.set]⟩⟩,by simp[Dr.vw,Dr.read,Dr.set]⟩
 ·simp only[Dr.set]at hq⊢;split at hq
  ·rename_i e;rw[e];exact hm'
  ·exact ok.nf q hq
 ·simp only[Dr.set]at hq;split at hq
  ·cases hq;exact hf
  ·exact ok.fi q n' hq
 ·obtain rfl:q=p:=by simpa using hq
  exact⟨hp.lo,hp.hi,hp.fr,hp.sp⟩
 ·have hne:q≠p:=by simpa using hn
  exact⟨⟨hq.lo,hq.hi,hq.fr,hq.sp⟩,hn,nZ rfl rfl (by simp[Dr.set,hne]),rfl⟩
 ·by_cases hq:q∈[p]
  ·exact .inl hq
  ·exact .inr ⟨a,b,hq⟩
theorem Pz (ok:Sd room S)(h0:(S.x.alloc room).1.2=0){X:List Int}(hX:X=[]∨∃id,X=[id]∧S.may id=false)(n:Nd)(hf:cF n=true):
  Fm room d 2 S X ((S.took room).set (S.x.alloc room).1.1 n) [(S.x.alloc room).1.1]∧((S.took room).set (S.x.alloc room).1.1 n).vw d (S.x.alloc room).1.1=(n,0):=by
 have T:Tk d room S.x (S.x.alloc room).2 (S.x.alloc room).1.1:=Ay ok.x h0;have hsp:∀q∈S.spare,q<S.x.pages∧¬dm S.x.free q:=fun q hq=>by
  have h1:=ok.sp q hq;refine⟨(ok.x.fs q h1).2,fun c=>?_⟩;rw[ok.x.dj q c]at h1;cases h1
 have hs2:∀q∈S.spare,((S.x.alloc room).2.fresh q).isSome=true:=fun q hq=>by
  rw[T.fs,dI,ok.sp q hq,Bool.or_true]
 have hpm:((S.took room).set (S.x.alloc room).1.1 n).may (S.x.alloc room).1.1=true:=by
  rw[dQ];refine⟨?_,fun hs=>T.ne (hsp _ hs).1 (hsp _ hs).2 rfl⟩;show((S.x.alloc room).2.fresh _).isSome=true;rw[T.fs,dI];simp
 refine⟨⟨⟨T.ok,hs2,fun q hq=>?_,ok.sn,fun q n' hq=>?_,fun q c hc=>?_,fun q hq=>?_⟩,fun q hq=>?_,by simp,fun q hq hn=>?_,fun q a b=>?_,?_,?_,?_,?_,rfl,?_,fun hc=>?_⟩,by simp[Dr.vw,Dr.read,Dr.set]⟩
 ·simp only[Dr.set,Dr.took]at hq⊢;split at hq
  ·rename_i e
   rw[e];have:=(dQ _ _).1 hpm;exact this
  ·have:=ok.nf q hq;exact⟨by rw[T.fs,dI,this.1,Bool.or_true],this.2⟩
 ·simp only[Dr.set,Dr.took]at hq;split at hq
  ·cases hq;exact hf
  ·exact ok.fi q n' hq
 ·have hc:(S.x.alloc room).2.fresh q=some c:=hc;rw[T.fs]at hc;unfold gY at hc;split at hc
  ·cases hc;simp[c0]
  ·exact ok.bz q c hc
 ·show((S.x.alloc room).2.fresh q).isSome=true;rw[T.fs,dI];rcases List.mem_append.1 hq with h1|h1
  ·rw[ok.tk q h1,Bool.or_true]
  ·rw[List.mem_singleton.1 h1];simp
 ·obtain rfl:q=(S.x.alloc room).1.1:=by simpa using hq
  exact⟨T.lo,T.hi,T.nf,fun hs=>T.ne (hsp _ hs).1 (hsp _ hs).2 rfl⟩
 ·have hne:=T.ne hq.hi hq.fr;refine⟨⟨hq.lo,by have:=T.pg;have:=hq.hi;simp only[Dr.set,Dr.took];omega,fun c=>hq.fr (T.fr _ c),hq.sp⟩,by simpa using hne,nZ (T.get hne hq.hi hq.fr 1) (T.get hne hq.hi hq.fr 2) (by simp[Dr.set,Dr.took,hne]),?_⟩;simp only[Dr.set,Dr.took];rw[T.fs,dI];simp[hne]
 ·simp only[Dr.set,Dr.took]at a b;rw[T.fs,dI]at a;by_cases hq:q=(S.x.alloc room).1.1
  ·exact .inl (by simp[hq])
  ·have a':(S.x.fresh q).isSome=true:=by simpa[hq]using a
   refine .inr ⟨a',b,?_⟩;rcases hX with rfl| ⟨id,rfl,hid⟩
   ·simp
   ·simp only[List.mem_singleton];rintro rfl;rw[(dQ S q).2 ⟨a',b⟩]at hid;cases hid
 ·rcases hX with rfl| ⟨id,rfl,hid⟩<;>simp[Dr.set,Dr.took]
 ·have:=T.cn;rcases hX with rfl| ⟨id,rfl,hid⟩<;>simp[Dr.set,Dr.took,this]
 ·rcases hX with rfl| ⟨id,rfl,hid⟩<;>simp[Dr.set,Dr.took]
 ·rcases hX with rfl| ⟨id,rfl,hid⟩<;>simp[Dr.set,Dr.took]
 ·show(S.x.alloc room).2.cap room+((S.taken++[(S.x.alloc room).1.1]).length:Int)=_;rw[T.cp,List.length_append];simp;omega
 ·rcases hX with rfl| ⟨id,rfl,hid⟩
  ·exact⟨fun q hq=>by rw[List.mem_singleton.1 hq];exact hpm,by simp[Dr.set,Dr.took],by simp[Dr.set,Dr.took];omega⟩
  ·rw[hc id (by simp)]at hid;cases hid
theorem Cy (ok:Sd room S){id:Int}{X:List Int}(hX:(X=[]∧S.may id=false)∨(X=[id]∧Us S id)){n:Nd}(hf:cF n=true){m:Nat}(hb:Bd S m):
  ∃p e S',S.put room id n=some ((p,e),S')∧Er room d 0 S X S' e∧(e=0->Fm room d 2 S X S' [p]∧S'.vw d p=(n,0)∧(S.may id=true->p=id∧S'=S.set id n)):=by
 unfold Dr.put;rw[hb.ok,hf];simp only[Bool.and_self,Bool.true_eq_false,if_false];by_cases hm:S.may id=true
 ·rw[if_pos hm];rcases hX with⟨rfl,h⟩| ⟨rfl,hu⟩
  ·rw[hm]at h;cases h
  ·have:=T7 (d:=d) ok hu hm n hf;exact⟨id,0,_,rfl,fun h=>absurd rfl h,fun _=>⟨this.1.mono (by omega),this.2,fun _=>⟨rfl,rfl⟩⟩⟩
 ·rw[if_neg hm];have hm':S.may id=false:=by simpa using hm
  by_cases h0:(S.x.alloc room).1.2=0
  ·rw[if_pos h0];have:=Pz (d:=d) ok h0 (X:=X) (by
    rcases hX with⟨rfl,h⟩| ⟨rfl,hu⟩
    ·exact .inl rfl
    ·exact .inr ⟨id,rfl,hm'⟩) n hf
   exact⟨_,0,_,rfl,fun h=>absurd rfl h,fun _=>⟨this.1,this.2,fun c=>absurd c hm⟩⟩
  ·rw[if_neg h0];refine⟨0,_,_,rfl,fun _=>⟨(tU h0).1,?_⟩,fun c=>absurd c h0⟩;have e1:S.held room=S:=by unfold Dr.held;rw[(tU h0).2.1]
   rw[e1];refine⟨X,Fm.refl ok (fun p hp=>?_) ?_,(tU h0).2.2⟩
   ·rcases hX with⟨rfl,_⟩| ⟨rfl,hu⟩
    ·cases hp
    ·rw[List.mem_singleton.1 hp];exact hu
   ·rcases hX with⟨rfl,_⟩| ⟨rfl,hu⟩<;>simp
theorem Cz (ok:Sd room S){a b:Int}(ha:Us S a)(hb':Us S b)(hab:a≠b){n:Nd}(hf:cF n=true){m:Nat}(hb:Bd S (m+1)):
  ∃p e S',S.fY room a b n=some ((p,e),S')∧Er room d 0 S [a,b] S' e∧(e=0->Fm room d 0 S [a,b] S' [p]∧S'.vw d p=(n,0)):=by
 unfold Dr.fY;rw[hb.ok];simp only[Bool.true_eq_false,if_false];by_cases hm:S.may a=true
 ·rw[if_pos hm];have D:Fm room d 0 S [b] (S.drop b) []:=ru ok hb';have D2:Fm room d 0 S [a,b] (S.drop b) [a]:=(D.ext (Y:=[a]) (by simpa using ha) (by simpa using Ne.symm hab)).perm (List.Perm.swap _ _ _) (List.Perm.refl _);have hm2:(S.drop b).may a=true:=by
   have hm':=(dQ S a).1 hm;rw[dQ];unfold Dr.drop;split
   ·simp only[List.mem_append,List.mem_singleton,not_or];exact⟨hm'.1,hm'.2,hab⟩
   ·exact hm'
  have hb2:Bd (S.drop b) m:=D.bd hb (by simp;omega);obtain⟨p,e,S',h1,h2,h3⟩:=Cy (d:=d) D.ok (id:=a) (X:=[a]) (.inr ⟨rfl,D2.us a (by simp)⟩) hf hb2;refine⟨p,e,S',h1,D2.er h2,fun he=>?_⟩;obtain⟨f1,f2,f3⟩:=h3 he;obtain⟨rfl,rfl⟩:=f3 hm2;have F:=D2.trans f1;refine⟨⟨F.ok,F.us,F.nd,F.keep,F.tight,?_,?_,?_,?_,F.bot,F.cap,fun hc=>⟨(F.mine hc).1,?_,(F.mine hc).2.2⟩⟩,f2⟩
  ·unfold Dr.drop;split<;>simp[Dr.set]
  ·unfold Dr.drop;split<;>simp[Dr.set]
  ·unfold Dr.drop;split<;>simp[Dr.set]
  ·unfold Dr.drop;split<;>simp[Dr.set]
  ·unfold Dr.drop;split<;>simp[Dr.set]
 ·rw[if_neg hm];have hm':S.may a=false:=by simpa using hm
  have e1:S.drop a=S:=by unfold Dr.drop;rw[if_neg hm]
  rw[e1];have D:Fm room d 0 S [a] S []:=by have:=ru (d:=d) ok ha;rwa [e1]at this
  have D2:Fm room d 0 S [a,b] S [b]:=D.ext (Y:=[b]) (by simpa using hb') (by simpa using hab);obtain⟨p,e,S',h1,h2,h3⟩:=Cy (d:=d) ok (id:=b) (X:=[b]) (.inr ⟨rfl,hb'⟩) hf hb;refine⟨p,e,S',h1,D2.er h2,fun he=>?_⟩;obtain⟨f1,f2,f3⟩:=h3 he;have F:=D2.trans f1;have k1:=f1.cnt;have k2:=f1.nY;have k3:=f1.Cw;have k4:=f1.EA;unfold Dr.put at h1;rw[hb.ok,hf]at h1;simp only[Bool.and_self,Bool.true_eq_false,if_false]at h1;refine⟨⟨F.ok,F.us,F.nd,F.keep,F.tight,?_,?_,?_,?_,F.bot,F.cap,fun hc=>by rw[hc a (by simp)]at hm';cases hm'⟩,f2⟩<;>
  ·by_cases hmb:S.may b=true
   ·rw[if_pos hmb]at h1;cases h1;simp[Dr.set]
   ·rw[if_neg hmb]at h1;by_cases h0:(S.x.alloc room).1.2=0
    ·have:=(Ay (d:=d) ok.x h0).cn;rw[if_pos h0]at h1;cases h1;simp[Dr.set,Dr.took,this]
    ·rw[if_neg h0]at h1;cases h1;exact absurd he h0
end
end P
namespace P
open N
theorem oZ {α:Type}{A B A' B':List α}{c x y:α}(h:A++c::B=A'++x::y::B'):
  (∃M,A=A'++x::y::M∧B'=M++c::B)∨(A=A'++[x]∧y=c∧B'=B)∨(A'=A∧x=c∧B=y::B')∨(∃M,A'=A++c::M∧B=M++x::y::B'):=by
 rcases List.append_eq_append_iff.1 h with⟨M,h1,h2⟩| ⟨M,h1,h2⟩
 ·cases M with
  |nil=>
   simp only[List.append_nil]at h1;simp only[List.nil_append]at h2;injection h2 with h3 h4;exact .inr (.inr (.inl ⟨h1,h3.symm,h4⟩))
  |cons z M=>
   rw[List.cons_append]at h2;injection h2 with h3 h4;subst h3;exact .inr (.inr (.inr ⟨M,h1,h4⟩))
 ·cases M with
  |nil=>
   simp only[List.append_nil]at h1;simp only[List.nil_append]at h2;injection h2 with h3 h4;exact .inr (.inr (.inl ⟨h1.symm,h3,h4.symm⟩))
  |cons z M=>
   rw[List.cons_append]at h2;injection h2 with h3 h4;subst h3;cases M with
   |nil=>
    simp only[List.nil_append]at h4;injection h4 with h5 h6;exact .inr (.inl ⟨h1,h5,h6⟩)
   |cons z' M=>
    rw[List.cons_append]at h4;injection h4 with h5 h6;subst h5;exact .inl ⟨M,h1,h6⟩
theorem fE {α:Type}{A B C D:List α}(h:A++B=C++D)(hl:A.length<=C.length):∃M,C=A++M∧B=M++D:=by
 rcases List.append_eq_append_iff.1 h with⟨M,h1,h2⟩| ⟨M,h1,h2⟩
 ·exact⟨M,h1,h2⟩
 ·have:M=[]:=by
   have:=congrArg List.length h1;rw[List.length_append]at this;exact List.length_eq_zero_iff.1 (by omega)
  subst this;exact⟨[],by simpa using h1.symm,by simpa using h2.symm⟩
theorem tV {α:Type}{l:List α}(h:l.length=1):∃x,l=[x]:=by
 match l,h with
 |[x],_=>exact⟨x,rfl⟩
theorem ew {α:Type}{l:List α}{n:Nat}(h:l.length=n+1):∃x m,l=x::m∧m.length=n:=by
 match l,h with
 |x::m,h=>exact⟨x,m,rfl,by simpa using h⟩
section
variable {h:Nat}
abbrev jz (a:KT h)(k:ByteArray)(b:KT h):Nat:=bQ h (uw h a.2 k b.2)
theorem iD {a a' b b':KT h}{k:ByteArray}(h1:bQ h a.2<=bQ h a'.2)(h2:bQ h b.2<=bQ h b'.2):jz a k b<=jz a' k b':=by
 unfold jz;rw[tS,tS];omega
theorem KP.one {A B:List (KT h)}{u v c:KT h}{sA sB:List ByteArray}{k:ByteArray}(hA:A.length=sA.length)(hu:bQ h u.2<=bQ h c.2)(hv:bQ h v.2<=bQ h c.2){j:Nat}
  (h1:j<A.length->KP (A++u::v::B) (sA++k::sB) j)(h2:A.length<j->KP (A++u::v::B) (sA++k::sB) (j+1))(h3:j≠A.length):KP (A++c::B) (sA++sB) j:=by
 intro A' x y B' uv k' mq e1 e2 e3;rcases oZ e1 with⟨M,r1,r2⟩| ⟨r1,r2,r3⟩| ⟨r1,r2,r3⟩| ⟨M,r1,r2⟩
 ·subst r1 r2;obtain⟨M',s1,s2⟩:=fE e2.symm (by simp at hA;omega);subst s1;obtain⟨k'',M'',rfl,_⟩:=ew (l:=M') (n:=1+M.length) (by simp at hA;omega);simp only[List.cons_append]at s2;injection s2 with s3 s4;subst s3;refine⟨fun hj hs=>?_,fun hB=>by simp at hB⟩;exact(h1 (by simp;omega) A' x y (M++u::v::B) uv k' (M''++k::sB) (by simp) (by simp) e3).1 hj hs
 ·subst r1 r2 r3;obtain⟨M',s1,s2⟩:=fE e2.symm (by simp at hA;omega);subst s1;obtain⟨k'',rfl⟩:=tV (l:=M') (by simp at hA;omega);simp only[List.cons_append,List.nil_append]at s2;injection s2 with s3 s4;subst s3;refine⟨fun hj hs=>?_,fun hB hj=>by simp at h3;omega⟩;exact Nat.lt_of_lt_of_le ((h1 (by simp;omega) A' x u (v::B') uv k' (k::sB) (by simp) (by simp) e3).1 hj hs) (iD (Nat.le_refl _) hu)
 ·subst r1 r2 r3;obtain⟨M',s1,s2⟩:=fE e2 (by omega);have:M'=[]:=by
   have:=congrArg List.length s1;rw[List.length_append]at this;exact List.length_eq_zero_iff.1 (by omega)
  subst this;simp only[List.append_nil,List.nil_append]at s1 s2;subst s1 s2;refine⟨fun hj=>by omega,fun hB hj hs=>?_⟩;exact Nat.lt_of_lt_of_le ((h2 (by omega) (A'++[u]) v y B' (uv++[k]) k' mq (by simp) (by simp) (by simp[e3])).2 hB (by simp;omega) hs) (iD hv (Nat.le_refl _))
 ·subst r1 r2;obtain⟨M',s1,s2⟩:=fE e2 (by simp at e3;omega);subst s1 s2;have hl:M'.length=1+M.length:=by simp at e3;omega
  exact⟨fun hj hs=>(h2 (by rw[hj];simp) (A++u::v::M) x y B' (sA++k::M') k' mq (by simp) (by simp) (by simp;omega)).1 (by rw[hj];simp;omega) hs,fun hB hj hs=>(h2 (by rw[hj];simp;omega) (A++u::v::M) x y B' (sA++k::M') k' mq (by simp) (by simp) (by simp;omega)).2 hB (by rw[hj];simp;omega) hs⟩
theorem KP.glue {A B:List (KT h)}{u v:KT h}{sA sB:List ByteArray}{k:ByteArray}(hA:A.length=sA.length)(ha:∀j,KP (A++[u]) sA j)(hb:∀j,KP (v::B) sB j)
  (hp:(bQ h u.2<80->240<jz u k v)∧(B=[]->bQ h v.2<80->240<jz u k v))(j:Nat):KP (A++u::v::B) (sA++k::sB) j:=by
 intro A' x y B' uv k' mq e1 e2 e3;rcases oZ e1 with⟨M,r1,r2⟩| ⟨r1,r2,r3⟩| ⟨r1,r2,r3⟩| ⟨M,r1,r2⟩
 ·subst r1 r2;obtain⟨M',s1,s2⟩:=fE e2.symm (by simp at hA;omega);subst s1;obtain⟨k'',M'',rfl,_⟩:=ew (l:=M') (n:=1+M.length) (by simp at hA;omega);simp only[List.cons_append]at s2;injection s2 with s3 s4;subst s3;exact⟨fun hj hs=>(ha j A' x y (M++[u]) uv k' M'' (by simp) rfl e3).1 hj hs,fun hB=>by simp at hB⟩
 ·subst r1 r2 r3;obtain⟨M',s1,s2⟩:=fE e2.symm (by simp at hA;omega);subst s1;obtain⟨k'',rfl⟩:=tV (l:=M') (by simp at hA;omega);simp only[List.cons_append,List.nil_append]at s2;injection s2 with s3 s4;subst s3;exact⟨fun hj hs=>(ha j A' x y [] uv k' [] (by simp) rfl e3).1 hj hs,fun hB=>by simp at hB⟩
 ·injection r3 with r4 r5;subst r1 r2 r4 r5;obtain⟨M',s1,s2⟩:=fE e2 (by omega);have:M'=[]:=by
   have:=congrArg List.length s1;rw[List.length_append]at this;exact List.length_eq_zero_iff.1 (by omega)
  subst this;simp only[List.append_nil,List.nil_append]at s1 s2;injection s2 with s3 s4;subst s1 s3 s4;exact⟨fun _ hs=>hp.1 hs,fun hB _ hs=>hp.2 hB hs⟩
 ·subst r1;obtain⟨M',s1,s2⟩:=fE e2 (by simp at e3;omega);subst s1;obtain⟨k'',M'',rfl,hl⟩:=ew (l:=M') (n:=M.length) (by simp at e3;omega);simp only[List.cons_append]at s2;injection s2 with s3 s4;subst s3;exact⟨fun _ hs=>(hb M.length M x y B' M'' k' mq r2 s4 hl.symm).1 rfl hs,fun hB _ hs=>(hb (M.length+1) M x y B' M'' k' mq r2 s4 hl.symm).2 hB rfl hs⟩
theorem KP.meet {A B:List (KT h)}{u v c:KT h}{sA sB:List ByteArray}(hA:A.length=sA.length)(ha:∀j,KP (A++[u]) sA j)(hb:∀j,KP (v::B) sB j)
  (hu:bQ h u.2<=bQ h c.2)(hv:bQ h v.2<=bQ h c.2)(j:Nat):KP (A++c::B) (sA++sB) j:=by
 intro A' x y B' uv k' mq e1 e2 e3;rcases oZ e1 with⟨M,r1,r2⟩| ⟨r1,r2,r3⟩| ⟨r1,r2,r3⟩| ⟨M,r1,r2⟩
 ·subst r1 r2;obtain⟨M',s1,s2⟩:=fE e2.symm (by simp at hA;omega);subst s1;obtain⟨k'',M'',rfl,_⟩:=ew (l:=M') (n:=1+M.length) (by simp at hA;omega);simp only[List.cons_append]at s2;injection s2 with s3 s4;subst s3;exact⟨fun hj hs=>(ha j A' x y (M++[u]) uv k' M'' (by simp) rfl e3).1 hj hs,fun hB=>by simp at hB⟩
 ·subst r1 r2 r3;obtain⟨M',s1,s2⟩:=fE e2.symm (by simp at hA;omega);subst s1;obtain⟨k'',rfl⟩:=tV (l:=M') (by simp at hA;omega);simp only[List.cons_append,List.nil_append]at s2;injection s2 with s3 s4;subst s3;exact⟨fun hj hs=>Nat.lt_of_lt_of_le ((ha j A' x u [] uv k' [] (by simp) rfl e3).1 hj hs) (iD (Nat.le_refl _) hu),fun hB hj hs=>Nat.lt_of_lt_of_le ((ha j A' x u [] uv k' [] (by simp) rfl e3).2 rfl hj (by omega)) (iD (Nat.le_refl _) hu)⟩
 ·subst r1 r2 r3;obtain⟨M',s1,s2⟩:=fE e2 (by omega);have:M'=[]:=by
   have:=congrArg List.length s1;rw[List.length_append]at this;exact List.length_eq_zero_iff.1 (by omega)
  subst this;simp only[List.append_nil,List.nil_append]at s1 s2;subst s1 s2;exact⟨fun _ hs=>Nat.lt_of_lt_of_le ((hb 0 [] v y B' [] k' mq rfl rfl rfl).1 rfl (by omega)) (iD hv (Nat.le_refl _)),fun hB _ hs=>Nat.lt_of_lt_of_le ((hb 1 [] v y B' [] k' mq rfl rfl rfl).2 hB rfl hs) (iD hv (Nat.le_refl _))⟩
 ·subst r1 r2;obtain⟨M',s1,s2⟩:=fE e2 (by simp at e3;omega);subst s1 s2;have hl:M'.length=1+M.length:=by simp at e3;omega
  exact⟨fun _ hs=>(hb (M.length+1) (v::M) x y B' M' k' mq rfl rfl (by simp;omega)).1 rfl hs,fun hB _ hs=>(hb (M.length+2) (v::M) x y B' M' k' mq rfl rfl (by simp;omega)).2 hB rfl hs⟩
end
end P
namespace P
open N
theorem getD_at {α:Type}(A:List α)(x:α)(B:List α)(z:α):(A++x::B).getD A.length z=x:=by
 simp[List.getD_eq_getElem?_getD]
theorem kY {l:List En}:2*l.length<=cY l:=by
 induction l with
 |nil=>simp
 |cons x l ih=>simp only[cY,lG,List.length_cons];omega
theorem kZ {l:List ByteArray}:5*l.length<=bV l:=by
 induction l with
 |nil=>simp
 |cons x l ih=>simp only[bV,List.length_cons];omega
section
variable {room:Nat}{d:Dk}{S:Dr}{h:Nat}
def bN (K:List (KT h))(ss:List ByteArray):BT (h+1):=(K,ss)
theorem bZ (K:List (KT h))(ss:List ByteArray):aY (h+1) (bN K ss)=⟨false,[],K.map Prod.fst,ss⟩:=rfl
theorem QG (K:List (KT h))(ss:List ByteArray):mI (h+1) (bN K ss)=iz K:=rfl
theorem KZ (K:List (KT h))(ss:List ByteArray):cC (h+1) (bN K ss)=dE K ss:=rfl
theorem pR (K:List (KT h))(ss:List ByteArray):dW (h+1) (bN K ss)=bO K:=rfl
theorem tW (K:List (KT h))(ss:List ByteArray):bQ (h+1) (bN K ss)=4+bV ss:=rfl
theorem tX (K:List (KT h))(ss:List ByteArray):Wl (h+1) (bN K ss)=(ss.length+1=K.length∧(∀i,KP K ss i)∧∀u∈K,Wl h u.2∧bQ h u.2<=240):=rfl
theorem K0 (K:List (KT h))(ss:List ByteArray)(k:ByteArray)(K':List (KT h))(ss':List ByteArray):uw (h+1) (bN K ss) k (bN K' ss')=bN (K++K') (ss++k::ss'):=rfl
theorem gV (t:BT (h+1)):∃K ss,t=bN K ss:=⟨t.1,t.2,rfl⟩
theorem aab (l:List En):aY 0 l=⟨true,l,[],[]⟩:=rfl
abbrev eU (u:KT h):List Int:=(rj u).map Prod.fst
abbrev aX (K:List (KT h)):List Int:=(iz K).map Prod.fst
abbrev bj (h:Nat)(t:BT h):List Int:=(mI h t).map Prod.fst
theorem cO (u:KT h):eU u=u.1::bj h u.2:=rfl
theorem cd (u:KT h)(K:List (KT h)):aX (u::K)=eU u++aX K:=by simp[aX,eR]
theorem bD (A K:List (KT h)):aX (A++K)=aX A++aX K:=by simp[aX,dP]
theorem rv {K:List (KT h)}{u:KT h}(hu:u∈K):u.1∈aX K:=by
 refine List.mem_map.2 ⟨(u.1,aY h u.2),?_,rfl⟩;exact List.mem_flatten.2 ⟨rj u,List.mem_map_of_mem hu,by simp[rj]⟩
theorem oc (l:List En)(ho:bS (cC 0 l))(hv:∀x∈l,x.2.size<=40):dF (aY 0 l)=true:=(fX rfl).2 ⟨rfl,rfl,bS.leaf ho hv⟩
theorem ji (hr:room<=16384)(ok:Sd room S)(K:List (KT h))(ss:List ByteArray)(hl:ss.length+1=K.length)(us:∀p∈aX K,Us S p)(ho:bS (dE K ss)):dF (aY (h+1) (bN K ss))=true:=by
 rw[bZ];refine(fK rfl).2 ⟨rfl,?_,?_,?_,?_⟩
 ·simp;omega
 ·simp;omega
 ·refine DA fun k hk=>mZ.2 ?_;obtain⟨u,hu,rfl⟩:=List.mem_map.1 hk;have hp:Us S u.1:=us u.1 (rv hu);have h1:=hp.lo;have h2:=hp.hi;have h3:=ok.x.pr;omega
 ·refine bS.keys (ho.sub ?_);rw[dE];exact jh _ _ (by simp;omega)
theorem K7 (hr:room<=16384)(ok:Sd room S)(t:BT h)(hw:Wl h t)(us:∀p∈bj h t,Us S p)(ho:bS (cC h t))(hv:∀x∈dW h t,x.2.size<=40):dF (aY h t)=true:=by
 cases h with
 |zero=>exact oc t ho hv
 |succ h=>
  obtain⟨K,ss,rfl⟩:=gV t;exact ji hr ok K ss hw.1 us ho
theorem ll (l:List En)(hs:bQ 0 l<=1000):cB (aY 0 l)=true:=by
 have h1:2*l.length<=cY l:=kY;have h2:cY l<=1000:=hs;rw[aab];simp only[cB,Bool.and_eq_true,decide_eq_true_eq,bV,List.all_nil,List.length_nil];refine⟨⟨⟨⟨⟨?_,?_⟩,?_⟩,?_⟩,?_⟩,trivial⟩<;>first|omega|rfl
theorem La (hr:room<=16384)(ok:Sd room S)(K:List (KT h))(ss:List ByteArray)(hl:K.length<=ss.length+1)(hs:bV ss<=1000)(us:∀p∈aX K,Us S p):cB (aY (h+1) (bN K ss))=true:=by
 have h1:5*ss.length<=bV ss:=kZ;rw[bZ];simp only[cB,Bool.and_eq_true,decide_eq_true_eq,cY,List.all_eq_true,List.length_nil,List.length_map];refine⟨⟨⟨⟨⟨?_,?_⟩,?_⟩,?_⟩,?_⟩,fun k hk=>?_⟩
 iterate 5 (first|omega|rfl)
 obtain⟨u,hu,rfl⟩:=List.mem_map.1 hk;have hp:Us S u.1:=us u.1 (rv hu);have h1:=hp.lo;have h2:=hp.hi;have h3:=ok.x.pr;omega
theorem kI {K:List (KT h)}(is:pQ S d (iz K)){u:KT h}(hu:u∈K){depth:Int}(hd:depth<24):S.read d u.1 depth=(aY h u.2,0):=by
 rw[S.jL d _ _ hd];exact is (u.1,aY h u.2) (List.mem_flatten.2 ⟨rj u,List.mem_map_of_mem hu,by simp[rj]⟩)
theorem T8 {A B:List (KT h)}{u v:KT h}{sA sB:List ByteArray}{k:ByteArray}(hA:A.length=sA.length)(hB:B.length=sB.length)(p:Int)(c:BT h):
  gG (aY (h+1) (bN (A++u::v::B) (sA++k::sB))) (A.length:Int) ((A.length:Int)+2) [p] []=aY (h+1) (bN (A++(p,c)::B) (sA++sB)):=by
 have e1:((A.length:Int)+2).toNat=A.length+2:=by omega
 have e2:((A.length:Int)).toNat=A.length:=by omega
 rw[bZ,bZ,gG,if_pos]
 ·rw[e1,e2];have e3:vB A.length [p]=A.length:=by simp[vB]
  have e4:vC A.length (A.length+2) [p]=A.length+1:=by simp[vC]
  rw[e3,e4];have f1:iJ ((A++u::v::B).map Prod.fst) A.length (A.length+2) [p]=(A++(p,c)::B).map Prod.fst:=by
   unfold iJ;rw[List.map_append,List.map_append,List.take_append_of_le_length (by simp),List.drop_append];simp[List.take_of_length_le]
  have f2:iJ (sA++k::sB) A.length (A.length+1) []=sA++sB:=by
   unfold iJ;rw[hA,List.take_append_of_le_length (Nat.le_refl _),List.drop_append];simp
  rw[f1,f2]
 ·simp[swB];omega
theorem WS (hr:room<=16384)(ok:Sd room S)(a b:BT h)(k:ByteArray)(ha:Wl h a)(hb:Wl h b)(us:∀p∈bj h a++bj h b,Us S p)(ho:bS (cC h a++(true,k)::cC h b))(hv:∀x∈dW h a++dW h b,x.2.size<=40):dF (jo (aY h a) k (aY h b))=true:=by
 rw[<-xY];have ho':=ho.sub (tT h a b k ha);cases h with
 |zero=>exact oc _ ho' (by rw[<-KY 0 a b k]at hv;exact hv)
 |succ h=>
  obtain⟨K,ss,rfl⟩:=gV a;obtain⟨K',ss',rfl⟩:=gV b;rw[K0];refine ji hr ok _ _ ?_ ?_ (by rw[K0]at ho';exact ho')
  ·have h1:=ha.1;have h2:=hb.1;simp only[bN]at h1 h2;simp;omega
  ·rw[bD];exact us
theorem QH (hr:room<=16384)(ok:Sd room S)(a b:BT h)(k:ByteArray)(ha:Wl h a)(hb:Wl h b)(us:∀p∈bj h a++bj h b,Us S p)(ho:bS (cC h a++(true,k)::cC h b))(hv:∀x∈dW h a++dW h b,x.2.size<=40):cF (jo (aY h a) k (aY h b))=decide (bQ h (uw h a k b)<=240):=by
 unfold cF;rw[WS hr ok a b k ha hb us ho hv,<-xY,Bool.true_and];rfl
def mv (room:Nat)(d:Dk)(h:Nat):Prop:=
 ∀(S:Dr) (a b:BT h) (k:ByteArray) (depth:Int) (f m:Nat),Sd room S->Wl h a->Wl h b->(∀p∈bj h a++bj h b,Us S p)->(bj h a++bj h b).Nodup->pQ S d (mI h a++mI h b)->bS (cC h a++(true,k)::cC h b)->(∀x∈dW h a++dW h b,x.2.size<=40)->bQ h (uw h a k b)<=240->depth+h<24->3*(bj h a++bj h b).length+3<=f->Bd S ((bj h a++bj h b).length+1+m)->
  ∃n e S1,bf room d f S (jo (aY h a) k (aY h b)) depth (max (((aY h a).ks.length:Int)-1) 0) (((aY h a).ks.length:Int)+1)=some ((n,e),S1)∧Er room d 0 S (bj h a++bj h b) S1 e∧(e=0->∃c,n=aY h c∧Wl h c∧pQ S1 d (mI h c)∧Fm room d 0 S (bj h a++bj h b) S1 (bj h c)∧(cC h c).Sublist (cC h a++(true,k)::cC h b)∧dW h c=dW h a++dW h b∧bQ h a<=bQ h c∧bQ h b<=bQ h c∧bQ h c<=240∧(bj h c).length<=(bj h a++bj h b).length)
structure Rw (room:Nat)(d:Dk)(S:Dr)(h:Nat)(K:List (KT h))(ss:List ByteArray):Prop where
 sd:Sd room S
 wl:∀u∈K,Wl h u.2∧bQ h u.2<=240
 us:∀p∈aX K,Us S p
 nd:(aX K).Nodup
 is:pQ S d (iz K)
 od:bS (dE K ss)
 vl:∀x∈bO K,x.2.size<=40
 sz:bV ss<=1000
 ln:ss.length+1=K.length∨(K=[]∧ss=[])
theorem Rw.pair {A B:List (KT h)}{u v:KT h}{sA sB:List ByteArray}{k:ByteArray}(R:Rw room d S h (A++u::v::B) (sA++k::sB))(hA:A.length=sA.length):
  (∀p∈bj h u.2++bj h v.2,Us S p)∧(bj h u.2++bj h v.2).Nodup∧pQ S d (mI h u.2++mI h v.2)∧bS (cC h u.2++(true,k)::cC h v.2)∧(∀x∈dW h u.2++dW h v.2,x.2.size<=40):=by
 have e1:iz (A++u::v::B)=iz A++((u.1,aY h u.2)::mI h u.2++((v.1,aY h v.2)::mI h v.2++iz B)):=by
  rw[dP,eR,eR];rfl
 have hs:(mI h u.2++mI h v.2).Sublist (iz (A++u::v::B)):=by
  rw[e1];refine List.Sublist.trans ?_ (List.sublist_append_right _ _);refine List.Sublist.append (List.sublist_cons_self _ _) ?_;exact List.Sublist.trans (List.sublist_cons_self _ _) (List.sublist_append_left _ _)
 have hp:(bj h u.2++bj h v.2).Sublist (aX (A++u::v::B)):=by
  have:=hs.map Prod.fst
  rwa [List.map_append]at this
 refine⟨fun p hq=>R.us p (hp.subset hq),R.nd.sublist hp,fun x hx=>R.is x (hs.subset hx),?_,fun x hx=>R.vl x ?_⟩
 ·refine R.od.sub ?_;rw[rq hA];refine List.Sublist.trans ?_ (List.sublist_append_right _ _);exact List.Sublist.append (List.Sublist.refl _) (List.Sublist.cons_cons _ (List.sublist_append_left _ _))
 ·rw[cL,cG,cG];simp only[List.mem_append]at hx⊢;rcases hx with hx|hx
  ·exact .inr (.inl hx)
  ·exact .inr (.inr (.inl hx))
theorem EB (hr:room<=16384){A B:List (KT h)}{u v w:KT h}{sA sB:List ByteArray}{k:ByteArray}(R:Rw room d S h (A++u::v::B) (sA++k::sB))(hA:A.length=sA.length){depth i:Int}(hd:depth+1<24)
  (hw:w=u∨w=v)(QI:((A++u::v::B).map Prod.fst).getD i.toNat 0=w.1)(hk:bQ h w.2<80->240<jz u k v)(rec:qV):
  gq rec room d S (aY (h+1) (bN (A++u::v::B) (sA++k::sB))) depth i (A.length:Int)=some ((aY (h+1) (bN (A++u::v::B) (sA++k::sB)),false,0),S):=by
 obtain⟨p1,p2,p3,p4,p5⟩:=R.pair hA;have wu:=(R.wl u (by simp)).1;have wv:=(R.wl v (by simp)).1;have r0:S.read d w.1 (depth+1)=(aY h w.2,0):=kI R.is (by rcases hw with rfl|rfl<;>simp) hd;have r1:S.read d u.1 (depth+1)=(aY h u.2,0):=kI R.is (by simp) hd;have r2:S.read d v.1 (depth+1)=(aY h v.2,0):=kI R.is (by simp) hd;have g1:((A++u::v::B).map Prod.fst).getD ((A.length:Int)).toNat 0=u.1:=by
  simp[List.getD_eq_getElem?_getD]
 have g2:((A++u::v::B).map Prod.fst).getD (((A.length:Int)).toNat+1) 0=v.1:=by
  simp[List.getD_eq_getElem?_getD]
 have g3:(sA++k::sB).getD ((A.length:Int)).toNat ⟨#[]⟩=k:=by
  have:=getD_at sA k sB ⟨#[]⟩;rw[show((A.length:Int)).toNat=sA.length by omega];exact this
 have hf:=QH hr R.sd u.2 v.2 k wu wv p1 p4 p5;rw[bZ];unfold gq;simp only[QI,g1,g2,g3,r0,r1,r2,hf];rw[if_neg (by omega),if_neg (by simp)];by_cases hs:80<=dZ (aY h w.2)
 ·rw[if_pos hs]
 ·rw[if_neg hs,if_neg (by simp),if_neg (by simp),if_neg (by simp;omega),if_pos];have:=hk (by unfold bQ;omega);unfold jz at this;exact .inr (decide_eq_false (by omega))
theorem tY (hr:room<=16384)(HJ:mv room d h){A B:List (KT h)}{u v w:KT h}{sA sB:List ByteArray}{k:ByteArray}(R:Rw room d S h (A++u::v::B) (sA++k::sB))(hA:A.length=sA.length)(hB:B.length=sB.length){depth i:Int}(hd:depth+1+h<24)
    (hw:w=u∨w=v)(QI:((A++u::v::B).map Prod.fst).getD i.toNat 0=w.1)(hk:bQ h w.2<80)(hj:jz u k v<=240){f m:Nat}(hf:3*(bj h u.2++bj h v.2).length+3<=f)(hb:Bd S ((bj h u.2++bj h v.2).length+2+m)):
    ∃n j e S2,gq (fun S n depth i tt=>bf room d f S n depth (max i 0) tt) room d S (aY (h+1) (bN (A++u::v::B) (sA++k::sB))) depth i (A.length:Int)=some ((n,j,e),S2)∧Er room d 0 S (eU u++eU v) S2 e∧
      (e=0->j=true∧∃p c,n=aY (h+1) (bN (A++(p,c)::B) (sA++sB))∧Wl h c∧bQ h c<=240∧bQ h u.2<=bQ h c∧bQ h v.2<=bQ h c∧pQ S2 d (rj (p,c))∧Fm room d 0 S (eU u++eU v) S2 (eU (p,c))∧(cC h c).Sublist (cC h u.2++(true,k)::cC h v.2)∧dW h c=dW h u.2++dW h v.2∧(eU (p,c)).length+1<=(eU u++eU v).length):=by
  obtain⟨p1,p2,p3,p4,p5⟩:=R.pair hA;have wu:=(R.wl u (by simp)).1;have wv:=(R.wl v (by simp)).1;have hd':depth+1<24:=by omega
  have r0:S.read d w.1 (depth+1)=(aY h w.2,0):=kI R.is (by rcases hw with rfl|rfl<;>simp) hd';have r1:S.read d u.1 (depth+1)=(aY h u.2,0):=kI R.is (by simp) hd';have r2:S.read d v.1 (depth+1)=(aY h v.2,0):=kI R.is (by simp) hd';have g1:((A++u::v::B).map Prod.fst).getD ((A.length:Int)).toNat 0=u.1:=by
    simp[List.getD_eq_getElem?_getD]
  have g2:((A++u::v::B).map Prod.fst).getD (((A.length:Int)).toNat+1) 0=v.1:=by
    simp[List.getD_eq_getElem?_getD]
  have g3:(sA++k::sB).getD ((A.length:Int)).toNat ⟨#[]⟩=k:=by
    have:=getD_at sA k sB ⟨#[]⟩;rw[show((A.length:Int)).toNat=sA.length by omega];exact this
  have hfi:=QH hr R.sd u.2 v.2 k wu wv p1 p4 p5;have hlf:(aY h u.2).leaf=(aY h v.2).leaf:=by rw[Aw,Aw]
  have aac:cF (jo (aY h u.2) k (aY h v.2))=true:=by rw[hfi];exact decide_eq_true hj
  have hs:¬80<=dZ (aY h w.2):=by unfold bQ at hk;omega
  obtain⟨n,e,S1,h1,h2,h3⟩:=HJ S u.2 v.2 k (depth+1) f (m+1) R.sd wu wv p1 p2 p3 p4 p5 hj hd hf (hb.mono (by omega));have hsub:(eU u++eU v).Sublist (aX (A++u::v::B)):=by
    rw[bD,cd,cd];refine List.Sublist.trans ?_ (List.sublist_append_right _ _);exact List.Sublist.append (List.Sublist.refl _) (List.sublist_append_left _ _)
  have hnd:=R.nd.sublist hsub;have QJ:∀p∈eU u++eU v,Us S p:=fun p hp=>R.us p (hsub.subset hp);have hperm:((bj h u.2++bj h v.2)++[u.1,v.1]).Perm (eU u++eU v):=by
    rw[cO,cO];refine List.perm_append_comm.trans ?_;show(u.1::(v.1::(bj h u.2++bj h v.2))).Perm (u.1::(bj h u.2++v.1::bj h v.2));exact List.Perm.cons _ List.perm_middle.symm
  have hnd':=hperm.nodup_iff.2 hnd;obtain⟨n1,n2,n3⟩:=List.nodup_append.1 hnd';have Yq:Us S u.1:=QJ u.1 (hperm.mem_iff.1 (by simp));have huv:Us S v.1:=QJ v.1 (hperm.mem_iff.1 (by simp));have aad:u.1≠v.1:=by simpa using n2
  rw[bZ];unfold gq;simp only[QI,g1,g2,g3,r0,r1,r2,aac,hlf];rw[if_neg (by omega),if_neg (by simp),if_neg hs,if_neg (by simp),if_neg (by simp),if_neg (by simp;omega),if_neg (by simp),h1];simp only;by_cases he:e=0
  · subst he;obtain⟨c,rfl,wc,ic,F1,sc,ec,z1,z2,z3,z4⟩:=h3 rfl;rw[if_neg (by simp)];have u1:=F1.Ax Yq (fun hx=>n3 _ hx u.1 (by simp) rfl);have u2:=F1.Ax huv (fun hx=>n3 _ hx v.1 (by simp) rfl);have hv:∀x∈dW h c,x.2.size<=40:=by rw[ec];exact p5
    have hfc:cF (aY h c)=true:=by
      unfold cF;rw[K7 hr F1.ok c wc F1.us (p4.sub sc) hv,Bool.true_and];exact decide_eq_true z3
    obtain⟨p,e2,S2,k1,k2,k3⟩:=Cz (d:=d) F1.ok u1.1 u2.1 aad hfc (m:=m) (F1.bd hb (by simp only[List.length_append]at*;omega));rw[k1];have E1:=F1.ext (Y:=[u.1,v.1]) (by simp[Yq,huv]) hnd';have ndc:([u.1,v.1]++bj h c).Nodup:=(List.perm_append_comm.nodup_iff).1 E1.nd;refine⟨_,_,_,_,rfl,((E1.perm hperm List.perm_append_comm).er (k2.ext F1.us ndc)).mono (by omega),fun he2=>⟨rfl,p,c,?_,wc,z3,z1,z2,?_,?_,sc,ec,?_⟩⟩
    · rw[<-bZ];exact T8 hA hB p c
    · obtain⟨F2,v2⟩:=k3 he2;intro x hx;rcases List.mem_cons.1 hx with rfl|hx
      · exact v2
      · exact F2.Py ic F1.us (fun q hq=>by
          have hm:q∈bj h c:=hq
          intro hc
          rcases List.mem_cons.1 hc with rfl|hc
          · exact u1.2 hm
          · rw[List.mem_singleton.1 hc]at hm
            exact u2.2 hm) x hx
    · obtain⟨F2,v2⟩:=k3 he2;have E1:=F1.ext (Y:=[u.1,v.1]) (by simp[Yq,huv]) hnd';have E2:=F2.ext (Y:=bj h c) F1.us (by
        have:=E1.nd
        exact(List.perm_append_comm.nodup_iff).1 this)
      exact(E1.trans (E2.perm List.perm_append_comm (List.Perm.refl _))).perm hperm (List.Perm.refl _)
    · have:=hperm.length_eq;rw[cO];simp only[List.length_append,List.length_cons,List.length_nil]at this z4⊢;omega
  · rw[if_pos he];exact⟨_,_,_,_,rfl,(h2.ext (Y:=[u.1,v.1]) (by simp[Yq,huv]) hnd').perm hperm,fun h0=>absurd h0 he⟩
end
end P
namespace P
open N
section
variable {room:Nat}{d:Dk}{S:Dr}{h:Nat}
theorem Rw.sm (hr:room<=16384){K:List (KT h)}{ss:List ByteArray}(R:Rw room d S h K ss):cB (aY (h+1) (bN K ss))=true:=
 La hr R.sd K ss (by rcases R.ln with e| ⟨e1,e2⟩<;>simp[*]<;>omega) R.sz R.us
theorem jM {f:Nat}{n:Nd}{depth i tt:Int}(hs:cB n=true)(hi:0<=i)(he:¬i<min tt (n.ks.length:Int)):bf room d (f+1) S n depth i tt=some ((n,0),S):=by
 rw[bf,if_neg (by simp[hs];omega),if_neg he]
theorem o0 {f:Nat}{n:Nd}{depth i tt:Int}(hs:cB n=true)(hi:0<=i)(he:i<min tt (n.ks.length:Int))
  (hj:gq (fun S n depth i tt=>bf room d f S n depth (max i 0) tt) room d S n depth i (min i ((n.ks.length:Int)-2))=some ((n,false,0),S)):bf room d (f+1) S n depth i tt=bf room d f S n depth (i+1) tt:=by
 rw[bf,if_neg (by simp[hs];omega),if_pos he,hj];simp
theorem my {f:Nat}{n m:Nd}{S2:Dr}{depth i tt:Int}(hs:cB n=true)(hi:0<=i)(he:i<min tt (n.ks.length:Int))
  (hj:gq (fun S n depth i tt=>bf room d f S n depth (max i 0) tt) room d S n depth i (min i ((n.ks.length:Int)-2))=some ((m,true,0),S2)):bf room d (f+1) S n depth i tt=bf room d f S2 m depth (min i ((n.ks.length:Int)-2)) tt:=by
 rw[bf,if_neg (by simp[hs];omega),if_pos he,hj];simp
theorem mz {f:Nat}{n m:Nd}{S2:Dr}{j:Bool}{e depth i tt:Int}(hs:cB n=true)(hi:0<=i)(he:i<min tt (n.ks.length:Int))(h0:e≠0)
  (hj:gq (fun S n depth i tt=>bf room d f S n depth (max i 0) tt) room d S n depth i (min i ((n.ks.length:Int)-2))=some ((m,j,e),S2)):bf room d (f+1) S n depth i tt=some ((nd0,e),S2):=by
 rw[bf,if_neg (by simp[hs];omega),if_pos he,hj];simp[h0]
theorem EC {K:List (KT h)}{ss:List ByteArray}(hl:ss.length+1=K.length)(h2:2<=K.length){i:Nat}(hi:i<K.length):
  ∃A u v B sA k sB,K=A++u::v::B∧ss=sA++k::sB∧A.length=sA.length∧B.length=sB.length∧min (i:Int) ((K.length:Int)-2)=(A.length:Int)∧(i=A.length∨(i=A.length+1∧B=[])):=by
 obtain⟨q,hq⟩:∃q,q=min i (K.length-2):=⟨_,rfl⟩;have e1:K=K.take q++K.drop q:=(List.take_append_drop q K).symm;have e2:ss=ss.take q++ss.drop q:=(List.take_append_drop q ss).symm;obtain⟨u,K1,r1,l1⟩:=ew (l:=K.drop q) (n:=K.length-q-1) (by rw[List.length_drop];omega);obtain⟨v,B,r2,l2⟩:=ew (l:=K1) (n:=K.length-q-2) (by omega);obtain⟨k,sB,r3,l3⟩:=ew (l:=ss.drop q) (n:=ss.length-q-1) (by rw[List.length_drop];omega);rw[r1,r2]at e1;rw[r3]at e2;have lA:(K.take q).length=q:=by rw[List.length_take];omega
 refine⟨K.take q,u,v,B,ss.take q,k,sB,e1,e2,?_,by omega,by omega,?_⟩
 ·rw[lA,List.length_take];omega
 ·rw[lA];by_cases hc:i<=K.length-2
  ·exact .inl (by omega)
  ·exact .inr ⟨by omega,List.length_eq_zero_iff.1 (by omega)⟩
theorem WT {A B:List (KT h)}{u v:KT h}{sA sB:List ByteArray}{k:ByteArray}(hA:A.length=sA.length){i:Nat}
    (hp:(i=A.length∧(bQ h u.2<80->240<jz u k v))∨(i=A.length+1∧B=[]∧(bQ h v.2<80->240<jz u k v))):KP (A++u::v::B) (sA++k::sB) i:=by
  intro A' x y B' uv k' mq e1 e2 e3;have hlen:=congrArg List.length e1;simp only[List.length_append,List.length_cons]at hlen;have key:A.length=A'.length->x=u∧y=v∧k'=k:=fun hq=>by
    obtain⟨r1,r2⟩:=List.append_inj e1 hq;obtain⟨s1,s2⟩:=List.append_inj e2 (by omega);injection r2 with r3 r4;injection r4 with r5 r6;injection s2 with s3 s4;exact⟨r3.symm,r5.symm,s3.symm⟩
  rcases hp with⟨rfl,hp⟩| ⟨rfl,rfl,hp⟩
  · refine⟨fun hj hs=>?_,fun hB hj=>?_⟩
    · obtain⟨rfl,rfl,rfl⟩:=key hj;exact hp hs
    · subst hB;simp at hlen;omega
  · refine⟨fun hj hs=>?_,fun hB hj hs=>?_⟩
    · simp at hlen;omega
    · obtain⟨rfl,rfl,rfl⟩:=key (by omega);exact hp hs
theorem Lb {A B:List (KT h)}{u v:KT h}{i:Nat}(hi:i=A.length∨(i=A.length+1∧B=[])):∃w,(w=u∨w=v)∧((A++u::v::B).map Prod.fst).getD ((i:Int)).toNat 0=w.1∧((i=A.length∧w=u)∨(i=A.length+1∧B=[]∧w=v)):=by
 rcases hi with rfl| ⟨rfl,rfl⟩
 ·exact⟨u,.inl rfl,by simp[List.getD_eq_getElem?_getD],.inl ⟨rfl,rfl⟩⟩
 ·exact⟨v,.inr rfl,by rw[show((A.length+1:Nat):Int).toNat=A.length+1 by omega];simp[List.getD_eq_getElem?_getD],.inr ⟨rfl,rfl,rfl⟩⟩
theorem ED (hr:room<=16384){K:List (KT h)}{ss:List ByteArray}(R:Rw room d S h K ss){i:Nat}(hi:i<K.length)(hk:KP K ss i){depth:Int}(hd:depth+1<24)(rec:qV):
  gq rec room d S (aY (h+1) (bN K ss)) depth (i:Int) (min (i:Int) ((K.length:Int)-2))=some ((aY (h+1) (bN K ss),false,0),S):=by
 have hl:ss.length+1=K.length:=by rcases R.ln with e| ⟨e1,e2⟩;exact e;rw[e1]at hi;simp at hi
 by_cases h2:2<=K.length
 ·obtain⟨A,u,v,B,sA,k,sB,rfl,rfl,hA,hB,hm,hi'⟩:=EC hl h2 hi;obtain⟨w,hw,QI,hww⟩:=Lb (A:=A) (B:=B) (u:=u) (v:=v) hi';rw[hm];refine EB hr R hA hd hw QI (fun hs=>?_) rec;have:=hk A u v B sA k sB rfl rfl hA;rcases hww with⟨e1,rfl⟩| ⟨e1,e2,rfl⟩
  ·exact this.1 e1 hs
  ·exact this.2 e2 e1 hs
 ·unfold gq;rw[if_pos (by omega)]
theorem iE (hr:room<=16384){K:List (KT h)}{ss:List ByteArray}(R:Rw room d S h K ss)(hk:∀j,KP K ss j){depth:Int}(hd:depth+1<24):∀(f i:Nat) (tt:Int),(tt-i).toNat+1<=f->bf room d f S (aY (h+1) (bN K ss)) depth (i:Int) tt=some ((aY (h+1) (bN K ss),0),S)
 |0,_,_,hf=>by omega
 |f+1,i,tt,hf=>by
  by_cases hlt:(i:Int)<min tt (((aY (h+1) (bN K ss)).ks.length:Nat):Int)
  ·have hlen:(aY (h+1) (bN K ss)).ks.length=K.length:=by rw[bZ];simp
   have hj:=ED (S:=S) hr R (i:=i) (by rw[hlen]at hlt;omega) (hk i) hd (fun S n depth i tt=>bf room d f S n depth (max i 0) tt);rw[o0 (R.sm hr) (by omega) hlt (by rw[hlen];exact hj)];have:=iE hr R hk hd f (i+1) tt (by omega);rw[show((i+1:Nat):Int)=(i:Int)+1 by omega]at this;exact this
  ·exact jM (R.sm hr) (by omega) hlt
theorem Rw.one {A B:List (KT h)}{u v:KT h}{sA sB:List ByteArray}{k:ByteArray}{S2:Dr}{p:Int}{c:BT h}(R:Rw room d S h (A++u::v::B) (sA++k::sB))(hA:A.length=sA.length)(hB:B.length=sB.length)
    (wc:Wl h c)(zc:bQ h c<=240)(ic:pQ S2 d (rj (p,c)))(F:Fm room d 0 S (eU u++eU v) S2 (eU (p,c)))(sc:(cC h c).Sublist (cC h u.2++(true,k)::cC h v.2))(ec:dW h c=dW h u.2++dW h v.2):
    Rw room d S2 h (A++(p,c)::B) (sA++sB)∧Fm room d 0 S (aX (A++u::v::B)) S2 (aX (A++(p,c)::B))∧(dE (A++(p,c)::B) (sA++sB)).Sublist (dE (A++u::v::B) (sA++k::sB))∧bO (A++(p,c)::B)=bO (A++u::v::B)∧bV (sA++sB)<=bV (sA++k::sB):=by
  have q1:((eU u++eU v)++(aX A++aX B)).Perm (aX (A++u::v::B)):=by
    rw[bD,cd,cd,<-List.append_assoc (eU u),<-List.append_assoc (aX A),<-List.append_assoc (eU u++eU v)];exact List.Perm.append_right _ List.perm_append_comm
  have q2:(eU (p,c)++(aX A++aX B)).Perm (aX (A++(p,c)::B)):=by
    rw[bD,cd,<-List.append_assoc,<-List.append_assoc];exact List.Perm.append_right _ List.perm_append_comm
  have PB:=q1.nodup_iff.2 R.nd;have us1:∀q∈aX A++aX B,Us S q:=fun q hq=>R.us q (q1.mem_iff.1 (List.mem_append_right _ hq));have E:=(F.ext us1 PB).perm q1 q2;have hne:∀q∈aX A++aX B,q∉eU u++eU v:=fun q hq hc=>(List.nodup_append.1 PB).2.2 q hc q hq rfl;have sf:(dE (A++(p,c)::B) (sA++sB)).Sublist (dE (A++u::v::B) (sA++k::sB)):=by
    rw[fG hA,rq hA];refine List.Sublist.append (List.Sublist.refl _) ?_;have:=List.Sublist.append sc (List.Sublist.refl (kG (B.map fun u=>cC h u.2) sB));simpa using this
  have se:bO (A++(p,c)::B)=bO (A++u::v::B):=by
    rw[cL,cL,cG,cG,cG,ec,List.append_assoc]
  have sz:bV (sA++sB)<=bV (sA++k::sB):=by
    rw[dL,dL,bV];omega
  refine⟨⟨F.ok,fun w hw=>?_,E.us,E.nd,?_,R.od.sub sf,by rw[se];exact R.vl,Nat.le_trans sz R.sz,.inl (by simp;omega)⟩,E,sf,se,sz⟩
  · rcases List.mem_append.1 hw with hw|hw
    · exact R.wl w (by simp[hw])
    · rcases List.mem_cons.1 hw with rfl|hw
      · exact⟨wc,zc⟩
      · exact R.wl w (by simp[hw])
  · have WW:pQ S2 d (iz A++iz B):=F.Py (fun x hx=>R.is x (by
        rw[dP,eR,eR]
        simp only[List.mem_append]at hx⊢
        rcases hx with hx|hx
        · exact .inl hx
        · exact .inr (.inr (.inr hx)))) (by rw[List.map_append];exact us1) (by rw[List.map_append];exact hne)
    intro x hx;rw[dP,eR]at hx;simp only[List.mem_append]at hx;rcases hx with hx|hx|hx
    · exact WW x (List.mem_append_left _ hx)
    · exact ic x hx
    · exact WW x (List.mem_append_right _ hx)
theorem Rw.ya {A B:List (KT h)}{u v:KT h}{ss:List ByteArray}{S2:Dr}{e:Int}(R:Rw room d S h (A++u::v::B) ss)(E:Er room d 0 S (eU u++eU v) S2 e):Er room d 0 S (aX (A++u::v::B)) S2 e:=by
 have q1:((eU u++eU v)++(aX A++aX B)).Perm (aX (A++u::v::B)):=by
  rw[bD,cd,cd,<-List.append_assoc (eU u),<-List.append_assoc (aX A),<-List.append_assoc (eU u++eU v)];exact List.Perm.append_right _ List.perm_append_comm
 exact(E.ext (fun q hq=>R.us q (q1.mem_iff.1 (List.mem_append_right _ hq))) (q1.nodup_iff.2 R.nd)).perm q1
theorem ib (hr:room<=16384)(HJ:mv room d h){depth:Int}(hd:depth+1+h<24){m:Nat}:∀(f:Nat) (S:Dr) (K:List (KT h)) (ss:List ByteArray) (i tt:Nat),Rw room d S h K ss->(∀j,j<i->KP K ss j)->(∀j,tt<=j->KP K ss j)->3*(aX K).length+(tt-i)+1<=f->Bd S ((aX K).length+2+m)->
  ∃n e S1,bf room d f S (aY (h+1) (bN K ss)) depth (i:Int) (tt:Int)=some ((n,e),S1)∧Er room d 0 S (aX K) S1 e∧(e=0->∃K' ss',n=aY (h+1) (bN K' ss')∧Rw room d S1 h K' ss'∧(∀j,KP K' ss' j)∧Fm room d 0 S (aX K) S1 (aX K')∧(dE K' ss').Sublist (dE K ss)∧bO K'=bO K∧bV ss'<=bV ss∧(K'=[]->K=[])∧(aX K').length<=(aX K).length)
 |0,_,_,_,_,_,_,_,_,hf,_=>by omega
 |f+1,S,K,ss,i,tt,R,k1,k2,hf,hb=>by
  have hlen:(aY (h+1) (bN K ss)).ks.length=K.length:=by rw[bZ];simp
  by_cases hlt:(i:Int)<min (tt:Int) (((aY (h+1) (bN K ss)).ks.length:Nat):Int)
  ·have hi:i<K.length∧i<tt:=by rw[hlen]at hlt;omega
   by_cases hkp:KP K ss i
   ·have hj:=ED (S:=S) hr R hi.1 hkp (by omega:depth+1<24) (fun S n depth i tt=>bf room d f S n depth (max i 0) tt);rw[o0 (R.sm hr) (by omega) hlt (by rw[hlen];exact hj)];have:=ib hr HJ hd f S K ss (i+1) tt R (fun j hj=>if e:j=i then e▸hkp else k1 j (by omega)) k2 (by omega) hb;rw[show((i+1:Nat):Int)=(i:Int)+1 by omega]at this;exact this
   ·have hl:ss.length+1=K.length:=by rcases R.ln with e| ⟨e1,e2⟩;exact e;rw[e1]at hi;simp at hi
    have h2:2<=K.length:=by
     by_cases h2:2<=K.length
     ·exact h2
     ·exfalso;apply hkp;intro A' x y B' uv k' mq e1 e2 e3;have:=congrArg List.length e1;simp at this;omega
    obtain⟨A,u,v,B,sA,k,sB,rfl,rfl,hA,hB,hm,hi'⟩:=EC hl h2 hi.1;obtain⟨w,hw,QI,hww⟩:=Lb (A:=A) (B:=B) (u:=u) (v:=v) hi';have hiA:A.length<=i∧i<=A.length+1:=by rcases hi' with e| ⟨e,_⟩<;>omega
    have hsm:bQ h w.2<80∧jz u k v<=240:=by
     by_cases hc:bQ h w.2<80∧jz u k v<=240
     ·exact hc
     ·exfalso;apply hkp;apply WT hA;rcases hww with⟨e1,rfl⟩| ⟨e1,e2,rfl⟩
      ·exact .inl ⟨e1,fun hs=>by omega⟩
      ·exact .inr ⟨e1,e2,fun hs=>by omega⟩
    have hpl:(aX (A++u::v::B)).length=(aX A).length+(bj h u.2++bj h v.2).length+2+(aX B).length:=by
     rw[bD,cd,cd,cO,cO];simp only[List.length_append,List.length_cons];omega
    obtain⟨n,j,e,S2,j1,j2,j3⟩:=tY (S:=S) (f:=f) (m:=m) hr HJ R hA hB hd hw QI hsm.1 hsm.2 (by omega) (hb.mono (by omega));rw[<-hm]at j1;by_cases he:e=0
    ·subst he;obtain⟨rfl,p,c,rfl,wc,zc,zu,zv,ic,F,sc,ec,lc⟩:=j3 rfl;obtain⟨R2,E,sf,se,sz⟩:=R.one hA hB wc zc ic F sc ec;rw[my (R.sm hr) (by omega) hlt (by rw[hlen];exact j1),hlen,hm];have aaA:(aX (A++(p,c)::B)).length+1<=(aX (A++u::v::B)).length:=by
      rw[hpl,bD,cd];rw[cO,cO,cO]at lc;rw[cO];simp only[List.length_append,List.length_cons]at lc⊢;omega
     obtain⟨n',e',S',t1,t2,t3⟩:=ib (m:=m) hr HJ hd f S2 (A++(p,c)::B) (sA++sB) A.length tt R2 (fun j hj=>KP.one (c:=(p,c)) (k:=k) hA zu zv (fun _=>k1 j (by omega)) (fun hc=>by omega) (by omega)) (fun j hj=>KP.one (c:=(p,c)) (k:=k) hA zu zv (fun hc=>by omega) (fun _=>k2 (j+1) (by omega)) (by omega)) (by omega) (E.bd hb (by omega));refine⟨n',e',S',t1,E.er t2,fun h0=>?_⟩;obtain⟨K',ss',r1,r2,r3,r4,r5,r6,r7,r8,r9⟩:=t3 h0;exact⟨K',ss',r1,r2,r3,E.trans r4,r5.trans sf,r6.trans se,Nat.le_trans r7 sz,fun hc=>by have:=r8 hc;simp at this,by omega⟩
    ·rw[mz (R.sm hr) (by omega) hlt he (by rw[hlen];exact j1)];exact⟨_,_,_,rfl,R.ya j2,fun h0=>absurd h0 he⟩
  ·rw[jM (R.sm hr) (by omega) hlt];refine⟨_,0,_,rfl,fun h0=>absurd rfl h0,fun _=>⟨K,ss,rfl,R,fun j=>?_,Fm.refl R.sd R.us R.nd,List.Sublist.refl _,rfl,Nat.le_refl _,id,Nat.le_refl _⟩⟩;rw[hlen]at hlt;by_cases hj:j<i
   ·exact k1 j hj
   ·by_cases hj2:tt<=j
    ·exact k2 j hj2
    ·intro A' x y B' uv k' mq e1 e2 e3;have:=congrArg List.length e1;simp at this;exact⟨fun hc=>by omega,fun hB hc=>by omega⟩
end
end P
namespace P
open N
section
variable {room:Nat}{d:Dk}
theorem PC (hr:room<=16384):mv room d 0:=by
 intro S a b k depth f m sd wa wb us nd is od vl hj hd hf hb;obtain⟨f,rfl⟩:∃f',f=f'+1:=⟨f-1,by omega⟩;rw[<-xY];refine⟨_,0,S,jM (ll _ (Nat.le_trans hj (by omega))) (by simp[aY];omega) (by simp[aY,uw];omega),fun h0=>absurd rfl h0,fun _=>⟨uw 0 a k b,rfl,?_,?_,?_,tT 0 a b k wa,KY 0 a b k,?_,?_,hj,?_⟩⟩
 ·intro hc;exact wa (List.append_eq_nil_iff.1 hc).1
 ·rw[Cv];exact is
 ·have e:bj 0 (uw 0 a k b)=bj 0 a++bj 0 b:=by simp[bj,Cv]
  rw[e];exact Fm.refl sd us nd
 ·rw[tS];omega
 ·rw[tS];omega
 ·simp[bj,Cv]
theorem yb {α:Type}{l:List α}{n:Nat}(h:n+1=l.length):∃A u,l=A++[u]∧A.length=n:=by
 refine⟨l.dropLast,l.getLast (fun e=>by rw[e]at h;simp at h),(List.dropLast_concat_getLast _).symm,?_⟩;simp;omega
theorem PD (hr:room<=16384){h:Nat}(HJ:mv room d h):mv room d (h+1):=by
 intro S a b k depth f m sd wa wb us nd is od vl hj hd hf hb;obtain⟨Ka,sa,rfl⟩:=gV a;obtain⟨Kb,sb,rfl⟩:=gV b;rw[tX]at wa wb;obtain⟨A,u,rfl,hA⟩:=yb wa.1;obtain⟨v,B,rfl,hB⟩:=ew wb.1.symm;have WX:∀x:List (KT h),(A++[u])++v::B=A++u::v::B:=fun _=>by simp
 have eJ:uw (h+1) (bN (A++[u]) sa) k (bN (v::B) sb)=bN (A++u::v::B) (sa++k::sb):=by rw[K0,WX []]
 have ePg:bj (h+1) (bN (A++[u]) sa)++bj (h+1) (bN (v::B) sb)=aX (A++u::v::B):=by
  show aX (A++[u])++aX (v::B)=_;rw[<-bD,WX []]
 have eCl:mI (h+1) (bN (A++[u]) sa)++mI (h+1) (bN (v::B) sb)=iz (A++u::v::B):=by
  rw[QG,QG,<-dP,WX []]
 have eEn:dW (h+1) (bN (A++[u]) sa)++dW (h+1) (bN (v::B) sb)=bO (A++u::v::B):=by
  rw[pR,pR,<-cL,WX []]
 have eFl:cC (h+1) (bN (A++[u]) sa)++(true,k)::cC (h+1) (bN (v::B) sb)=dE (A++u::v::B) (sa++k::sb):=by
  rw[<-xZ _ _ k wa.1,eJ,KZ]
 rw[eJ,tW]at hj;have e0:((aY (h+1) (bN (A++[u]) sa)).ks.length:Int)=(A.length:Int)+1:=by rw[bZ];simp
 rw[<-xY,eJ,e0];rw[ePg]at us nd hf hb⊢;rw[eCl]at is;rw[eEn]at vl⊢;rw[eFl]at od⊢;have R:Rw room d S h (A++u::v::B) (sa++k::sb):=⟨sd,fun w hw=>by
  rw[<-WX []]at hw
  rcases List.mem_append.1 hw with hw|hw
  ·exact wa.2.2 w hw
  ·exact wb.2.2 w hw,us,nd,is,od,vl,by omega,.inl (by simp;omega)⟩
 have hd':depth+1<24:=by omega
 have hd2:depth+1+h<24:=by omega
 have hlen:(aY (h+1) (bN (A++u::v::B) (sa++k::sb))).ks.length=A.length+B.length+2:=by rw[bZ];simp;omega
 have hsz:bQ (h+1) (bN (A++[u]) sa)=4+bV sa∧bQ (h+1) (bN (v::B) sb)=4+bV sb:=⟨rfl,rfl⟩;have hsk:bV (sa++k::sb)=bV sa+(5+k.size+bV sb):=by rw[dL,bV]
 have hpl:(aX (A++u::v::B)).length=(aX A).length+(bj h u.2++bj h v.2).length+2+(aX B).length:=by
  rw[bD,cd,cd,cO,cO];simp only[List.length_append,List.length_cons];omega
 rw[show max ((A.length:Int)+1-1) 0=((A.length:Nat):Int) by omega,show(A.length:Int)+1+1=((A.length+2:Nat):Int) by omega];have fin:∀(f' i:Nat) (S2:Dr) (p:Int) (c:BT h) (w:KT h),f'+2>=f->Wl h c->bQ h c<=240->bQ h u.2<=bQ h c->bQ h v.2<=bQ h c->pQ S2 d (rj (p,c))->Fm room d 0 S (eU u++eU v) S2 (eU (p,c))->(cC h c).Sublist (cC h u.2++(true,k)::cC h v.2)->dW h c=dW h u.2++dW h v.2->(eU (p,c)).length+1<=(eU u++eU v).length->
   ∃n e S1,bf room d f' S2 (aY (h+1) (bN (A++(p,c)::B) (sa++sb))) depth (A.length:Int) ((A.length+2:Nat):Int)=some ((n,e),S1)∧Er room d 0 S (aX (A++u::v::B)) S1 e∧(e=0->∃c,n=aY (h+1) c∧Wl (h+1) c∧pQ S1 d (mI (h+1) c)∧Fm room d 0 S (aX (A++u::v::B)) S1 (bj (h+1) c)∧(cC (h+1) c).Sublist (dE (A++u::v::B) (sa++k::sb))∧dW (h+1) c=bO (A++u::v::B)∧bQ (h+1) (bN (A++[u]) sa)<=bQ (h+1) c∧bQ (h+1) (bN (v::B) sb)<=bQ (h+1) c∧bQ (h+1) c<=240∧(bj (h+1) c).length<=(aX (A++u::v::B)).length):=by
  intro f' i S2 p c w hf' wc zc zu zv ic F sc ec lc;obtain⟨R2,E,sf,se,sz⟩:=R.one hA hB wc zc ic F sc ec;have hk:∀j,KP (A++(p,c)::B) (sa++sb) j:=KP.meet (c:=(p,c)) hA wa.2.1 wb.2.1 zu zv;rw[iE hr R2 hk hd' f' A.length _ (by omega)];have z1:bQ (h+1) (bN (A++(p,c)::B) (sa++sb))=4+(bV sa+bV sb):=by rw[tW,dL]
  refine⟨_,0,S2,rfl,fun h0=>absurd rfl h0,fun _=>⟨bN (A++(p,c)::B) (sa++sb),rfl,?_,R2.is,E,sf,se,?_,?_,?_,?_⟩⟩
  ·rw[tX];exact⟨by simp;omega,hk,R2.wl⟩
  ·rw[z1,hsz.1];omega
  ·rw[z1,hsz.2];omega
  ·rw[z1];omega
  ·have:bj (h+1) (bN (A++(p,c)::B) (sa++sb))=aX (A++(p,c)::B):=rfl;rw[this,hpl,bD,cd];rw[cO,cO,cO]at lc;rw[cO];simp only[List.length_append,List.length_cons]at lc⊢;omega
 by_cases c1:bQ h u.2<80∧jz u k v<=240
 ·obtain⟨f,rfl⟩:∃f',f=f'+1:=⟨f-1,by omega⟩;have hlt:((A.length:Nat):Int)<min ((A.length+2:Nat):Int) (((aY (h+1) (bN (A++u::v::B) (sa++k::sb))).ks.length:Nat):Int):=by rw[hlen];omega
  have hm:min ((A.length:Nat):Int) ((((aY (h+1) (bN (A++u::v::B) (sa++k::sb))).ks.length:Nat):Int)-2)=(A.length:Int):=by rw[hlen];omega
  obtain⟨n,j,e,S2,j1,j2,j3⟩:=tY (S:=S) (f:=f) (m:=m) (i:=(A.length:Int)) hr HJ R hA hB hd2 (.inl rfl) (by simp[List.getD_eq_getElem?_getD]) c1.1 c1.2 (by omega) (hb.mono (by omega));by_cases he:e=0
  ·subst he;obtain⟨rfl,p,c,rfl,wc,zc,zu,zv,ic,F,sc,ec,lc⟩:=j3 rfl;rw[my (R.sm hr) (by omega) hlt (by rw[hm];exact j1),hm];exact fin f 0 S2 p c u (by omega) wc zc zu zv ic F sc ec lc
  ·rw[mz (R.sm hr) (by omega) hlt he (by rw[hm];exact j1)];exact⟨_,_,_,rfl,R.ya j2,fun h0=>absurd h0 he⟩
 ·by_cases c2:B=[]∧bQ h v.2<80∧jz u k v<=240
  ·obtain⟨f,rfl⟩:∃f',f=f'+2:=⟨f-2,by omega⟩;obtain⟨rfl,c2,c3⟩:=c2;have hlen:(aY (h+1) (bN (A++[u,v]) (sa++k::sb))).ks.length=A.length+2:=by rw[hlen];simp
   have hlt:((A.length:Nat):Int)<min ((A.length+2:Nat):Int) (((aY (h+1) (bN (A++[u,v]) (sa++k::sb))).ks.length:Nat):Int):=by rw[hlen];omega
   have hm:min ((A.length:Nat):Int) ((((aY (h+1) (bN (A++[u,v]) (sa++k::sb))).ks.length:Nat):Int)-2)=(A.length:Int):=by rw[hlen];omega
   have hlt2:((A.length:Nat):Int)+1<min ((A.length+2:Nat):Int) (((aY (h+1) (bN (A++[u,v]) (sa++k::sb))).ks.length:Nat):Int):=by rw[hlen];omega
   have hm2:min (((A.length:Nat):Int)+1) ((((aY (h+1) (bN (A++[u,v]) (sa++k::sb))).ks.length:Nat):Int)-2)=(A.length:Int):=by rw[hlen];omega
   have hj0:=EB (S:=S) hr R hA hd' (w:=u) (i:=(A.length:Int)) (.inl rfl) (by simp[List.getD_eq_getElem?_getD]) (fun hs=>by omega) (fun S n depth i tt=>bf room d (f+1) S n depth (max i 0) tt);rw[o0 (R.sm hr) (by omega) hlt (by rw[hm];exact hj0)];obtain⟨n,j,e,S2,j1,j2,j3⟩:=tY (S:=S) (f:=f) (m:=m) (i:=(A.length:Int)+1) (w:=v) hr HJ R hA hB hd2 (.inr rfl) (by rw[show((A.length:Int)+1).toNat=A.length+1 by omega];simp[List.getD_eq_getElem?_getD]) c2 c3 (by omega) (hb.mono (by omega));by_cases he:e=0
   ·subst he;obtain⟨rfl,p,c,rfl,wc,zc,zu,zv,ic,F,sc,ec,lc⟩:=j3 rfl;rw[my (R.sm hr) (by omega) hlt2 (by rw[hm2];exact j1),hm2];exact fin f 0 S2 p c u (by omega) wc zc zu zv ic F sc ec lc
   ·rw[mz (R.sm hr) (by omega) hlt2 he (by rw[hm2];exact j1)];exact⟨_,_,_,rfl,R.ya j2,fun h0=>absurd h0 he⟩
  ·have hk:∀j,KP (A++u::v::B) (sa++k::sb) j:=KP.glue hA wa.2.1 wb.2.1 ⟨fun hs=>by omega,fun hB0 hs=>by
    by_cases hc:jz u k v<=240
    ·exact absurd ⟨hB0,hs,hc⟩ c2
    ·omega⟩
   rw[iE hr R hk hd' f A.length _ (by omega)];refine⟨_,0,S,rfl,fun h0=>absurd rfl h0,fun _=>⟨bN (A++u::v::B) (sa++k::sb),rfl,?_,R.is,Fm.refl R.sd R.us R.nd,List.Sublist.refl _,rfl,?_,?_,?_,Nat.le_refl _⟩⟩
   ·rw[tX];exact⟨by simp;omega,hk,R.wl⟩
   ·rw[tW,tW,hsk];omega
   ·rw[tW,tW,hsk];omega
   ·rw[tW];omega
theorem Lc (hr:room<=16384):∀h,mv room d h
 |0=>PC hr
 |h+1=>PD hr (Lc hr h)
end
end P
namespace P
open N
section
variable {room:Nat}{d:Dk}{S:Dr}{h:Nat}
theorem CG {α:Type}{l:List α}{i:Nat}{x:α}(hx:l[i]? =some x):∃A B,l=A++x::B∧A.length=i:=by
 obtain⟨hi,rfl⟩:=List.getElem?_eq_some_iff.1 hx;refine⟨l.take i,l.drop (i+1),?_,by rw[List.length_take];omega⟩;rw[List.getElem_cons_drop,List.take_append_drop]
theorem EF {α:Type}{l:List α}{i:Nat}{x y:α}(hx:l[i]? =some x)(hy:l[i+1]? =some y):∃A B,l=A++x::y::B∧A.length=i:=by
 obtain⟨A,B,rfl,hA⟩:=CG hx;refine⟨A,B.drop 1,?_,hA⟩;subst hA;rw[List.getElem?_append_right (by omega),show A.length+1-A.length=1 by omega]at hy;cases B with
 |nil=>simp at hy
 |cons z B=>simp at hy;subst hy;simp
theorem o8 {K:List (KT h)}{ss:List ByteArray}{j:Nat}:KP K ss j↔(∀a b k,K[j]? =some a->K[j+1]? =some b->ss[j]? =some k->bQ h a.2<80->240<jz a k b)∧(∀i a b k,j=i+1->K.length=j+1->K[i]? =some a->K[i+1]? =some b->ss[i]? =some k->bQ h b.2<80->240<jz a k b):=by
 constructor
 ·intro H;refine⟨fun a b k h1 h2 h3 hs=>?_,fun i a b k e1 e2 h1 h2 h3 hs=>?_⟩
  ·obtain⟨A,B,rfl,hA⟩:=EF h1 h2;obtain⟨sA,sB,rfl,hS⟩:=CG h3;exact(H A a b B sA k sB rfl rfl (by omega)).1 hA.symm hs
  ·obtain⟨A,B,rfl,hA⟩:=EF h1 h2;obtain⟨sA,sB,rfl,hS⟩:=CG h3;refine(H A a b B sA k sB rfl rfl (by omega)).2 ?_ (by omega) hs;simp at e2;exact List.length_eq_zero_iff.1 (by omega)
 ·rintro⟨H1,H2⟩ A a b B sA k sB rfl rfl hA;refine⟨fun hj hs=>?_,fun hB hj hs=>?_⟩
  ·subst hj;exact H1 a b k (by simp) (by simp) (by rw[hA];simp) hs
  ·subst hj hB;exact H2 A.length a b k rfl (by simp) (by simp) (by simp) (by rw[hA];simp) hs
theorem KP.same {K K':List (KT h)}{ss ss':List ByteArray}{i j:Nat}(H:KP K ss i)(e1:K'[j]? =K[i]?)(e2:K'[j+1]? =K[i+1]?)(e3:ss'[j]? =ss[i]?)
  (e4:K'.length=j+1->∀j',j=j'+1->∃i',i=i'+1∧K.length=i+1∧K'[j']? =K[i']? ∧ss'[j']? =ss[i']?):KP K' ss' j:=by
 rw[o8]at H⊢;refine⟨fun a b k h1 h2 h3 hs=>H.1 a b k (by rw[<-e1];exact h1) (by rw[<-e2];exact h2) (by rw[<-e3];exact h3) hs,fun j' a b k r1 r2 h1 h2 h3 hs=>?_⟩;obtain⟨i',f1,f2,f3,f4⟩:=e4 r2 j' r1;subst r1 f1;exact H.2 i' a b k rfl f2 (by rw[<-f3];exact h1) (by rw[<-e1];exact h2) (by rw[<-f4];exact h3) hs
theorem KP.ahead {A R R':List (KT h)}{s t t':List ByteArray}{j:Nat}(H:KP (A++R) (s++t) j)(hj:j+1<A.length)(hs:j<s.length):KP (A++R') (s++t') j:=by
 refine KP.same H ?_ ?_ ?_ (fun hl=>?_)
 ·rw[List.getElem?_append_left (by omega),List.getElem?_append_left (by omega)]
 ·rw[List.getElem?_append_left (by omega),List.getElem?_append_left (by omega)]
 ·rw[List.getElem?_append_left (by omega),List.getElem?_append_left (by omega)]
 ·simp at hl;omega
theorem KP.behind {L L' B:List (KT h)}{t t' sB:List ByteArray}{b:Nat}(H:KP (L++B) (t++sB) (L.length+b))(hb:1<=b)(hL:t.length=L.length∨(sB=[]∧B.length<=1))(hL':t'.length=L'.length∨(sB=[]∧B.length<=1)):KP (L'++B) (t'++sB) (L'.length+b):=by
 by_cases hB:b<B.length
 ·have h1:t.length=L.length:=by rcases hL with e| ⟨_,e⟩;exact e;omega
  have h2:t'.length=L'.length:=by rcases hL' with e| ⟨_,e⟩;exact e;omega
  have g:∀c,(L'++B)[L'.length+c]? =(L++B)[L.length+c]? :=fun c=>by
   rw[List.getElem?_append_right (by omega),List.getElem?_append_right (by omega)];congr 1;omega
  have g2:∀c,(t'++sB)[L'.length+c]? =(t++sB)[L.length+c]? :=fun c=>by
   rw[List.getElem?_append_right (by omega),List.getElem?_append_right (by omega)];congr 1;omega
  refine KP.same H (g b) (g (b+1)) (g2 b) (fun hl j' e=>?_);refine⟨L.length+(b-1),by omega,by simp at hl⊢;omega,?_,?_⟩
  ·rw[<-g,show j'=L'.length+(b-1) by omega]
  ·rw[<-g2,show j'=L'.length+(b-1) by omega]
 ·rw[o8];refine⟨fun a c k h1 _ _=>?_,fun i a c k e1 e2 h1 h2=>?_⟩
  ·rw[List.getElem?_append_right (by omega),List.getElem?_eq_none (by omega)]at h1;cases h1
  ·rw[List.getElem?_append_right (by omega),List.getElem?_eq_none (by omega)]at h2;cases h2
theorem KP.grow {A B:List (KT h)}{w c:KT h}{ss:List ByteArray}{j:Nat}(H:KP (A++w::B) ss j)(hj:j≠A.length)(hz:bQ h w.2<=bQ h c.2):KP (A++c::B) ss j:=by
 have g:∀i,i≠A.length->(A++c::B)[i]? =(A++w::B)[i]? :=fun i hi=>by
  by_cases hlt:i<A.length
  ·rw[List.getElem?_append_left hlt,List.getElem?_append_left hlt]
  ·rw[List.getElem?_append_right (by omega),List.getElem?_append_right (by omega)];obtain⟨q,hq⟩:∃q,i-A.length=q+1:=⟨i-A.length-1,by omega⟩;rw[hq];simp
 have gw:(A++w::B)[A.length]? =some w:=by simp
 have gc:(A++c::B)[A.length]? =some c:=by simp
 rw[o8]at H⊢;refine⟨fun a b k h1 h2 h3 hs=>?_,fun i a b k e1 e2 h1 h2 h3 hs=>?_⟩
 ·rw[g j hj]at h1;by_cases hq:j+1=A.length
  ·rw[hq,gc]at h2;cases h2;exact Nat.lt_of_lt_of_le (H.1 a w k h1 (by rw[hq];exact gw) h3 hs) (iD (Nat.le_refl _) hz)
  ·rw[g _ hq]at h2;exact H.1 a b k h1 h2 h3 hs
 ·rw[g (i+1) (by omega)]at h2;have el:(A++w::B).length=j+1:=by simp at e2⊢;omega
  by_cases hq:i=A.length
  ·rw[hq,gc]at h1;cases h1;exact Nat.lt_of_lt_of_le (H.2 i w b k e1 el (by rw[hq];exact gw) h2 h3 hs) (iD hz (Nat.le_refl _))
  ·rw[g _ hq]at h1;exact H.2 i a b k e1 el h1 h2 h3 hs
end
end P
namespace P
open N
def OI (F G:List It):Prop:=∀X Y,bS (X++(F++Y))->bS (X++(G++Y))
theorem OI.refl (F:List It):OI F F:=fun _ _ h=>h
theorem OI.trans {F G H:List It}(h1:OI F G)(h2:OI G H):OI F H:=fun X Y h=>h2 X Y (h1 X Y h)
theorem OI.sub {F G:List It}(s:G.Sublist F):OI F G:=fun X Y h=>h.sub (List.Sublist.append (List.Sublist.refl _) (List.Sublist.append s (List.Sublist.refl _)))
theorem OI.ctx {F G:List It}(h:OI F G)(U V:List It):OI (U++(F++V)) (U++(G++V)):=fun X Y hx=>by
 have:=h (X++U) (V++Y) (by simpa using hx);simpa using this
theorem PE {F1 F2:List It}{e k:ByteArray}(hF:∀x∈F1,x.1=false):OI ((false,e)::(F1++(false,k)::F2)) ((false,e)::(F1++(true,k)::(false,k)::F2)):=fun X Y ho=>by
 have hek:bB e k=true:=by
  have h1:=(List.pairwise_append.1 ho.up).2.1;rw[List.cons_append,List.pairwise_cons]at h1;have:=h1.1 (false,k) (by simp);simpa[RI]using this
 have e1:X++((false,e)::(F1++(false,k)::F2)++Y)=(X++(false,e)::F1)++((false,k)::(F2++Y)):=by simp
 have e2:X++((false,e)::(F1++(true,k)::(false,k)::F2)++Y)=(X++(false,e)::F1)++((true,k)::(false,k)::(F2++Y)):=by simp
 rw[e1]at ho;rw[e2];obtain⟨p1,p2,p3⟩:=List.pairwise_append.1 ho.up;obtain⟨p4,p5⟩:=List.pairwise_cons.1 p2;have hlt:∀x∈X++(false,e)::F1,bB x.2 k=true:=fun x hx=>by
  have h0:=p3 x hx (false,k) (by simp);by_cases hb:x.1=true
  ·rcases List.mem_append.1 hx with hx|hx
   ·have h1:=(List.pairwise_append.1 p1).2.2 x hx (false,e) (by simp);have h2:bB e x.2=false:=by simpa[RI,hb]using h1
    by_cases he:e=x.2
    ·rw[<-he];exact hek
    ·exact cU (il h2 he) hek
   ·rcases List.mem_cons.1 hx with rfl|hx
    ·cases hb
    ·rw[hF x hx]at hb;cases hb
  ·simpa[RI,hb]using h0
 refine⟨List.pairwise_append.2 ⟨p1,List.pairwise_cons.2 ⟨fun y hy=>?_,p2⟩,fun x hx y hy=>?_⟩,fun x hx=>?_⟩
 ·rcases List.mem_cons.1 hy with rfl|hy
  ·simp[RI,dU]
  ·have:=p4 y hy;unfold RI at this⊢;by_cases hb:y.1=true
   ·simpa[hb]using this
   ·simp[hb]at this⊢;exact kO this
 ·rcases List.mem_cons.1 hy with rfl|hy
  ·simpa[RI]using hlt x hx
  ·exact p3 x hx y hy
 ·rcases List.mem_append.1 hx with hx|hx
  ·exact ho.sz x (List.mem_append_left _ hx)
  ·rcases List.mem_cons.1 hx with rfl|hx
   ·exact ho.sz (false,k) (by simp)
   ·exact ho.sz x (List.mem_append_right _ hx)
section
variable {room:Nat}{d:Dk}{S:Dr}{h:Nat}
def Ob (room:Nat)(d:Dk)(S:Dr):(h:Nat)->BT h->Prop
 |0,l=>Sd room S∧bS (cC 0 l)∧(∀x∈(show List En from l),x.2.size<=40)∧cY l<=298
 |h+1,t=>Rw room d S h t.1 t.2∧(∀j,KP t.1 t.2 j)∧bV t.2<=257
def T9 (room:Nat)(d:Dk)(S:Dr)(h:Nat)(t:BT h)(parts:List Nd)(keys:List ByteArray)(S1:Dr):Prop:=
 (parts=[]∧keys=[]∧S1=S∧bj h t=[]∧dW h t=[]∧cC h t=[])∨
 (parts=[aY h t]∧keys=[]∧S1=S∧Wl h t∧bQ h t<=240∧cF (aY h t)=true)∨
 (∃c1 c2 k,parts=[aY h c1,aY h c2]∧keys=[k]∧Wl h c1∧Wl h c2∧bQ h c1<=240∧bQ h c2<=240∧cF (aY h c1)=true∧cF (aY h c2)=true∧pQ S1 d (mI h c1++mI h c2)∧Fm room d 0 S (bj h t) S1 (bj h c1++bj h c2)∧OI (cC h t) (cC h c1++(true,k)::cC h c2)∧dW h t=dW h c1++dW h c2∧(bj h c1++bj h c2).length<=(bj h t).length)
theorem oH {x:En}(h1:x.1.size<=16)(h2:x.2.size<=40):lG x<=58:=by unfold lG;omega
theorem PF {l:List En}(hx:∀x∈l,lG x<=58)(h1:240<cY l)(h2:cY l<=298):2<=l.length∧cY (l.take (eG l))<=240∧cY (l.drop (eG l))<=240:=by
 have hl:5<=l.length:=by
  have:=kP hx;omega
 obtain⟨q1,q2,q3,q4⟩:=Bi (l:=l) (by omega);have hsum:cY (l.take (eG l))+cY (l.drop (eG l))=cY l:=by rw[<-mV,List.take_append_drop]
 have hstep:cY (l.take (eG l))=cY (l.take (eG l-1))+lG l[eG l-1]! :=by
  have:=mW (l:=l) (i:=eG l-1) (by omega)
  rwa [show eG l-1+1=eG l by omega]at this
 have he:lG l[eG l-1]! <=58:=by
  rw[getElem!_pos l (eG l-1) (by omega)];exact hx _ (List.getElem_mem _)
 refine⟨by omega,?_,?_⟩
 ·rcases q4 with q4|q4
  ·have h0:l.take (eG l-1)=[]:=by rw[q4];rfl
   rw[h0]at hstep;have h1:cY ([]:List En)=0:=rfl;omega
  ·omega
 ·rcases q3 with q3|q3
  ·omega
  ·have:(l.drop (eG l)).length=1:=by rw[List.length_drop];omega
   have:=kP (l:=l.drop (eG l)) (b:=58) (fun x hx'=>hx x (List.mem_of_mem_drop hx'));omega
theorem Ld (hr:room<=16384)(l:List En)(ho:Ob room d S 0 l)(depth:Int){f:Nat}(hf:1<=f):
  ∃parts keys,bY (bn room d f) S (aY 0 l) depth=some ((parts,keys,0),S)∧T9 room d S 0 l parts keys S:=by
 obtain⟨sd,od,vl,sz⟩:=ho;have od':bS (l.map fun(x:En)=>((false,x.1):It)):=od;have hrt:=oc l od vl;unfold bY;by_cases h0:l=[]
 ·subst h0;exact⟨[],[],by simp[aY],.inl ⟨rfl,rfl,rfl,rfl,rfl,rfl⟩⟩
 ·rw[if_neg (by simp[aY,h0]),if_neg (by rw[ll l (Nat.le_trans (show bQ 0 l<=298 from sz) (by omega))];simp),if_neg (by rw[hrt];simp)];by_cases hfi:cF (aY 0 l)=true
  ·rw[if_pos hfi];refine⟨_,_,rfl,.inr (.inl ⟨rfl,rfl,rfl,h0,?_,hfi⟩)⟩;unfold cF at hfi;rw[Bool.and_eq_true,decide_eq_true_eq]at hfi;exact hfi.2
  ·rw[if_neg hfi];have hbig:240<cY l:=by
    by_cases hc:cY l<=240
    ·exfalso;apply hfi;unfold cF;rw[hrt,Bool.true_and];exact decide_eq_true hc
    ·omega
   have hx:∀x∈l,lG x<=58:=fun x hx=>oH (od'.sz (false,x.1) (List.mem_map_of_mem (f:=fun(x:En)=>((false,x.1):It)) hx)).2 (vl x hx);obtain⟨g1,g2,g3⟩:=PF hx hbig sz;obtain⟨q1,q2,_,_⟩:=Bi g1;have hen:zC (aY 0 l)=true:=by
    unfold zC;rw[hrt,Bool.true_and,Bool.or_eq_true];exact .inl (decide_eq_true g1)
   have eA:sA (aY 0 l)=aY 0 (l.take (eG l)):=by unfold sA;rw[if_pos hen];rfl
   have eB:sB (aY 0 l)=aY 0 (l.drop (eG l)):=by unfold sB;rw[if_pos hen];rfl
   have eM:sM (aY 0 l)=l[eG l]!.1:=by unfold sM;rw[if_pos hen];rfl
   have oA:bS (cC 0 (l.take (eG l))):=od.sub (by
    show(List.map _ (l.take (eG l))).Sublist (List.map _ l)
    exact(List.take_sublist _ _).map _)
   have oB:bS (cC 0 (l.drop (eG l))):=od.sub (by
    show(List.map _ (l.drop (eG l))).Sublist (List.map _ l)
    exact(List.drop_sublist _ _).map _)
   have fA:cF (aY 0 (l.take (eG l)))=true:=by
    unfold cF;rw[oc _ oA (fun x hx=>vl x (List.mem_of_mem_take hx)),Bool.true_and];exact decide_eq_true g2
   have fB:cF (aY 0 (l.drop (eG l)))=true:=by
    unfold cF;rw[oc _ oB (fun x hx=>vl x (List.mem_of_mem_drop hx)),Bool.true_and];exact decide_eq_true g3
   obtain⟨f,rfl⟩:∃f',f=f'+1:=⟨f-1,by omega⟩;have hst:bn room d (f+1) S (aY 0 (l.take (eG l))) depth (((aY 0 (l.take (eG l))).ks.length:Int)-1) ((aY 0 (l.take (eG l))).ks.length:Int)=some ((aY 0 (l.take (eG l)),0),S):=
    jM (ll _ (Nat.le_trans (show bQ 0 _<=240 from g2) (by omega))) (by simp[aY];omega) (by simp[aY];omega)
   rw[eA,eB,eM,hst];simp only[fA,fB];refine⟨_,_,by simp,.inr (.inr ⟨l.take (eG l),l.drop (eG l),l[eG l]!.1,rfl,rfl,?_,?_,g2,g3,fA,fB,?_,?_,?_,?_,Nat.le_refl _⟩)⟩
   ·show l.take (eG l)≠[];intro hc;have:=congrArg List.length hc;rw[List.length_take,List.length_nil]at this;omega
   ·show l.drop (eG l)≠[];intro hc;have:=congrArg List.length hc;rw[List.length_drop,List.length_nil]at this;omega
   ·intro x hx;cases hx
   ·exact Fm.refl sd (fun p hp=>by cases hp) List.nodup_nil
   ·obtain⟨e,l1,r1,_⟩:=ew (l:=l.take (eG l)) (n:=eG l-1) (by rw[List.length_take];omega);have r2:l.drop (eG l)=l[eG l]! ::l.drop (eG l+1):=by
     rw[getElem!_pos l (eG l) q2,List.getElem_cons_drop]
    have r3:l=e::(l1++l[eG l]! ::l.drop (eG l+1)):=by
     rw[<-r2,<-List.cons_append,<-r1,List.take_append_drop]
    have k1:cC 0 l=(false,e.1)::(l1.map (fun(x:En)=>((false,x.1):It))++(false,l[eG l]!.1)::(l.drop (eG l+1)).map (fun(x:En)=>((false,x.1):It))):=by
     show List.map (fun(x:En)=>((false,x.1):It)) l=_
     conv=>lhs;rw[r3]
     simp
    have k2:cC 0 (l.take (eG l))=(false,e.1)::l1.map (fun(x:En)=>((false,x.1):It)):=by
     show List.map (fun(x:En)=>((false,x.1):It)) (l.take (eG l))=_;rw[r1];simp
    have k3:cC 0 (l.drop (eG l))=(false,l[eG l]!.1)::(l.drop (eG l+1)).map (fun(x:En)=>((false,x.1):It)):=by
     show List.map (fun(x:En)=>((false,x.1):It)) (l.drop (eG l))=_;rw[r2];simp
    rw[k1,k2,k3];have:=PE (F1:=l1.map (fun(x:En)=>((false,x.1):It))) (F2:=(l.drop (eG l+1)).map (fun(x:En)=>((false,x.1):It))) (e:=e.1) (k:=l[eG l]!.1) (fun x hx=>by
     obtain⟨y,_,rfl⟩:=List.mem_map.1 hx
     rfl)
    simpa using this
   ·show l=l.take (eG l)++l.drop (eG l);rw[List.take_append_drop]
theorem EG {l:List ByteArray}(hlt:∀s∈l,1<=s.size):6*l.length<=bV l:=by
 induction l with
 |nil=>simp
 |cons x l ih=>
  have h1:=hlt x (List.mem_cons_self ..);have h2:=ih fun y hy=>hlt y (List.mem_cons_of_mem _ hy);simp only[bV,List.length_cons];omega
theorem Rw.part {A B:List (KT h)}{sA sB:List ByteArray}{k:ByteArray}(R:Rw room d S h (A++B) (sA++k::sB))(hA:sA.length+1=A.length)(hB:sB.length+1=B.length):
  Rw room d S h A sA∧Rw room d S h B sB∧dE (A++B) (sA++k::sB)=dE A sA++(true,k)::dE B sB:=by
 have eF:dE (A++B) (sA++k::sB)=dE A sA++(true,k)::dE B sB:=xZ (bN A sA) (bN B sB) k hA;have od:=R.od;rw[eF]at od;have hsz:bV (sA++k::sB)=bV sA+(5+k.size+bV sB):=by rw[dL,bV]
 have:=R.sz;refine⟨⟨R.sd,fun u hu=>R.wl u (by simp[hu]),fun p hp=>R.us p (by rw[bD];simp[hp]),?_,fun x hx=>R.is x (by rw[dP];simp[hx]),od.sub (List.sublist_append_left _ _),fun x hx=>R.vl x (by rw[cL];simp[hx]),by omega,.inl hA⟩,
  ⟨R.sd,fun u hu=>R.wl u (by simp[hu]),fun p hp=>R.us p (by rw[bD];simp[hp]),?_,fun x hx=>R.is x (by rw[dP];simp[hx]),od.sub (List.Sublist.trans (List.sublist_cons_self _ _) (List.sublist_append_right _ _)),fun x hx=>R.vl x (by rw[cL];simp[hx]),by omega,.inl hB⟩,eF⟩
 ·have:=R.nd;rw[bD]at this;exact(List.nodup_append.1 this).1
 ·have:=R.nd;rw[bD]at this;exact(List.nodup_append.1 this).2.1
theorem Gy (hr:room<=16384)(HJ:mv room d h)(K:List (KT h))(ss:List ByteArray)(ho:Ob room d S (h+1) (bN K ss)){depth:Int}(hd:depth+1+h<24){f m:Nat}(hf:3*(aX K).length+2<=f)(hb:Bd S ((aX K).length+2+m)):
  ∃parts keys e S1,bY (bn room d f) S (aY (h+1) (bN K ss)) depth=some ((parts,keys,e),S1)∧Er room d 0 S (aX K) S1 e∧(e=0->T9 room d S (h+1) (bN K ss) parts keys S1):=by
 obtain⟨R,hk,hz⟩:=ho;have R:Rw room d S h K ss:=R;have hk:∀j,KP K ss j:=hk;have hz:bV ss<=257:=hz;unfold bY;by_cases h0:K=[]
 ·subst h0;have hs:ss=[]:=by
   rcases R.ln with e| ⟨_,e⟩
   ·simp at e
   ·exact e
  subst hs;exact⟨[],[],0,S,by simp[bZ],fun hc=>absurd rfl hc,fun _=>.inl ⟨rfl,rfl,rfl,rfl,rfl,rfl⟩⟩
 ·have hl:ss.length+1=K.length:=by
   rcases R.ln with e| ⟨e,_⟩
   ·exact e
   ·exact absurd e h0
  have hrt:=ji hr R.sd K ss hl R.us R.od;rw[if_neg (by simp[bZ,h0]),if_neg (by rw[R.sm hr];simp),if_neg (by rw[hrt];simp)];by_cases hfi:cF (aY (h+1) (bN K ss))=true
  ·rw[if_pos hfi];refine⟨_,_,0,_,rfl,fun hc=>absurd rfl hc,fun _=>.inr (.inl ⟨rfl,rfl,rfl,?_,?_,hfi⟩)⟩
   ·rw[tX];exact⟨hl,hk,R.wl⟩
   ·unfold cF at hfi;rw[Bool.and_eq_true,decide_eq_true_eq]at hfi;exact hfi.2
  ·rw[if_neg hfi];have hbig:240<4+bV ss:=by
    by_cases hc:4+bV ss<=240
    ·exfalso;apply hfi;unfold cF;rw[hrt,Bool.true_and];exact decide_eq_true hc
    ·omega
   have Tg:∀s∈ss,1<=s.size∧s.size<=16:=fun s hs=>xi ((fK (n:=aY (h+1) (bN K ss)) rfl).1 hrt).2.2.2.2 hs;have hn:12<=ss.length:=by
    have:=vu (l:=ss) (b:=16) (fun s hs=>(Tg s hs).2);omega
   obtain⟨q,hq⟩:∃q,q=K.length/2:=⟨_,rfl⟩;obtain⟨k,sb,r3,l3⟩:=ew (l:=ss.drop (q-1)) (n:=ss.length-q) (by rw[List.length_drop];omega);have hss:ss=ss.take (q-1)++k::sb:=by rw[<-r3,List.take_append_drop]
   have hK:K=K.take q++K.drop q:=(List.take_append_drop q K).symm;have lA:(K.take q).length=q:=by rw[List.length_take];omega
   have lB:(K.drop q).length=K.length-q:=List.length_drop ..;have la:(ss.take (q-1)).length=q-1:=by rw[List.length_take];omega
   have hM:ss[q-1]! =k:=by
    conv=>lhs;rw[hss]
    rw[getElem!_pos _ _ (by simp;omega),List.getElem_append_right (by omega)];simp[la]
   have hD:ss.drop q=sb:=by
    have:=congrArg (List.drop 1) r3;rw[List.drop_drop,show q-1+1=q by omega]at this;simpa using this
   have hen:zC (aY (h+1) (bN K ss))=true:=by
    unfold zC;rw[hrt,Bool.true_and,Bool.or_eq_true];refine .inr (decide_eq_true ?_);rw[bZ];simp;omega
   have hsp:I4 (aY (h+1) (bN K ss))=q:=by rw[bZ];simp[I4,hq]
   have eA:sA (aY (h+1) (bN K ss))=aY (h+1) (bN (K.take q) (ss.take (q-1))):=by
    unfold sA;rw[if_pos hen];unfold XK;rw[hsp];simp[bZ,List.map_take]
   have eB:sB (aY (h+1) (bN K ss))=aY (h+1) (bN (K.drop q) sb):=by
    unfold sB;rw[if_pos hen];unfold YV;rw[hsp];simp[bZ,List.map_drop,hD]
   have eM:sM (aY (h+1) (bN K ss))=k:=by
    unfold sM;rw[if_pos hen];have:YW (aY (h+1) (bN K ss))=ss[I4 (aY (h+1) (bN K ss))-1]! :=rfl;rw[this,hsp];exact hM
   rw[eA,eB,eM];generalize K.take q=A at*;generalize K.drop q=B at*;generalize ss.take (q-1)=sa at*;subst hss hK;simp only[List.length_append,List.length_cons]at*;have lb2:sb.length+1=B.length:=by omega
   obtain⟨RA,RB,eF⟩:=R.part (by omega) lb2;have aaB:bV (sa++k::sb)=bV sa+(5+k.size+bV sb):=by rw[dL,bV]
   have z1:=EG (l:=sa) (fun s hs=>(Tg s (by simp[hs])).1);have z2:=EG (l:=sb) (fun s hs=>(Tg s (by simp[hs])).1);have z3:=(Tg k (by simp)).1;have aae:(aX (A++B)).length=(aX A).length+(aX B).length:=by rw[bD,List.length_append]
   have e0:((aY (h+1) (bN A sa)).ks.length:Int)=(A.length:Int):=by rw[bZ];simp
   obtain⟨n,e,S1,t1,t2,t3⟩:=ib (m:=m) hr HJ hd f S A sa (A.length-1) A.length RA (fun j hj=>by
     have:=KP.ahead (R':=[]) (t':=[]) (hk j) (A:=A) (s:=sa) (by omega) (by omega)
     simpa using this) (fun j hj=>by
     rw[o8]
     refine⟨fun a b k h1=>?_,fun i a b k e1 e2=>by omega⟩
     rw[List.getElem?_eq_none (by omega)]at h1
     cases h1) (by omega) (hb.mono (by omega))
   have t1':bn room d f S (aY (h+1) (bN A sa)) depth (((aY (h+1) (bN A sa)).ks.length:Int)-1) ((aY (h+1) (bN A sa)).ks.length:Int)=some ((n,e),S1):=by
    rw[e0];unfold bn;rw[show max ((A.length:Int)-1) 0=((A.length-1:Nat):Int) by omega];exact t1
   rw[t1'];simp only;by_cases he:e=0
   ·subst he;obtain⟨K',ss',rfl,R2,k2,F2,sf,se,sz,hne,hlp⟩:=t3 rfl;have Gz:=R.nd;rw[bD]at Gz;have E:=F2.ext (Y:=aX B) RB.us Gz;have lk:ss'.length+1=K'.length:=by
     rcases R2.ln with e| ⟨e,_⟩
     ·exact e
     ·have:=hne e;rw[this]at lA;simp at lA;omega
    have fA:cF (aY (h+1) (bN K' ss'))=true:=by
     unfold cF;rw[ji hr R2.sd K' ss' lk R2.us R2.od,Bool.true_and];exact decide_eq_true (show 4+bV ss'<=240 by omega)
    have fB:cF (aY (h+1) (bN B sb))=true:=by
     unfold cF;rw[ji hr RB.sd B sb lb2 RB.us RB.od,Bool.true_and];exact decide_eq_true (show 4+bV sb<=240 by omega)
    rw[if_neg (by simp),fA,fB,if_pos (by simp)];refine⟨_,_,0,S1,rfl,fun hc=>absurd rfl hc,fun _=>.inr (.inr ⟨bN K' ss',bN B sb,k,rfl,rfl,?_,?_,?_,?_,fA,fB,?_,?_,?_,?_,?_⟩)⟩
    ·rw[tX];exact⟨lk,k2,R2.wl⟩
    ·rw[tX];refine⟨lb2,fun j=>?_,RB.wl⟩;by_cases hj:j=0
     ·subst hj;refine KP.same (hk A.length) ?_ ?_ ?_ (fun _ j' e=>by omega)
      ·rw[List.getElem?_append_right (by omega)];simp
      ·rw[List.getElem?_append_right (by omega)];simp
      ·rw[show A.length=sa.length+1 by omega,List.getElem?_append_right (by omega)];simp
     ·have:=KP.behind (L':=[]) (t':=[]) (L:=A) (t:=sa++[k]) (B:=B) (sB:=sb) (b:=j) (by simpa using hk (A.length+j)) (by omega) (.inl (by simp;omega)) (.inl rfl);simpa using this
    ·show 4+bV ss'<=240;omega
    ·show 4+bV sb<=240;omega
    ·intro x hx;rcases List.mem_append.1 hx with hx|hx
     ·exact R2.is x hx
     ·exact F2.Py RB.is RB.us (fun p hp hc=>(List.nodup_append.1 Gz).2.2 p hc p hp rfl) x hx
    ·show Fm room d 0 S (aX (A++B)) S1 (aX K'++aX B);rw[bD];exact E
    ·show OI (dE (A++B) (sa++k::sb)) (dE K' ss'++(true,k)::dE B sb);rw[eF];exact OI.sub (List.Sublist.append sf (List.Sublist.refl _))
    ·show bO (A++B)=bO K'++bO B;rw[cL,se]
    ·show(aX K'++aX B).length<=(aX (A++B)).length;rw[aae,List.length_append];omega
   ·rw[if_pos he];refine⟨_,_,e,_,rfl,?_,fun hc=>absurd hc he⟩;have Gz:=R.nd;rw[bD]at Gz⊢;exact t2.ext RB.us Gz
end
end P
namespace P
open N
section
variable {room:Nat}{d:Dk}{S S2:Dr}{h:Nat}{A B M:List (KT h)}{sA sB fS:List ByteArray}{w:KT h}
theorem Ua (hr:room<=16384)(HJ:∀h,mv room d h)(t:BT h)(ho:Ob room d S h t){depth:Int}(hd:depth+h<24){f m:Nat}(hf:3*(bj h t).length+2<=f)(hb:Bd S ((bj h t).length+2+m)):
  ∃parts keys e S1,bY (bn room d f) S (aY h t) depth=some ((parts,keys,e),S1)∧Er room d 0 S (bj h t) S1 e∧(e=0->T9 room d S h t parts keys S1):=by
 cases h with
 |zero=>
  obtain⟨parts,keys,h1,h2⟩:=Ld hr t ho depth (f:=f) (by omega);exact⟨parts,keys,0,S,h1,fun hc=>absurd rfl hc,fun _=>h2⟩
 |succ h=>
  obtain⟨K,ss,rfl⟩:=gV t;exact Gy hr (HJ h) K ss ho (by omega) hf hb
structure Ctx (room:Nat)(d:Dk)(S:Dr)(h:Nat)(A:List (KT h))(sA:List ByteArray)(B:List (KT h))(sB:List ByteArray):Prop where
 hA:A.length=sA.length
 hB:B.length=sB.length
 wl:∀u∈A++B,Wl h u.2∧bQ h u.2<=240
 us:∀q∈aX A++aX B,Us S q
 is:pQ S d (iz A++iz B)
 vl:∀x∈bO A++bO B,x.2.size<=40
theorem Ctx.row (C:Ctx room d S h A sA B sB){c:Nat}{X:List Int}(F:Fm room d c S X S2 (aX M))(nd:(X++(aX A++aX B)).Nodup)(is:pQ S2 d (iz M))(wl:∀u∈M,Wl h u.2∧bQ h u.2<=240)(od:bS (dE (A++(M++B)) fS))(vl:∀x∈bO M,x.2.size<=40)(sz:bV fS<=1000)(ln:fS.length+1=(A++(M++B)).length∨(A++(M++B)=[]∧fS=[])):
  Rw room d S2 h (A++(M++B)) fS∧Fm room d c S (X++(aX A++aX B)) S2 (aX (A++(M++B))):=by
 have q:(aX M++(aX A++aX B)).Perm (aX (A++(M++B))):=by
  rw[bD,bD,<-List.append_assoc,<-List.append_assoc];exact List.Perm.append_right _ List.perm_append_comm
 have E:=(F.ext C.us nd).perm (List.Perm.refl _) q;have hne:∀q∈aX A++aX B,q∉X:=fun q hq hc=>(List.nodup_append.1 nd).2.2 q hc q hq rfl;have WW:pQ S2 d (iz A++iz B):=F.Py C.is (by rw[List.map_append];exact C.us) (by rw[List.map_append];exact hne);refine⟨⟨F.ok,fun u hu=>?_,E.us,E.nd,fun x hx=>?_,od,fun x hx=>?_,sz,ln⟩,E⟩
 ·simp only[List.mem_append]at hu;rcases hu with hu|hu|hu
  ·exact C.wl u (by simp[hu])
  ·exact wl u hu
  ·exact C.wl u (by simp[hu])
 ·rw[dP,dP]at hx;simp only[List.mem_append]at hx;rcases hx with hx|hx|hx
  ·exact WW x (by simp[hx])
  ·exact is x hx
  ·exact WW x (by simp[hx])
 ·rw[cL,cL]at hx;simp only[List.mem_append]at hx;rcases hx with hx|hx|hx
  ·exact C.vl x (by simp[hx])
  ·exact vl x hx
  ·exact C.vl x (by simp[hx])
theorem Ub (hA:A.length=sA.length)(hk:∀j,KP (A++w::B) (sA++sB) j)(R':List (KT h))(t':List ByteArray){j:Nat}(hj:j+1<A.length):KP (A++R') (sA.take (A.length-1)++t') j:=by
 have e:sA++sB=sA.take (A.length-1)++(sA.drop (A.length-1)++sB):=by rw[<-List.append_assoc,List.take_append_drop]
 have:=hk j;rw[e]at this;exact this.ahead hj (by rw[List.length_take];omega)
theorem Uc (hA:A.length=sA.length){y:KT h}{B':List (KT h)}{s1:ByteArray}{mq:List ByteArray}(hk:∀j,KP (A++w::y::B') (sA++s1::mq) j)(L':List (KT h))(t':List ByteArray)(hl:t'.length=L'.length){b:Nat}(hb:1<=b):KP (L'++y::B') (t'++mq) (L'.length+b):=by
 have:=hk ((A++[w]).length+b);rw[show A++w::y::B'=(A++[w])++y::B' by simp,show sA++s1::mq=(sA++[s1])++mq by simp]at this;exact this.behind hb (.inl (by simp;omega)) (.inl hl)
theorem PG {K:List (KT h)}{ss:List ByteArray}{j:Nat}(hj:K.length<=j):KP K ss j:=by
 rw[o8];refine⟨fun a b k h1=>?_,fun i a b k e1 e2=>by omega⟩;rw[List.getElem?_eq_none hj]at h1;cases h1
theorem yc (hA:A.length=sA.length)(hB:B.length=sB.length)(ks:List Int)(keys:List ByteArray)(hl:(keys.length:Int)=max ((ks.length:Int)-1) 0):
  gG (aY (h+1) (bN (A++w::B) (sA++sB))) (A.length:Int) ((A.length:Int)+1) ks keys=⟨false,[],A.map Prod.fst++ks++B.map Prod.fst,iJ (sA++sB) (vB A.length ks) (vC A.length (A.length+1) ks) keys⟩:=by
 have e1:((A.length:Int)+1).toNat=A.length+1:=by omega
 have e2:((A.length:Int)).toNat=A.length:=by omega
 rw[bZ,gG,if_pos]
 ·rw[e1,e2];have f1:iJ ((A++w::B).map Prod.fst) A.length (A.length+1) ks=A.map Prod.fst++ks++B.map Prod.fst:=by
   unfold iJ;rw[List.map_append,List.take_append_of_le_length (by simp),List.drop_append];simp[List.take_of_length_le]
  rw[f1]
 ·simp only[swB,Bool.and_eq_true,decide_eq_true_eq,Bool.not_eq_true',List.length_map,List.length_append,List.length_cons];exact⟨by omega,by omega,by omega,hl,trivial⟩
theorem Ud (hA:A.length=sA.length)(p:Int):iJ (sA++sB) (vB A.length [p]) (vC A.length (A.length+1) [p]) []=sA++sB:=by
 simp[iJ,vB,vC]
theorem Ue (hA:A.length=sA.length)(p q:Int)(k:ByteArray):iJ (sA++sB) (vB A.length [p,q]) (vC A.length (A.length+1) [p,q]) [k]=sA++k::sB:=by
 simp[iJ,vB,vC,hA]
theorem Uf (hA:A.length=sA.length)(h0:A≠[]):iJ (sA++sB) (vB A.length []) (vC A.length (A.length+1) []) []=sA.take (A.length-1)++sB:=by
 have h1:0<A.length:=List.length_pos_iff.2 h0;have e1:vB A.length []=A.length-1:=by simp[vB]
 have e2:vC A.length (A.length+1) []=A.length:=by unfold vC;rw[if_neg (by simp),if_pos h1];omega
 rw[e1,e2,iJ,List.append_nil,List.take_append_of_le_length (by omega),hA,List.drop_left]
theorem PH:iJ ([]++sB) (vB 0 []) (vC 0 (0+1) []) []=sB.drop 1:=by
 simp[iJ,vB,vC]
end
end P
namespace P
open N
def pX (p:Int):List Int:=if p=0 then []else [p]
def P0 (S:Dr)(p:Int):Prop:=p=0∨Us S p
section
variable {room:Nat}{d:Dk}{S S2:Dr}{h:Nat}{A B M:List (KT h)}{sA sB fS:List ByteArray}{w:KT h}
theorem WY (ok:Sd room S):S.may 0=false:=by
 cases hm:S.may 0 with
 |false=>rfl
 |true=>
  have:=ok.x.fs 0 ((dQ S 0).1 hm).1;omega
theorem Az {p:Int}(hp:P0 S p):∀q∈pX p,Us S q:=fun q hq=>by
 unfold pX at hq;split at hq
 ·cases hq
 ·rename_i h0
  rw[List.mem_singleton.1 hq];rcases hp with e|e
  ·exact absurd e h0
  ·exact e
theorem ye (ok:Sd room S){p:Int}(hp:P0 S p){n:Nd}(hf:cF n=true){m:Nat}(hb:Bd S m):
  ∃q e S',S.put room p n=some ((q,e),S')∧Er room d 0 S (pX p) S' e∧(e=0->Fm room d 2 S (pX p) S' [q]∧S'.vw d q=(n,0)):=by
 obtain⟨q,e,S',h1,h2,h3⟩:=Cy (d:=d) ok (id:=p) (X:=pX p) (by
  unfold pX
  by_cases h0:p=0
  ·subst h0
   exact .inl ⟨by simp,WY ok⟩
  ·rw[if_neg h0]
   rcases hp with e|e
   ·exact absurd e h0
   ·exact .inr ⟨rfl,e⟩) hf hb
 exact⟨q,e,S',h1,h2,fun he=>⟨(h3 he).1,(h3 he).2.1⟩⟩
theorem PI (ok:Sd room S){p:Int}(hp:P0 S p):Fm room d 0 S (pX p) (S.drop p) []:=by
 unfold pX;by_cases h0:p=0
 ·subst h0;have e:S.drop 0=S:=by unfold Dr.drop;rw[if_neg (by rw[WY ok];simp)]
  rw[e];simp only[if_true];exact Fm.refl ok (fun _ hc=>by cases hc) List.nodup_nil
 ·rw[if_neg h0];rcases hp with e|e
  ·exact absurd e h0
  ·exact ru ok e
theorem Ob.facts {t:BT h}(ho:Ob room d S h t):Sd room S∧(∀p∈bj h t,Us S p)∧(bj h t).Nodup∧pQ S d (mI h t)∧(∀x∈dW h t,x.2.size<=40):=by
 cases h with
 |zero=>exact⟨ho.1,(fun _ hc=>by cases hc),List.nodup_nil,(fun _ hc=>by cases hc),ho.2.2.1⟩
 |succ h=>exact⟨ho.1.sd,ho.1.us,ho.1.nd,ho.1.is,ho.1.vl⟩
structure PlR (room:Nat)(d:Dk)(c:Nat)(S:Dr)(X:List Int)(F:List It)(E:List En)(z:Nat)(n:Nd)(S':Dr)(h:Nat)(K':List (KT h))(ss':List ByteArray):Prop where
 n:n=aY (h+1) (bN K' ss')
 rw:Rw room d S' h K' ss'
 kp:∀j,KP K' ss' j
 fm:Fm room d c S X S' (aX K')
 oi:OI F (dE K' ss')
 en:bO K'=E
 sz:bV ss'<=z
 ln:(aX K').length<=X.length+2
theorem jk (hr:room<=16384)(HJ:mv room d h){depth:Int}(hd:depth+1+h<24){f m c:Nat}{K:List (KT h)}{ss:List ByteArray}(R:Rw room d S2 h K ss){i tt:Int}{a b:Nat}(ha:max i 0=(a:Int))(hb':tt=(b:Int))
  (k1:∀j,j<a->KP K ss j)(k2:∀j,b<=j->KP K ss j){X:List Int}(F:Fm room d c S X S2 (aX K))(hc:c<=4){G:List It}(oi:OI G (dE K ss)){E:List En}(en:bO K=E){z:Nat}(hz:bV ss<=z)(hl:(aX K).length<=X.length+2)(hab:b<=a+4)(hf:3*(X.length+2)+5<=f)(hb:Bd S (X.length+6+m)):
  ∃n e S',bn room d f S2 (aY (h+1) (bN K ss)) depth i tt=some ((n,e),S')∧Er room d 4 S X S' e∧(e=0->∃K' ss',PlR room d 4 S X G E z n S' h K' ss'):=by
 obtain⟨n,e,S',t1,t2,t3⟩:=ib (m:=m) hr HJ hd f S2 K ss a b R k1 k2 (by omega) (F.bd hb (by omega));refine⟨n,e,S',?_,(F.er t2).mono (by omega),fun he=>?_⟩
 ·unfold bn;rw[ha,hb'];exact t1
 ·obtain⟨K',ss',r1,r2,r3,r4,r5,r6,r7,r8,r9⟩:=t3 he;exact⟨K',ss',r1,r2,r3,(F.trans r4).mono (by omega),oi.trans (OI.sub r5),r6.trans en,Nat.le_trans r7 hz,Nat.le_trans r9 hl⟩
theorem CI (hr:room<=16384)(ok:Sd room S)(K:List (KT h))(ss:List ByteArray)(hl:K.length<=ss.length+1)(hs:bV ss<=1000)(us:∀u∈K,P0 S u.1):cB (aY (h+1) (bN K ss))=true:=by
 have h1:5*ss.length<=bV ss:=kZ;rw[bZ];simp only[cB,Bool.and_eq_true,decide_eq_true_eq,cY,List.all_eq_true,List.length_nil,List.length_map];refine⟨⟨⟨⟨⟨?_,?_⟩,?_⟩,?_⟩,?_⟩,fun k hk=>?_⟩
 iterate 5 (first|omega|rfl)
 obtain⟨u,hu,rfl⟩:=List.mem_map.1 hk;rcases us u hu with e|hp
 ·omega
 ·have h1:=hp.lo;have h2:=hp.hi;have h3:=ok.x.pr;omega
theorem vV (C:Ctx room d S h A sA B sB)(hp:P0 S w.1)(t:BT h)(ho:Ob room d S h t)(hnd:(pX w.1++bj h t++(aX A++aX B)).Nodup)(hod:bS (dE A sA++(cC h t++kG (B.map fun u=>cC h u.2) sB)))(hsz:bV (sA++sB)<=1000)(wt:Wl h t)(zt:bQ h t<=240){q:Int}(F:Fm room d 2 S (pX w.1) S2 [q])(hv:S2.vw d q=(aY h t,0)):
  Rw room d S2 h (A++([(q,t)]++B)) (sA++sB)∧Fm room d 2 S (pX w.1++bj h t++(aX A++aX B)) S2 (aX (A++([(q,t)]++B))):=by
 obtain⟨sd,us,nd,is,vl⟩:=ho.facts;obtain⟨n1,n2,n3⟩:=List.nodup_append.1 hnd;obtain⟨n4,n5,n6⟩:=List.nodup_append.1 n1;have F2:Fm room d 2 S (pX w.1++bj h t) S2 (aX [(q,t)]):=by
  have:=F.ext us n1;have e:aX [(q,t)]=[q]++bj h t:=by rw[cd,cO];simp[aX,iz]
  rw[e];exact this
 refine C.row F2 hnd ?_ (fun u hu=>by rw[List.mem_singleton.1 hu];exact⟨wt,zt⟩) ?_ (fun x hx=>vl x (by simpa[bO]using hx)) hsz (.inl (by have:=C.hA;have:=C.hB;simp;omega))
 ·intro x hx;have hx':x∈rj (q,t):=by simpa[iz]using hx
  rcases List.mem_cons.1 hx' with rfl|hx'
  ·exact hv
  ·exact F.Py is us (fun p hp hc=>n6 p hc p hp rfl) x hx'
 ·show bS (dE (A++(q,t)::B) (sA++sB));rw[fG C.hA];exact hod
end
end P
namespace P
open N
section
variable {room:Nat}{d:Dk}{S S1 S2 S3:Dr}{h:Nat}{A B M:List (KT h)}{sA sB fS:List ByteArray}{w:KT h}
theorem GA (C:Ctx room d S h A sA B sB)(hp:P0 S w.1)(t c1 c2:BT h){k:ByteArray}(hnd:(pX w.1++bj h t++(aX A++aX B)).Nodup)(hod:bS (dE A sA++((cC h c1++(true,k)::cC h c2)++kG (B.map fun u=>cC h u.2) sB)))(hsz:bV (sA++k::sB)<=1000)
    (w1:Wl h c1∧bQ h c1<=240)(w2:Wl h c2∧bQ h c2<=240)(vl:∀x∈dW h c1++dW h c2,x.2.size<=40)(is:pQ S1 d (mI h c1++mI h c2))(F0:Fm room d 0 S (bj h t) S1 (bj h c1++bj h c2)){q1 q2:Int}(F1:Fm room d 2 S1 (pX w.1) S2 [q1])(v1:S2.vw d q1=(aY h c1,0))(F2:Fm room d 2 S2 [] S3 [q2])(v2:S3.vw d q2=(aY h c2,0)):
    Rw room d S3 h (A++([(q1,c1),(q2,c2)]++B)) (sA++k::sB)∧Fm room d 4 S (pX w.1++bj h t++(aX A++aX B)) S3 (aX (A++([(q1,c1),(q2,c2)]++B))):=by
  obtain⟨n1,n2,n3⟩:=List.nodup_append.1 hnd;have G0:=F0.ext (Y:=pX w.1) (Az hp) (List.perm_append_comm.nodup_iff.1 n1);have PB:(pX w.1++(bj h c1++bj h c2)).Nodup:=List.perm_append_comm.nodup_iff.1 G0.nd;have G1:=F1.ext (Y:=bj h c1++bj h c2) F0.us PB;have G2:=F2.ext (Y:=[q1]++(bj h c1++bj h c2)) G1.us G1.nd;have eM:aX [(q1,c1),(q2,c2)]=q1::(bj h c1++q2::bj h c2):=by rw[cd,cd,cO,cO];simp[aX,iz]
  have pM:([q2]++([q1]++(bj h c1++bj h c2))).Perm (aX [(q1,c1),(q2,c2)]):=by
    rw[eM];show(q2::q1::(bj h c1++bj h c2)).Perm (q1::(bj h c1++q2::bj h c2));exact(List.Perm.swap q1 q2 _).trans (List.Perm.cons _ List.perm_middle.symm)
  have F:Fm room d 4 S (pX w.1++bj h t) S3 (aX [(q1,c1),(q2,c2)]):=
    (((G0.perm List.perm_append_comm List.perm_append_comm).trans G1).trans G2).perm (List.Perm.refl _) pM
  have i2:pQ S2 d (mI h c1++mI h c2):=F1.Py is (by rw[List.map_append];exact F0.us) (by
    rw[List.map_append]
    exact fun p hp hc=>(List.nodup_append.1 PB).2.2 p hc p hp rfl)
  have i3:pQ S3 d (mI h c1++mI h c2):=F2.Py i2 (by rw[List.map_append];exact fun p hp=>G1.us p (by simp only[List.mem_append]at hp⊢;exact .inr hp)) (fun p hp hc=>by cases hc);have hq:S3.vw d q1=(aY h c1,0):=by
    rw[(F2.keep q1 (F1.us q1 (by simp)) (by simp)).2.2.1];exact v1
  refine C.row F hnd ?_ (fun u hu=>?_) ?_ (fun x hx=>vl x (by simpa[bO]using hx)) hsz (.inl (by have:=C.hA;have:=C.hB;simp;omega))
  · intro x hx;have hx':x∈rj (q1,c1)++rj (q2,c2):=by simpa[iz]using hx
    rcases List.mem_append.1 hx' with hx'|hx'
    · rcases List.mem_cons.1 hx' with rfl|hx'
      · exact hq
      · exact i3 x (List.mem_append_left _ hx')
    · rcases List.mem_cons.1 hx' with rfl|hx'
      · exact v2
      · exact i3 x (List.mem_append_right _ hx')
  · rcases List.mem_cons.1 hu with rfl|hu
    · exact w1
    · rw[List.mem_singleton.1 hu];exact w2
  · show bS (dE (A++(q1,c1)::(q2,c2)::B) (sA++k::sB));rw[rq C.hA];simpa using hod
theorem EI (hA:A.length=sA.length)(hB:B.length=sB.length):(A≠[]->(dE (A++B) (sA.take (A.length-1)++sB)).Sublist (dE A sA++kG (B.map fun u=>cC h u.2) sB))∧(A=[]->(dE B (sB.drop 1)).Sublist (kG (B.map fun u=>cC h u.2) sB)):=by
 constructor
 ·intro h0;obtain⟨A0,x,rfl,hl⟩:=yb (l:=A) (n:=A.length-1) (by have:=List.length_pos_iff.2 h0;omega);obtain⟨s0,s,rfl,hl2⟩:=yb (l:=sA) (n:=A0.length) (by simp at hA;omega);have e1:(s0++[s]).take ((A0++[x]).length-1)=s0:=by
   rw[show(A0++[x]).length-1=s0.length by simp;omega];simp
  rw[e1,List.append_assoc,List.singleton_append,fG (by omega),fG (sB:=[s]) (by omega)];have e2:kG (List.map (fun u:KT h=>cC h u.2) []) [s]=[(true,s)]:=by simp[kG,jg]
  rw[e2];simp only[List.append_assoc];exact List.Sublist.append (List.Sublist.refl _) (List.Sublist.append (List.Sublist.refl _) (List.sublist_append_right _ _))
 ·intro h0;cases B with
  |nil=>
   cases sB with
   |nil=>exact List.Sublist.refl _
   |cons s sB=>simp at hB
  |cons y B=>
   cases sB with
   |nil=>simp at hB
   |cons s sB=>
    rw[List.map_cons,kH,List.drop_one,List.tail_cons,dE,List.map_cons,rk];exact List.sublist_cons_self _ _
theorem tZ (C:Ctx room d S h A sA B sB)(t:BT h)(hnd:(pX w.1++bj h t++(aX A++aX B)).Nodup)(Yr:bj h t=[])(hod:bS (dE A sA++kG (B.map fun u=>cC h u.2) sB))(hsz:bV (sA++sB)<=1000)(F:Fm room d 0 S (pX w.1) S2 [])(hs1:(A≠[]∧fS=sA.take (A.length-1)++sB)∨(A=[]∧fS=sB.drop 1)):
  Rw room d S2 h (A++([]++B)) fS∧Fm room d 0 S (pX w.1++bj h t++(aX A++aX B)) S2 (aX (A++([]++B)))∧(dE (A++B) fS).Sublist (dE A sA++kG (B.map fun u=>cC h u.2) sB)∧bV fS<=bV (sA++sB):=by
 have hA:=C.hA;have hB:=C.hB;have sf:(dE (A++B) fS).Sublist (dE A sA++kG (B.map fun u=>cC h u.2) sB):=by
  rcases hs1 with⟨h0,rfl⟩| ⟨rfl,rfl⟩
  ·exact(EI hA hB).1 h0
  ·have e:dE ([]:List (KT h)) sA=[]:=by cases sA<;>rfl
   rw[e];exact(EI (A:=[]) (sA:=sA) hA hB).2 rfl
 have hz:bV fS<=bV (sA++sB):=by
  rcases hs1 with⟨h0,rfl⟩| ⟨rfl,rfl⟩
  ·rw[dL,dL];have:=pG sA (A.length-1);omega
  ·have e1:=dL (sB.take 1) (sB.drop 1);rw[List.take_append_drop]at e1;rw[dL];omega
 rw[Yr,List.append_nil]at hnd⊢;have:=C.row (M:=[]) (fS:=fS) F hnd (fun x hx=>by cases hx) (fun u hu=>by cases hu) (hod.sub sf) (fun x hx=>by cases hx) (Nat.le_trans hz hsz) (by
  rcases hs1 with⟨h0,rfl⟩| ⟨rfl,rfl⟩
  ·have:=List.length_pos_iff.2 h0
   refine .inl ?_
   simp
   omega
  ·by_cases hb:B=[]
   ·subst hb
    refine .inr ⟨rfl,?_⟩
    have:sB=[]:=List.length_eq_zero_iff.1 (by simpa using hB.symm)
    rw[this];rfl
   ·have:=List.length_pos_iff.2 hb
    refine .inl ?_
    simp
    omega)
 exact⟨this.1,this.2,sf,hz⟩
end
end P
namespace P
open N
section
variable {room:Nat}{d:Dk}{S S1 S2 S3:Dr}{h:Nat}{A B M:List (KT h)}{sA sB fS:List ByteArray}{w:KT h}
theorem ua (hA:A.length=sA.length)(hk:∀j,KP (A++w::B) (sA++sB) j)(R':List (KT h)){ss' t':List ByteArray}(e:ss'=sA.take (A.length-1)++t'):∀j,j<A.length-1->KP (A++R') ss' j:=fun j hj=>by
 rw[e];exact Ub hA hk R' t' (by omega)
theorem ry (hA:A.length=sA.length)(hB:B.length=sB.length)(hk:∀j,KP (A++w::B) (sA++sB) j)(L':List (KT h)){ss' t':List ByteArray}(e:B≠[]->ss'=t'++sB.drop 1∧t'.length=L'.length):∀j,L'.length+1<=j->KP (L'++B) ss' j:=fun j hj=>by
 by_cases h0:B=[]
 ·subst h0;exact PG (by simp;omega)
 ·obtain⟨e1,e2⟩:=e h0;obtain⟨y,B',rfl,_⟩:=ew (l:=B) (n:=B.length-1) (by have:=List.length_pos_iff.2 h0;omega);obtain⟨s1,mq,rfl,_⟩:=ew (l:=sB) (n:=B'.length) (by simpa using hB.symm);have:=Uc (w:=w) hA hk L' t' e2 (b:=j-L'.length) (by omega);rw[e1,List.drop_one,List.tail_cons]
  rwa [show L'.length+(j-L'.length)=j by omega]at this
theorem vW (hA:A.length=sA.length)(x:List ByteArray):sA++x=sA.take (A.length-1)++(sA.drop (A.length-1)++x):=by rw[<-List.append_assoc,List.take_append_drop]
theorem ig (hB:B.length=sB.length)(h0:B≠[])(x:List ByteArray):x++sB=(x++sB.take 1)++sB.drop 1∧(sB.take 1).length=1:=by
 have:=List.length_pos_iff.2 h0;exact⟨by rw[List.append_assoc,List.take_append_drop],by rw[List.length_take];omega⟩
theorem Le (hr:room<=16384)(HJ:∀h,mv room d h){depth:Int}(hd:depth+1+h<24){f m:Nat}(C:Ctx room d S h A sA B sB)(hp:P0 S w.1)(t:BT h)(ho:Ob room d S h t)(hnd:(pX w.1++bj h t++(aX A++aX B)).Nodup)(hk:∀j,KP (A++w::B) (sA++sB) j)(hod:bS (dE A sA++(cC h t++kG (B.map fun u=>cC h u.2) sB)))(hsz:bV (sA++sB)<=240)(hsw:cB (aY h w.2)=true)
    (hf:3*((pX w.1++bj h t++(aX A++aX B)).length+2)+5<=f)(hb:Bd S ((pX w.1++bj h t++(aX A++aX B)).length+6+m)):
    ∃n e S',ei (bn room d f) room S (aY (h+1) (bN (A++w::B) (sA++sB))) (A.length:Int) depth (aY h w.2) (aY h t)=some ((n,e),S')∧Er room d 4 S (pX w.1++bj h t++(aX A++aX B)) S' e∧
      (e=0->∃K' ss',PlR room d 4 S (pX w.1++bj h t++(aX A++aX B)) (dE A sA++(cC h t++kG (B.map fun u=>cC h u.2) sB)) (bO A++(dW h t++bO B)) (bV (sA++sB)+21) n S' h K' ss'):=by
  obtain⟨sd,us,nd,is,vl⟩:=ho.facts;have hA:=C.hA;have hB:=C.hB;have hgd:(A.map Prod.fst++w.1::B.map Prod.fst).getD ((A.length:Int)).toNat 0=w.1:=by simp[List.getD_eq_getElem?_getD]
  have hgd':(aY (h+1) (bN (A++w::B) (sA++sB))).ks.getD ((A.length:Int)).toNat 0=w.1:=by
    rw[bZ];simp[List.getD_eq_getElem?_getD]
  have hsm:cB (aY (h+1) (bN (A++w::B) (sA++sB)))=true:=CI hr sd _ _ (by simp;omega) (by omega) (fun u hu=>by
    simp only[List.mem_append,List.mem_cons]at hu
    rcases hu with hu|rfl|hu
    · exact .inr (C.us _ (List.mem_append_left _ (rv hu)))
    · exact hp
    · exact .inr (C.us _ (List.mem_append_right _ (rv hu))))
  have hlen:(aY (h+1) (bN (A++w::B) (sA++sB))).ks.length=A.length+B.length+1:=by rw[bZ];simp;omega
  have hXl:(bj h t).length<=(pX w.1++bj h t++(aX A++aX B)).length:=by simp only[List.length_append];omega
  have PB:=(List.nodup_append.1 hnd).1;have qT:(bj h t++pX w.1).Perm (pX w.1++bj h t):=List.perm_append_comm;obtain⟨parts,keys,e,S1,t1,t2,t3⟩:=Ua (m:=m) hr HJ t ho (depth:=depth+1) (f:=f) (by omega) (by omega) (hb.mono (by omega));unfold ei;rw[if_neg (by rw[hb.ok,hsm,hsw,hlen];simp;omega),t1,hgd'];simp only;by_cases he:e=0
  · subst he;rw[if_neg (by simp)];rcases t3 rfl with⟨rfl,rfl,rfl,Yr,hen,hfl⟩| ⟨rfl,rfl,rfl,wt,zt,fi⟩| ⟨c1,c2,k,rfl,rfl,wc1,wc2,z1,z2,f1,f2,ic,F0,oi,en,ln⟩
    ·
      have F:=PI (d:=d) sd hp;rw[if_pos rfl];simp only[eQ];rw[if_neg (by simp),if_neg (by simp),yc hA hB [] [] (by first| (simp;done)| (simp;omega))];rw[hfl,List.nil_append]at hod⊢;rw[hen,List.nil_append];by_cases h0:A=[]
      · subst h0;have hsA:sA=[]:=List.length_eq_zero_iff.1 (by simpa using hA.symm);subst hsA;obtain⟨R,E,sf,hz⟩:=tZ C t hnd Yr hod (by omega) F (.inr ⟨rfl,rfl⟩);have en0:(⟨false,[],List.map Prod.fst ([]:List (KT h))++[]++B.map Prod.fst,iJ ([]++sB) (vB ([]:List (KT h)).length []) (vC ([]:List (KT h)).length (([]:List (KT h)).length+1) []) []⟩:Nd)=aY (h+1) (bN ([]++([]++B)) (sB.drop 1)):=by
          rw[bZ];have:=PH (sB:=sB);simp only[List.length_nil]at this⊢;rw[this];rfl
        rw[en0];exact jk hr (HJ h) hd (m:=m) R (a:=0) (b:=1) (by first| (simp;done)| (simp;omega)) (by first| (simp;done)| (simp;omega)) (fun j hj=>by omega) (fun j hj=>ry (A:=[]) (sA:=[]) (w:=w) (t':=[]) rfl hB hk [] (fun _=>⟨rfl,rfl⟩) j (by simpa using hj)) E (by omega) (OI.sub sf) (by simp[bO]) (by omega) (by
          have:=E.Cw
          rw[bD,bD]
          simp only[List.length_append]at*
          simp[aX,iz]at*
          omega) (by omega) hf hb
      · have hpos:=List.length_pos_iff.2 h0;obtain⟨R,E,sf,hz⟩:=tZ C t hnd Yr hod (by omega) F (.inl ⟨h0,rfl⟩);have en0:(⟨false,[],A.map Prod.fst++[]++B.map Prod.fst,iJ (sA++sB) (vB A.length []) (vC A.length (A.length+1) []) []⟩:Nd)=aY (h+1) (bN (A++([]++B)) (sA.take (A.length-1)++sB)):=by
          rw[bZ,Uf hA h0];simp
        rw[en0];refine jk hr (HJ h) hd (m:=m) R (a:=A.length-1) (b:=A.length+1) (by omega) (by first| (simp;done)| (simp;omega)) ?_ ?_ E (by omega) (OI.sub sf) (by simp[bO]) (by omega) (by
          rw[bD,bD]
          simp only[List.length_append]
          simp[aX,iz]
          omega) (by omega) hf hb
        · exact ua hA hk _ rfl
        · exact ry hA hB hk A (t':=sA.take (A.length-1)++sB.take 1) (fun hb0=>⟨(ig hB hb0 _).1,by rw[List.length_append,(ig hB hb0 []).2,List.length_take];omega⟩)
    ·
      obtain⟨q,e2,S2,k1,k2,k3⟩:=ye (d:=d) sd hp fi hb;rw[if_neg (by simp)];simp only[eQ,k1];by_cases he2:e2=0
      · subst he2;obtain⟨F,hv⟩:=k3 rfl;obtain⟨R,E⟩:=vV C hp t ho hnd hod (by omega) wt zt F hv;rw[if_neg (by simp)];simp only;rw[if_neg (by simp),List.nil_append,yc hA hB [q] [] (by first| (simp;done)| (simp;omega))];have en0:(⟨false,[],A.map Prod.fst++[q]++B.map Prod.fst,iJ (sA++sB) (vB A.length [q]) (vC A.length (A.length+1) [q]) []⟩:Nd)=aY (h+1) (bN (A++([(q,t)]++B)) (sA++sB)):=by
          rw[bZ,Ud hA];simp
        rw[en0];have hpl:(aX (A++([(q,t)]++B))).length<=(pX w.1++bj h t++(aX A++aX B)).length+2:=by
          rw[bD,bD];simp only[List.length_append];simp[aX,iz,rj];omega
        have hen':bO (A++([(q,t)]++B))=bO A++(dW h t++bO B):=by simp[bO]
        have hoi:OI (dE A sA++(cC h t++kG (B.map fun u=>cC h u.2) sB)) (dE (A++([(q,t)]++B)) (sA++sB)):=by
          rw[List.singleton_append,fG hA];exact OI.refl _
        by_cases hg:dZ (aY h w.2)<=dZ (aY h t)
        · rw[if_pos ⟨by simp,hg⟩];exact jk hr (HJ h) hd (m:=m) R (a:=A.length) (b:=A.length+1) (by omega) (by first| (simp;done)| (simp;omega)) (fun j hj=>(hk j).grow (c:=(q,t)) (by omega) hg) (fun j hj=>(hk j).grow (c:=(q,t)) (by omega) hg) E (by omega) hoi hen' (by omega) hpl (by omega) hf hb
        · rw[if_neg (fun hc=>hg hc.2)];refine jk hr (HJ h) hd (m:=m) R (a:=A.length-1) (b:=A.length+2) (by omega) (by first| (simp;done)| (simp;omega)) ?_ ?_ E (by omega) hoi hen' (by omega) hpl (by omega) hf hb
          · exact ua hA hk _ (vW hA _)
          · intro j hj;have:=ry (ss':=sA++sB) hA hB hk (A++[(q,t)]) (t':=sA++sB.take 1) (fun hb0=>⟨(ig hB hb0 _).1,by rw[List.length_append,(ig hB hb0 []).2];simp;omega⟩) j (by simp;omega);simpa using this
      · rw[if_pos he2];simp only;rw[if_pos he2];exact⟨_,_,_,rfl,((k2.ext us PB).ext C.us hnd).mono (by omega),fun h0=>absurd h0 he2⟩
    ·
      have G0:=((F0.ext (Y:=pX w.1) (Az hp) (qT.nodup_iff.2 PB)).perm qT List.perm_append_comm).ext C.us hnd;have hp1:P0 S1 w.1:=by
        rcases hp with e|e
        · exact .inl e
        · by_cases hz:w.1=0
          · exact .inl hz
          · refine .inr (F0.Ax e (fun hc=>?_)).1;obtain⟨n1,_,_⟩:=List.nodup_append.1 hnd;exact(List.nodup_append.1 n1).2.2 w.1 (by simp[pX,hz]) w.1 hc rfl
      have WZ:Bd S1 (m+4):=F0.bd hb (by simp only[List.length_append]at*;omega);obtain⟨q1,e1,S2,k1,k2,k3⟩:=ye (d:=d) F0.ok hp1 f1 WZ;rw[if_neg (by simp)];simp only[eQ,k1];by_cases he1:e1=0
      · subst he1;obtain⟨F1,v1⟩:=k3 rfl;rw[if_neg (by simp)];have aaf:Bd S2 (m+2):=F1.bd WZ (by
          have:(pX w.1).length<=1:=by unfold pX;split<;>simp
          simp only[List.length_cons,List.length_nil]
          omega)
        obtain⟨q2,e2,S3,j1,j2,j3⟩:=ye (d:=d) (p:=0) F1.ok (.inl rfl) f2 aaf;simp only[j1];by_cases he2:e2=0
        · subst he2;obtain⟨F2,v2⟩:=j3 rfl;have e0:pX 0=[]:=by simp[pX]
          rw[e0]at F2;have W4:bS (dE A sA++((cC h c1++(true,k)::cC h c2)++kG (B.map fun u=>cC h u.2) sB)):=oi _ _ hod;have hks:k.size<=16:=(W4.sz (true,k) (by simp)).2;have aaC:bV (sA++k::sB)=bV (sA++sB)+(5+k.size):=by rw[dL,dL,bV];omega
          obtain⟨R,E⟩:=GA C hp t c1 c2 hnd W4 (by omega) ⟨wc1,z1⟩ ⟨wc2,z2⟩ (by rw[<-en];exact vl) ic F0 F1 v1 F2 v2;rw[if_neg (by simp)];simp only[List.nil_append];rw[if_neg (by simp),if_neg (by simp)];rw[show [q1]++[q2]=[q1,q2]from rfl,yc hA hB [q1,q2] [k] (by first| (simp;done)| (simp;omega))];have en0:(⟨false,[],A.map Prod.fst++[q1,q2]++B.map Prod.fst,iJ (sA++sB) (vB A.length [q1,q2]) (vC A.length (A.length+1) [q1,q2]) [k]⟩:Nd)=aY (h+1) (bN (A++([(q1,c1),(q2,c2)]++B)) (sA++k::sB)):=by
            rw[bZ,Ue hA];simp
          rw[en0];have hpl:(aX (A++([(q1,c1),(q2,c2)]++B))).length<=(pX w.1++bj h t++(aX A++aX B)).length+2:=by
            rw[bD,bD];simp only[List.length_append]at*;simp[aX,iz,rj]at*;omega
          refine jk hr (HJ h) hd (m:=m) R (a:=A.length-1) (b:=A.length+3) (by omega) (by first| (simp;done)| (simp;omega)) ?_ ?_ E (by omega) ?_ ?_ (by omega) hpl (by omega) hf hb
          · exact ua hA hk _ (vW hA _)
          · intro j hj;have:=ry (ss':=sA++k::sB) hA hB hk (A++[(q1,c1),(q2,c2)]) (t':=sA++[k]++sB.take 1) (fun hb0=>⟨by rw[<- (ig hB hb0 _).1];simp,by rw[List.length_append,(ig hB hb0 []).2];simp;omega⟩) j (by simp;omega);simpa using this
          · show OI _ (dE (A++(q1,c1)::(q2,c2)::B) (sA++k::sB));rw[rq hA];have:=oi.ctx (dE A sA) (kG (B.map fun u=>cC h u.2) sB);simpa using this
          · rw[en];simp[bO]
        · rw[if_pos he2];simp only;rw[if_pos he2];have G1:=(F1.ext F0.us (List.nodup_append.1 G0.nd).1).ext (fun q hq=>G0.us q (List.mem_append_right _ hq)) G0.nd;have e0:pX 0=[]:=by simp[pX]
          rw[e0]at j2;exact⟨_,_,_,rfl,((G0.trans G1).er (j2.ext (X:=[]) G1.us G1.nd)).mono (by omega),fun h0=>absurd h0 he2⟩
      · rw[if_pos he1];simp only;rw[if_pos he1];exact⟨_,_,_,rfl,(G0.er ((k2.ext F0.us (List.nodup_append.1 G0.nd).1).ext (fun q hq=>G0.us q (List.mem_append_right _ hq)) G0.nd)).mono (by omega),fun h0=>absurd h0 he1⟩
  · rw[if_pos he];exact⟨_,_,_,rfl,(((t2.ext (Az hp) (qT.nodup_iff.2 PB)).perm qT).ext C.us hnd).mono (by omega),fun h0=>absurd h0 he⟩
end
end P
end Go.Proofs.YtcenfooehjcddaaGreatDoor
