/- Walks of the package cowtree and of what it stands on: lemmas, made short. -/
import Derived.Test.YtdcpfbidcpfboaaGreatDoorR3
import Derived.Test.YtdcpfbidcpfboaaGreatDoorR13
import Derived.Test.YtdcpfbidcpfboaaGreatDoorR7
set_option maxHeartbeats 16000000
set_option maxRecDepth 100000
set_option linter.unusedVariables false
set_option linter.unusedSimpArgs false
namespace Go.Proofs.YtdcpfbidcpfboaaGreatDoor
namespace P
open Go.RowKit Go.Lib
open N (En bp Rg cM aY jK iF gL iM gM fO nS lI eW lH vF)
def wY {σ:Type}(st:σ->Int->Int->Bool->σ):List En->σ->σ×Int
 |[],s=>(s,0)
 |e::l,s=>if(dK e).2=true then wY st l (st s (dK e).1.1 (dK e).1.2.1 (dK e).1.2.2)else(s,3)
theorem RN {σ:Type}{st:σ->Int->Int->Bool->σ}:∀ {l:List En} {s:σ},(∀e∈l,(dK e).2=true)->wY st l s=(l.foldl (fun s e=>st s (dK e).1.1 (dK e).1.2.1 (dK e).1.2.2) s,0)
 |[],_,_=>rfl
 |e::l,s,h=>by
  rw[wY,if_pos (h e (by simp)),RN fun x hx=>h x (by simp[hx])];rfl
theorem NG {σ:Type}{st:σ->Int->Int->Bool->σ}:∀ {l:List En} {s:σ},(wY st l s).2=0∧(∀e∈l,(dK e).2=true)∨(wY st l s).2=3∧∃e∈l,(dK e).2=false
 |[],_=>.inl ⟨rfl,fun _ h=>by cases h⟩
 |e::l,s=>by
  rw[wY];split
  ·rename_i h
   rcases NG (st:=st) (l:=l) (s:=st s (dK e).1.1 (dK e).1.2.1 (dK e).1.2.2)with⟨a,b⟩| ⟨a,x,hx,c⟩
   ·exact .inl ⟨a,fun y hy=>by rcases List.mem_cons.1 hy with rfl|hy;exact h;exact b y hy⟩
   ·exact .inr ⟨a,x,by simp[hx],c⟩
  ·rename_i h
   exact .inr ⟨rfl,e,by simp,by simpa using h⟩
structure uZ (E:List En)(F:Int->Int->Option Bool):Prop where
 rg:Rg E
 mem:∀u v b,dR u v=0->((bQ u v,tN b)∈E↔F u v=some b)
 all:∀e∈E,Lib.hasPrefix e.1.data.toList [65]=true->(dK e).2=true
def WM (F:Int->Int->Option Bool)(u v:Int)(o:Option Bool):Int->Int->Option Bool:=fun a c=>if(a=u∧c=v)∨(a=v∧c=u)then o else F a c
theorem nw {u v:Int}(h:dR u v=0)(b:Bool):cM (bQ u v) (tN b)=true:=by
 rw[aY,iC h];refine⟨?_,?_,?_⟩
 ·simp[ByteArray.size,beBytes_length]
 ·simp[ByteArray.size,beBytes_length]
 ·cases b<;>decide+kernel
theorem jF {e:En}(h:(dK e).2=true):∃u v b,dR u v=0∧e=(bQ u v,tN b)∧dK e=((u,v,b),true):=by
 rcases oc e with⟨u,v,b,h1,h2,h3⟩|h1
 ·exact⟨u,v,b,h2,h3,h1⟩
 ·rw[h1]at h;cases h
theorem Vo {E:List En}(hr:Rg E){k a b:ByteArray}(h1:(k,a)∈E)(h2:(k,b)∈E):a=b:=by
 have e1:=lH hr h1;have e2:=lH hr h2;exact e1.symm.trans e2
def uj (E:List En)(u v:Int)(b:Bool):List En:=jK (jK E (bQ u v) (tN b)) (bQ v u) (tN b)
def Bg (E:List En)(u v:Int):List En:=iF (iF E (bQ u v)) (bQ v u)
theorem WN {e:En}(h:(dK e).2=true):Lib.hasPrefix e.1.data.toList [65]=true:=by
 obtain⟨u,v,b,h1,h2,_⟩:=jF h;rw[h2];simp only;rw[iC h1];exact iu.2 ⟨_,rfl⟩
theorem uZ.set {E:List En}{F:Int->Int->Option Bool}(h:uZ E F){u v:Int}(hm:dR u v=0)(b:Bool):uZ (uj E u v b) (WM F u v (some b)):=by
 have hm2:=vR hm;refine⟨nS (nS h.rg (nw hm b)) (nw hm2 b),fun a c t hac=>?_,fun e he hp=>?_⟩
 ·unfold uj WM;rw[gM,gM];simp only[Prod.mk.injEq];by_cases c1:a=u∧c=v
  ·obtain⟨rfl,rfl⟩:=c1;have hne:bQ a c≠bQ c a:=fun e=>(eG.1 hm).2.2 (kD hm hm2 e).1;rw[if_pos (.inl ⟨rfl,rfl⟩)];constructor
   ·rintro(⟨e,_⟩| ⟨⟨_,e⟩| ⟨_,e⟩,_⟩)
    ·exact absurd e hne
    ·rw[GQ e]
    ·exact absurd rfl e
   ·intro e;injection e with e;subst e;exact .inr ⟨.inl ⟨rfl,rfl⟩,hne⟩
  ·by_cases c2:a=v∧c=u
   ·obtain⟨rfl,rfl⟩:=c2;rw[if_pos (.inr ⟨rfl,rfl⟩)];constructor
    ·rintro(⟨_,e⟩| ⟨_,e⟩)
     ·rw[GQ e]
     ·exact absurd rfl e
    ·intro e;injection e with e;subst e;exact .inl ⟨rfl,rfl⟩
   ·rw[if_neg (by intro e;rcases e with e|e;exact c1 e;exact c2 e),<-h.mem a c t hac];have n1:bQ a c≠bQ u v:=fun e=>c1 (kD hac hm e);have n2:bQ a c≠bQ v u:=fun e=>c2 (kD hac hm2 e);constructor
    ·rintro(⟨e,_⟩| ⟨⟨e,_⟩| ⟨e,_⟩,_⟩)
     ·exact absurd e n2
     ·exact absurd e n1
     ·exact e
    ·intro e;exact .inr ⟨.inr ⟨e,n1⟩,n2⟩
 ·unfold uj at he;rw[gM,gM]at he;rcases he with rfl| ⟨rfl| ⟨he,_⟩,_⟩
  ·rw[kC hm2]
  ·rw[kC hm]
  ·exact h.all e he hp
theorem uZ.clr {E:List En}{F:Int->Int->Option Bool}(h:uZ E F){u v:Int}(hm:dR u v=0):uZ (Bg E u v) (WM F u v none):=by
 have hm2:=vR hm;refine⟨lI (lI h.rg _) _,fun a c t hac=>?_,fun e he hp=>?_⟩
 ·unfold Bg WM;rw[fO,fO];by_cases c1:a=u∧c=v
  ·obtain⟨rfl,rfl⟩:=c1;rw[if_pos (.inl ⟨rfl,rfl⟩)];exact⟨fun e=>absurd rfl e.1.2,fun e=>by cases e⟩
  ·by_cases c2:a=v∧c=u
   ·obtain⟨rfl,rfl⟩:=c2;rw[if_pos (.inr ⟨rfl,rfl⟩)];exact⟨fun e=>absurd rfl e.2,fun e=>by cases e⟩
   ·rw[if_neg (by intro e;rcases e with e|e;exact c1 e;exact c2 e),<-h.mem a c t hac];exact⟨fun e=>e.1.1,fun e=>⟨⟨e,fun x=>c1 (kD hac hm x)⟩,fun x=>c2 (kD hac hm2 x)⟩⟩
 ·unfold Bg at he;rw[fO,fO]at he;exact h.all e he.1.1 hp
def jG (E:List En)(u v:Int):Bool×Bool:=if gL E (bQ u v)=true then((dK (bQ u v,iM E (bQ u v))).1.2.2,(dK (bQ u v,iM E (bQ u v))).2)else(false,false)
theorem uZ.get {E:List En}{F:Int->Int->Option Bool}(h:uZ E F){u v:Int}(hm:dR u v=0):jG E u v=((F u v).getD false,(F u v).isSome):=by
 unfold jG;cases hf:gL E (bQ u v)with
 |true=>
  rw[if_pos rfl];obtain⟨⟨k,x⟩,hx,e⟩:=eW.1 hf;simp only at e;subst e;have hg:=lH h.rg hx;simp only at hg;rw[hg];obtain⟨a,c,b,h1,h2,h3⟩:=jF (h.all _ hx (by simp only;rw[iC hm];exact iu.2 ⟨_,rfl⟩));injection h2 with h2 h4;obtain⟨rfl,rfl⟩:=kD hm h1 h2;rw[h3];subst h4;rw[(h.mem _ _ _ hm).1 hx];rfl
 |false=>
  rw[if_neg (by simp)];cases hF:F u v with
  |none=>rfl
  |some b=>
   have:=eW.2 ⟨_,(h.mem _ _ _ hm).2 hF,rfl⟩;simp only at this;rw[hf]at this;cases this
def Dt (E:List En)(u:Int):List (Int×Bool):=(gf (xz u) (toA u) E).map fun e=>((dK e).1.2.1,(dK e).1.2.2)
theorem kn {fr tt:ByteArray}{E:List En}{e:En}:e∈gf fr tt E↔e∈E∧(!bp e.1 fr&&bF tt e.1)=true:=by
 unfold gf;rw[List.mem_filter]
theorem nE (u:Int)(k:ByteArray):bF (toA u) k=bp k (toA u):=by
 unfold bF;rw[decide_eq_false (by unfold toA;intro h;have:=congrArg (fun b:ByteArray=>b.data.size) h;simp at this),Bool.false_or]
theorem RP {k:ByteArray}{x y:List UInt8}(h1:bp k ⟨(65::x).toArray⟩=false)(h2:bp k ⟨(65::y).toArray⟩=true):Lib.hasPrefix k.data.toList [65]=true:=by
 have h1:Op.bytesLess k.data.toList (65::x)=false:=by rw[<-lN,yh];exact h1
 have h2:Op.bytesLess k.data.toList (65::y)=true:=by rw[<-lN,yh];exact h2
 cases hk:k.data.toList with
 |nil=>rw[hk]at h1;simp[Op.bytesLess]at h1
 |cons a r=>
  rw[hk]at h1 h2;simp only[Op.bytesLess,Bool.or_eq_false_iff,Bool.or_eq_true,decide_eq_false_iff_not,decide_eq_true_eq,Bool.and_eq_true,beq_iff_eq]at h1 h2;rcases h2 with h2|h2
  ·exact absurd h2 h1.1
  ·rw[h2.1];exact iu.2 ⟨r,rfl⟩
theorem uZ.wZ {E:List En}{F:Int->Int->Option Bool}(h:uZ E F){u:Int}:∀e∈gf (xz u) (toA u) E,(dK e).2=true:=fun e he=>by
 obtain⟨h1,h2⟩:=kn.1 he;rw[nE,Bool.and_eq_true,Bool.not_eq_true']at h2;exact h.all e h1 (RP h2.1 h2.2)
theorem uZ.Vp {E:List En}{F:Int->Int->Option Bool}(h:uZ E F){u:Int}(hu:dD u=true){v:Int}{b:Bool}:(v,b)∈Dt E u↔dR u v=0∧F u v=some b:=by
 unfold Dt;rw[List.mem_map];constructor
 ·rintro⟨e,he,h2⟩;obtain⟨a,c,t,m1,m2,m3⟩:=jF (h.wZ e he);rw[m3]at h2;injection h2 with h2 h3;subst h2 h3;obtain⟨h4,h5⟩:=kn.1 he;rw[nE,m2]at h5;simp only at h5;rw[pY hu m1]at h5;have:=of_decide_eq_true h5;subst this;rw[m2]at h4;exact⟨m1,(h.mem _ _ _ m1).1 h4⟩
 ·rintro⟨h1,h2⟩;refine⟨(bQ u v,tN b),kn.2 ⟨(h.mem _ _ _ h1).2 h2,?_⟩,by rw[kC h1]⟩;rw[nE];simp only;rw[pY hu h1];exact decide_eq_true rfl
theorem uZ.WO {E:List En}{F:Int->Int->Option Bool}(h:uZ E F){u:Int}(hu:dD u=true):(Dt E u).Pairwise fun x y=>x.1<y.1:=by
 unfold Dt;rw[List.pairwise_map];have hp:(gf (xz u) (toA u) E).Pairwise fun x y=>bp x.1 y.1=true:=h.rg.up.sublist List.filter_sublist;refine hp.imp_of_mem fun {x y} hx hy hlt=>?_;obtain⟨a,c,t,m1,m2,m3⟩:=jF (h.wZ x hx);obtain⟨a',c',t',WQ,WR,YL⟩:=jF (h.wZ y hy);rw[m3,YL];have i1:=(kn.1 hx).2;have i2:=(kn.1 hy).2;rw[nE,m2]at i1;rw[nE,WR]at i2;simp only at i1 i2;rw[pY hu m1]at i1;rw[pY hu WQ]at i2;have e1:=of_decide_eq_true i1;have e2:=of_decide_eq_true i2;subst e1 e2;rw[m2,WR]at hlt;simp only at hlt;rw[vU m1 WQ]at hlt;have:=of_decide_eq_true hlt;simp only;omega
abbrev um:ByteArray:=⟨#[65]⟩
abbrev jb:ByteArray:=⟨#[66]⟩
def NH (E:List En):List (Int×Int):=((gf um jb E).filter fun e=>decide ((dK e).1.1< (dK e).1.2.1)).map fun e=>((dK e).1.1,(dK e).1.2.1)
theorem Pb {k:ByteArray}:(!bp k um&&bF jb k)=Lib.hasPrefix k.data.toList [65]:=by
 have e1:bF jb k=bp k jb:=by
  unfold bF;rw[decide_eq_false (by intro h;have:=congrArg (fun b:ByteArray=>b.data.size) h;simp at this),Bool.false_or]
 have e2:bp k um=Op.bytesLess k.data.toList [65]:=by rw[<-lN,yh]
 have e3:bp k jb=Op.bytesLess k.data.toList [66]:=by rw[<-lN,yh]
 rw[e1,e2,e3];cases k.data.toList with
 |nil=>simp[Op.bytesLess,Lib.hasPrefix]
 |cons a r=>
  have hb:Op.bytesLess r []=false:=by cases r<;>rfl
  simp only[Op.bytesLess,hb,Bool.and_false,Bool.or_false,Lib.hasPrefix,List.isPrefixOf,Bool.and_true];by_cases h:a=65
  ·subst h;decide
  ·have:(65==a)=false:=beq_eq_false_iff_ne.2 fun e=>h e.symm;rw[this];by_cases c:a<65
   ·simp[c]
   ·have c1:¬a<66:=by
     intro d;apply h;have d1:=UInt8.lt_iff_toNat_lt.1 d;have c2:¬a.toNat<65:=fun x=>c (UInt8.lt_iff_toNat_lt.2 x);have e66:(66:UInt8).toNat=66:=rfl;exact UInt8.toNat_inj.1 (show a.toNat=65 by omega)
    simp[c1]
theorem uZ.Bh {E:List En}{F:Int->Int->Option Bool}(h:uZ E F):∀e∈gf um jb E,(dK e).2=true:=fun e he=>by
 obtain⟨h1,h2⟩:=kn.1 he;rw[Pb]at h2;exact h.all e h1 h2
theorem uZ.WS {E:List En}{F:Int->Int->Option Bool}(h:uZ E F){u v:Int}:(u,v)∈NH E↔dR u v=0∧u<v∧(F u v).isSome=true:=by
 unfold NH;rw[List.mem_map];constructor
 ·rintro⟨e,he,h2⟩;rw[List.mem_filter]at he;obtain⟨a,c,t,m1,m2,m3⟩:=jF (h.Bh e he.1);rw[m3]at h2 he;injection h2 with h2 h3;subst h2 h3;have h4:=(kn.1 he.1).1;rw[m2]at h4;exact⟨m1,of_decide_eq_true he.2,by rw[(h.mem _ _ _ m1).1 h4];rfl⟩
 ·rintro⟨h1,h2,h3⟩;obtain⟨b,hb⟩:=Option.isSome_iff_exists.1 h3;refine⟨(bQ u v,tN b),List.mem_filter.2 ⟨kn.2 ⟨(h.mem _ _ _ h1).2 hb,?_⟩,by rw[kC h1];exact decide_eq_true h2⟩,by rw[kC h1]⟩;rw[Pb];simp only;rw[iC h1];exact iu.2 ⟨_,rfl⟩
theorem uZ.YM {E:List En}{F:Int->Int->Option Bool}(h:uZ E F):(NH E).Pairwise fun x y=>x.1<y.1∨(x.1=y.1∧x.2<y.2):=by
 unfold NH;rw[List.pairwise_map];have hp:((gf um jb E).filter fun e=>decide ((dK e).1.1< (dK e).1.2.1)).Pairwise fun x y=>bp x.1 y.1=true:=h.rg.up.sublist (List.Sublist.trans List.filter_sublist List.filter_sublist);refine hp.imp_of_mem fun {x y} hx hy hlt=>?_;rw[List.mem_filter]at hx hy;obtain⟨a,c,t,m1,m2,m3⟩:=jF (h.Bh x hx.1);obtain⟨a',c',t',WQ,WR,YL⟩:=jF (h.Bh y hy.1);rw[m3,YL];rw[m2,WR]at hlt;simp only at hlt;rw[vU m1 WQ]at hlt;exact of_decide_eq_true hlt
end P
namespace P
open N
def BT:Nat->Type
 |0=>List En
 |h+1=>List (Int×BT h)×List ByteArray
abbrev It:=Bool×ByteArray
def jc:List (List It)->List ByteArray->List It
 |x::l,s::ss=>x++(true,s)::jc l ss
 |l,_=>l.flatten
def aV:(h:Nat)->BT h->Nd
 |0,l=>⟨true,l,[],[]⟩
 |_+1,t=>⟨false,[],t.1.map Prod.fst,t.2⟩
def cx:(h:Nat)->BT h->List It
 |0,l=>List.map (fun(x:En)=>(false,x.1)) l
 |h+1,t=>jc (t.1.map fun u=>cx h u.2) t.2
def dW:(h:Nat)->BT h->List En
 |0,l=>l
 |h+1,t=>(t.1.map fun u=>dW h u.2).flatten
def l8:(h:Nat)->BT h->List (Int×Nd)
 |0,_=>[]
 |h+1,t=>(t.1.map fun u=>(u.1,aV h u.2)::l8 h u.2).flatten
def bT (h:Nat)(t:BT h):Nat:=dZ (aV h t)
def tJ:(h:Nat)->BT h->ByteArray->BT h->BT h
 |0,a,_,b=>(show List En from a)++(show List En from b)
 |_+1,a,k,b=>(a.1++b.1,a.2++k::b.2)
abbrev KT (h:Nat):=Int×BT h
def oH {h:Nat}(u:KT h):List (Int×Nd):=(u.1,aV h u.2)::l8 h u.2
def iq {h:Nat}(K:List (KT h)):List (Int×Nd):=(K.map oH).flatten
def dm {h:Nat}(K:List (KT h))(ss:List ByteArray):List It:=jc (K.map fun u=>cx h u.2) ss
def bO {h:Nat}(K:List (KT h)):List En:=(K.map fun u=>dW h u.2).flatten
def KP {h:Nat}(K:List (KT h))(ss:List ByteArray)(i:Nat):Prop:=
 ∀A a b B sA k sB,K=A++a::b::B->ss=sA++k::sB->A.length=sA.length->
  (i=A.length->bT h a.2<80->240<bT h (tJ h a.2 k b.2))∧(B=[]->i=A.length+1->bT h b.2<80->240<bT h (tJ h a.2 k b.2))
def Wl:(h:Nat)->BT h->Prop
 |0,l=>(show List En from l)≠[]
 |h+1,t=>t.2.length+1=t.1.length∧(∀i,KP t.1 t.2 i)∧∀u∈t.1,Wl h u.2∧bT h u.2<=240
def RI (x y:It):Prop:=if y.1=true then bp x.2 y.2=true else if x.1=true then bp y.2 x.2=false else bp x.2 y.2=true
structure bS (l:List It):Prop where
 up:l.Pairwise RI
 sz:∀x∈l,1<=x.2.size∧x.2.size<=16
theorem bS.sub {l m:List It}(h:bS l)(s:m.Sublist l):bS m:=⟨h.up.sublist s,fun x hx=>h.sz x (s.subset hx)⟩
theorem sV (ss:List ByteArray):jc [] ss=[]:=by cases ss<;>rfl
theorem gW (x:List It)(l:List (List It))(s:ByteArray)(ss:List ByteArray):jc (x::l) (s::ss)=x++(true,s)::jc l ss:=rfl
theorem Jl (x:List It)(l:List (List It)):jc (x::l) []=x++l.flatten:=rfl
theorem nG:∀ {A:List (List It)} {sA:List ByteArray} (B:List (List It)) (sB:List ByteArray),A.length=sA.length->jc (A++B) (sA++sB)=jc A sA++jc B sB
 |[],[],B,sB,_=>by simp[sV]
 |[],_::_,_,_,h=>by cases h
 |_::_,[],_,_,h=>by cases h
 |x::A,s::sA,B,sB,h=>by
  have:=nG (A:=A) (sA:=sA) B sB (by simpa using h);simp only[List.cons_append,gW,this,List.append_assoc]
def jM (l:List (List It))(ss:List ByteArray):List It:=jc ([]::l) ss
theorem qN (x:List It)(l:List (List It))(ss:List ByteArray):jc (x::l) ss=x++jM l ss:=by
 cases ss<;>simp[jM,gW,Jl]
theorem jd (x:List It)(l:List (List It))(s:ByteArray)(ss:List ByteArray):jM (x::l) (s::ss)=(true,s)::(x++jM l ss):=by
 rw[jM,gW,qN];rfl
theorem fg {h:Nat}{A B:List (KT h)}{u:KT h}{sA sB:List ByteArray}(hA:A.length=sA.length):dm (A++u::B) (sA++sB)=dm A sA++(cx h u.2++jM (B.map fun u=>cx h u.2) sB):=by
 unfold dm;rw[List.map_append,nG _ _ (by simpa using hA),List.map_cons,qN]
theorem qO {h:Nat}{A B:List (KT h)}{u v:KT h}{sA sB:List ByteArray}{k:ByteArray}(hA:A.length=sA.length):dm (A++u::v::B) (sA++k::sB)=dm A sA++(cx h u.2++(true,k)::(cx h v.2++jM (B.map fun u=>cx h u.2) sB)):=by
 rw[fg hA,List.map_cons,jd]
theorem cW {h:Nat}(A B:List (KT h)):iq (A++B)=iq A++iq B:=by simp[iq]
theorem dG {h:Nat}(u:KT h)(B:List (KT h)):iq (u::B)=oH u++iq B:=by simp[iq]
theorem cA {h:Nat}(A B:List (KT h)):bO (A++B)=bO A++bO B:=by simp[bO]
theorem bX {h:Nat}(u:KT h)(B:List (KT h)):bO (u::B)=dW h u.2++bO B:=by simp[bO]
theorem xa (h:Nat)(a b:BT h)(k:ByteArray):aV h (tJ h a k b)=ji (aV h a) k (aV h b):=by
 cases h with
 |zero=>simp[aV,tJ,ji]
 |succ h=>simp[aV,tJ,ji]
theorem zx (h:Nat)(a:BT h):(aV h a).leaf=decide (h=0):=by cases h<;>simp[aV]
theorem oI (h:Nat)(a b:BT h)(k:ByteArray):bT h (tJ h a k b)=bT h a+bT h b+(if h=0 then 0 else 1+k.size):=by
 cases h with
 |zero=>
  show cP (_++_)=cP a+cP b+0;rw[js];rfl
 |succ h=>simp[bT,aV,tJ,dZ,dE,bW];omega
theorem Jm (h:Nat)(a b:BT h)(k:ByteArray):dW h (tJ h a k b)=dW h a++dW h b:=by
 cases h with
 |zero=>rfl
 |succ h=>simp[dW,tJ]
theorem Bi (h:Nat)(a b:BT h)(k:ByteArray):l8 h (tJ h a k b)=l8 h a++l8 h b:=by
 cases h with
 |zero=>rfl
 |succ h=>simp[l8,tJ]
theorem NI (a b:BT 0)(k:ByteArray):cx 0 (tJ 0 a k b)=cx 0 a++cx 0 b:=by
 show List.map _ (_++_)=_;rw[List.map_append];rfl
theorem xd {h:Nat}(a b:BT (h+1))(k:ByteArray)(ha:a.2.length+1=a.1.length):cx (h+1) (tJ (h+1) a k b)=cx (h+1) a++(true,k)::cx (h+1) b:=by
 obtain⟨aK,aS⟩:=a;obtain⟨bK,bs⟩:=b;show dm (aK++bK) (aS++k::bs)=dm aK aS++(true,k)::dm bK bs;have ha:aS.length+1=aK.length:=ha;have e:∃A u,aK=A++[u]∧A.length=aS.length:=by
  refine⟨aK.dropLast,aK.getLast (fun e=>by rw[e]at ha;simp at ha),(List.dropLast_concat_getLast _).symm,?_⟩;simp at ha⊢;omega
 obtain⟨A,u,rfl,hA⟩:=e;have e1:=fg (A:=A) (u:=u) (B:=[]) (sA:=aS) (sB:=[]) hA;simp only[List.append_nil]at e1;rw[e1,List.append_assoc,List.singleton_append,fg hA];cases bK with
 |nil=>simp[jM,jc,dm,sV]
 |cons v B=>
  rw[List.map_cons,jd];have e2:jM (List.map (fun u:KT h=>cx h u.2) []) []=[]:=rfl;have e3:dm (v::B) bs=cx h v.2++jM (B.map fun u=>cx h u.2) bs:=by rw[dm,List.map_cons,qN]
  rw[e2,e3];simp only[List.append_nil,List.append_assoc]
theorem sW (h:Nat)(a b:BT h)(k:ByteArray)(ha:Wl h a):(cx h (tJ h a k b)).Sublist (cx h a++(true,k)::cx h b):=by
 cases h with
 |zero=>rw[NI];exact List.Sublist.append (List.Sublist.refl _) (List.sublist_cons_self _ _)
 |succ h=>rw[xd _ _ _ ha.1];exact List.Sublist.refl _
theorem il:∀(l:List (List It)) (ss:List ByteArray),ss.length<=l.length->(ss.map fun s=>((true,s):It)).Sublist (jc l ss)
 |l,[],_=>by simp
 |[],s::ss,h=>by simp at h
 |x::l,s::ss,h=>by
  rw[gW,List.map_cons];exact List.Sublist.trans (List.Sublist.cons_cons _ (il l ss (by simpa using h))) (List.sublist_append_right _ _)
theorem bS.keys {ss:List ByteArray}(h:bS (ss.map fun s=>((true,s):It))):Ay ss=true:=by
 refine gD ⟨?_,?_⟩
 ·unfold N.Up;rw[List.pairwise_map];have:=h.up;rw[List.pairwise_map]at this;exact this.imp fun {a b} hab=>by simpa[RI,kE]using hab
 ·intro x hx;obtain⟨s,hs,rfl⟩:=List.mem_map.1 hx;have:=h.sz (true,s) (List.mem_map_of_mem hs);exact aY.2 ⟨this.1,this.2,by show(0:Nat)<=40;omega⟩
theorem bS.leaf {l:List En}(h:bS (l.map fun(x:En)=>((false,x.1):It)))(hv:∀x∈l,x.2.size<=40):Rg l:=by
 refine⟨?_,?_⟩
 ·unfold N.Up;have:=h.up;rw[List.pairwise_map]at this;exact this.imp fun {a b} hab=>by simpa[RI]using hab
 ·intro x hx;have:=h.sz (false,x.1) (List.mem_map_of_mem (f:=fun(x:En)=>((false,x.1):It)) hx);exact aY.2 ⟨this.1,this.2,hv x hx⟩
end P
namespace P
open N
def _root_.Go.Proofs.YtdcpfbidcpfboaaGreatDoor.Dr.vw (S:Dr)(d:Dk)(id:Int):Nd×Int:=S.read d id 0
theorem _root_.Go.Proofs.YtdcpfbidcpfboaaGreatDoor.Dr.gO (S:Dr)(d:Dk)(id depth:Int)(h:depth<24):S.read d id depth=S.vw d id:=by
 unfold Dr.vw Dr.read dL;have h1:¬(24:Int)<=depth:=by omega
 simp[h,h1]
structure Us (S:Dr)(p:Int):Prop where
 lo:2<=p
 hi:p<S.x.pages
 fr:¬cX S.x.free p
 sp:p∉S.spare
structure Sd (room:Nat)(S:Dr):Prop where
 x:S.x.Ok room
 sp:∀q∈S.spare,(S.x.fresh q).isSome=true
 nf:∀q,(S.nodes q).isSome=true->(S.x.fresh q).isSome=true∧q∉S.spare
 sn:S.spare.Nodup
 fi:∀q n,S.nodes q=some n->cE n=true
 bz:∀q c,S.x.fresh q=some c->c.body.size<=240
 tk:∀q∈S.taken,(S.x.fresh q).isSome=true
def _root_.Go.Proofs.YtdcpfbidcpfboaaGreatDoor.TX.cap (x:TX)(room:Nat):Int:=jx x.free+((room:Int)-x.pages)
def py (S:Dr)(d:Dk)(c:List (Int×Nd)):Prop:=∀x∈c,S.vw d x.1=(x.2,0)
structure Fm (room:Nat)(d:Dk)(c:Nat)(S:Dr)(X:List Int)(S':Dr)(X':List Int):Prop where
 ok:Sd room S'
 us:∀p∈X',Us S' p
 nd:X'.Nodup
 keep:∀p,Us S p->p∉X->Us S' p∧p∉X'∧S'.vw d p=S.vw d p∧(S'.x.fresh p).isSome=(S.x.fresh p).isSome
 tight:∀p,(S'.x.fresh p).isSome=true->p∉S'.spare->p∈X'∨((S.x.fresh p).isSome=true∧p∉S.spare∧p∉X)
 cnt:S'.cnt+X'.length<=S.cnt+X.length+c
 nH:S'.x.cnt+X'.length<=S.x.cnt+X.length+c
 Bj:S'.taken.length+X'.length<=S.taken.length+X.length+c
 Du:S'.spare.length+X'.length<=S.spare.length+X.length+c
 bot:S'.bot=S.bot
 cap:S'.x.cap room+S'.taken.length=S.x.cap room+S.taken.length
 mine:(∀p∈X,S.may p=true)->(∀p∈X',S'.may p=true)∧S'.taken.length<=S.taken.length+c∧X'.length+S'.spare.length+S.taken.length=X.length+S.spare.length+S'.taken.length
theorem dM (S:Dr)(p:Int):S.may p=true↔(S.x.fresh p).isSome=true∧p∉S.spare:=by
 simp[Dr.may]
section
variable {room c c':Nat}{d:Dk}{S S1 S2:Dr}{X X1 X2 Y:List Int}
theorem Fm.refl (ok:Sd room S)(us:∀p∈X,Us S p)(nd:X.Nodup):Fm room d 0 S X S X:=
 ⟨ok,us,nd,fun p h hn=>⟨h,hn,rfl,rfl⟩,fun p h1 h2=>by
  by_cases hx:p∈X
  ·exact .inl hx
  ·exact .inr ⟨h1,h2,hx⟩,by omega,by omega,by omega,by omega,rfl,rfl,fun h=>⟨h,by omega,by omega⟩⟩
theorem Fm.trans (h1:Fm room d c S X S1 X1)(h2:Fm room d c' S1 X1 S2 X2):Fm room d (c+c') S X S2 X2:=
 ⟨h2.ok,h2.us,h2.nd,fun p h hn=>by
  obtain⟨a1,a2,a3,a4⟩:=h1.keep p h hn
  obtain⟨b1,b2,b3,b4⟩:=h2.keep p a1 a2
  exact⟨b1,b2,b3.trans a3,b4.trans a4⟩,fun p a b=>by
  rcases h2.tight p a b with h| ⟨h3,h4,h5⟩
  ·exact .inl h
  ·rcases h1.tight p h3 h4 with h|h
   ·exact absurd h h5
   ·exact .inr h,by have:=h1.cnt;have:=h2.cnt;omega,by have:=h1.nH;have:=h2.nH;omega,by have:=h1.Bj;have:=h2.Bj;omega,by have:=h1.Du;have:=h2.Du;omega,h2.bot.trans h1.bot,h2.cap.trans h1.cap,fun hm=>by
  obtain⟨a1,a2,a3⟩:=h1.mine hm
  obtain⟨b1,b2,b3⟩:=h2.mine a1
  exact⟨b1,by omega,by omega⟩⟩
theorem Fm.ext (h:Fm room d c S X S1 X1)(us:∀p∈Y,Us S p)(nd:(X++Y).Nodup):Fm room d c S (X++Y) S1 (X1++Y):=by
 obtain⟨n1,n2,n3⟩:=List.nodup_append.1 nd;have hk:∀p∈Y,Us S1 p∧p∉X1:=fun p hp=>by
  have:=h.keep p (us p hp) (fun hx=>n3 p hx p hp rfl);exact⟨this.1,this.2.1⟩
 refine⟨h.ok,fun p hp=>?_,?_,fun p hp hn=>?_,fun p a b=>?_,?_,?_,?_,?_,h.bot,h.cap,fun hm=>?_⟩
 ·rcases List.mem_append.1 hp with hp|hp
  ·exact h.us p hp
  ·exact(hk p hp).1
 ·exact List.nodup_append.2 ⟨h.nd,n2,fun a ha b hb e=>(hk b hb).2 (e▸ha)⟩
 ·rw[List.mem_append,not_or]at hn;obtain⟨a1,a2,a3,a4⟩:=h.keep p hp hn.1;exact⟨a1,by rw[List.mem_append,not_or];exact⟨a2,hn.2⟩,a3,a4⟩
 ·rcases h.tight p a b with h1| ⟨h1,h2,h3⟩
  ·exact .inl (List.mem_append_left _ h1)
  ·by_cases hy:p∈Y
   ·exact .inl (List.mem_append_right _ hy)
   ·exact .inr ⟨h1,h2,by rw[List.mem_append,not_or];exact⟨h3,hy⟩⟩
 ·have:=h.cnt;simp only[List.length_append];omega
 ·have:=h.nH;simp only[List.length_append];omega
 ·have:=h.Bj;simp only[List.length_append];omega
 ·have:=h.Du;simp only[List.length_append];omega
 ·obtain⟨a1,a2,a3⟩:=h.mine (fun p hp=>hm p (List.mem_append_left _ hp));refine⟨fun p hp=>?_,a2,by simp only[List.length_append];omega⟩;rcases List.mem_append.1 hp with hp|hp
  ·exact a1 p hp
  ·have h1:=(dM S p).1 (hm p (List.mem_append_right _ hp));have h2:=h.keep p (us p hp) (fun hx=>n3 p hx p hp rfl);exact(dM S1 p).2 ⟨by rw[h2.2.2.2];exact h1.1,h2.1.sp⟩
theorem Fm.perm (h:Fm room d c S X S1 X1){Y Y1:List Int}(e:X.Perm Y)(e1:X1.Perm Y1):Fm room d c S Y S1 Y1:=
 ⟨h.ok,fun p hp=>h.us p (e1.mem_iff.2 hp),e1.nodup_iff.1 h.nd,fun p hp hn=>by
  obtain⟨a1,a2,a3,a4⟩:=h.keep p hp (fun hx=>hn (e.mem_iff.1 hx))
  exact⟨a1,fun hx=>a2 (e1.mem_iff.2 hx),a3,a4⟩,fun p a b=>by
  rcases h.tight p a b with h| ⟨h1,h2,h3⟩
  ·exact .inl (e1.mem_iff.1 h)
  ·exact .inr ⟨h1,h2,fun hx=>h3 (e.mem_iff.2 hx)⟩,by have:=h.cnt;have:=e.length_eq;have:=e1.length_eq;omega,by have:=h.nH;have:=e.length_eq;have:=e1.length_eq;omega,by have:=h.Bj;have:=e.length_eq;have:=e1.length_eq;omega,by have:=h.Du;have:=e.length_eq;have:=e1.length_eq;omega,h.bot,h.cap,fun hm=>by
  obtain⟨a1,a2,a3⟩:=h.mine (fun p hp=>hm p (e.mem_iff.1 hp))
  have:=e.length_eq
  have:=e1.length_eq
  exact⟨fun p hp=>a1 p (e1.mem_iff.2 hp),a2,by omega⟩⟩
theorem Fm.mono (h:Fm room d c S X S1 X1)(hc:c<=c'):Fm room d c' S X S1 X1:=
 ⟨h.ok,h.us,h.nd,h.keep,h.tight,by have:=h.cnt;omega,by have:=h.nH;omega,by have:=h.Bj;omega,by have:=h.Du;omega,h.bot,h.cap,fun hm=>by
  obtain⟨a1,a2,a3⟩:=h.mine hm
  exact⟨a1,by omega,a3⟩⟩
theorem Fm.NK (h:Fm room d c S X S1 X1){C:List (Int×Nd)}(hC:py S d C)(us:∀p∈C.map Prod.fst,Us S p)(hd:∀p∈C.map Prod.fst,p∉X):py S1 d C:=fun x hx=>by
 have hm:=List.mem_map_of_mem (f:=Prod.fst) hx;rw[(h.keep x.1 (us _ hm) (hd _ hm)).2.2.1];exact hC x hx
def Ev (room:Nat)(d:Dk)(c:Nat)(S:Dr)(X:List Int)(S':Dr):Prop:=∃Xm,Fm room d c S X S' Xm∧S'.x.free=[]∧room<=S'.x.pages
abbrev Er (room:Nat)(d:Dk)(c:Nat)(S:Dr)(X:List Int)(S':Dr)(e:Int):Prop:=e≠0->e=2∧Ev room d c S X S'
theorem Er.ext {e:Int}(h:Er room d c S X S1 e)(us:∀p∈Y,Us S p)(nd:(X++Y).Nodup):Er room d c S (X++Y) S1 e:=fun he=>by
 obtain⟨h1,Xm,F,h2⟩:=h he;exact⟨h1,_,F.ext us nd,h2⟩
theorem Er.perm {e:Int}(h:Er room d c S X S1 e)(p:X.Perm Y):Er room d c S Y S1 e:=fun he=>by
 obtain⟨h1,Xm,F,h2⟩:=h he;exact⟨h1,_,F.perm p (List.Perm.refl _),h2⟩
theorem Er.mono {e:Int}(h:Er room d c S X S1 e)(hc:c<=c'):Er room d c' S X S1 e:=fun he=>by
 obtain⟨h1,Xm,F,h2⟩:=h he;exact⟨h1,_,F.mono hc,h2⟩
theorem Fm.er {e:Int}(F:Fm room d c S X S1 X1)(h:Er room d c' S1 X1 S2 e):Er room d (c+c') S X S2 e:=fun he=>by
 obtain⟨h1,Xm,F2,h2⟩:=h he;exact⟨h1,_,F.trans F2,h2⟩
theorem Fm.zy (h:Fm room d c S X S1 X1){p:Int}(hp:Us S p)(hn:p∉X):Us S1 p∧p∉X1:=⟨(h.keep p hp hn).1,(h.keep p hp hn).2.1⟩
end
section
variable {room:Nat}{d:Dk}{S:Dr}
theorem nI {S S':Dr}{p:Int}(hx:bY S'.x d p 1=bY S.x d p 1)(hy:bY S'.x d p 2=bY S.x d p 2)(hn:S'.nodes p=S.nodes p):S'.vw d p=S.vw d p:=by
 unfold Dr.vw Dr.read dL;rw[hx,hy,hn]
theorem qP (ok:Sd room S){p:Int}(hp:Us S p):Fm room d 0 S [p] (S.drop p) []:=by
 unfold Dr.drop;split
 ·rename_i hm
  have hm':=(dM S p).1 hm;refine⟨⟨ok.x,fun q hq=>?_,fun q hq=>?_,List.nodup_append.2 ⟨ok.sn,by simp,fun a ha b hb e=>hm'.2 (by rw[List.mem_singleton.1 hb]at e;rw[<-e];exact ha)⟩,fun q n hq=>?_,ok.bz,ok.tk⟩,(fun _ h=>by cases h),List.nodup_nil,fun q hq hn=>?_,fun q a b=>?_,?_,?_,?_,?_,rfl,rfl,fun _=>⟨(fun _ h=>by cases h),Nat.le_refl _,by simp;omega⟩⟩
  ·rcases List.mem_append.1 hq with h|h
   ·exact ok.sp q h
   ·rw[List.mem_singleton.1 h];exact hm'.1
  ·simp only at hq;split at hq
   ·cases hq
   ·rename_i hne
    have:=ok.nf q hq;refine⟨this.1,?_⟩;simp only[List.mem_append,List.mem_singleton,not_or];exact⟨this.2,hne⟩
  ·simp only at hq;split at hq
   ·cases hq
   ·exact ok.fi q n hq
  ·have hne:q≠p:=by simpa using hn
   refine⟨⟨hq.lo,hq.hi,hq.fr,?_⟩,by simp,?_,rfl⟩
   ·simp only[List.mem_append,List.mem_singleton,not_or];exact⟨hq.sp,hne⟩
   ·exact nI rfl rfl (by simp[hne])
  ·simp only[List.mem_append,List.mem_singleton,not_or]at b;exact .inr ⟨a,b.1,by simpa using b.2⟩
  ·simp
  ·simp
  ·simp
  ·simp
 ·rename_i hm
  have hm':¬((S.x.fresh p).isSome=true∧p∉S.spare):=fun h=>hm ((dM S p).2 h);refine⟨ok,(fun _ h=>by cases h),List.nodup_nil,fun q hq hn=>⟨hq,by simp,rfl,rfl⟩,fun q a b=>?_,?_,?_,?_,?_,rfl,rfl,fun hc=>absurd ((dM S p).1 (hc p (by simp))) hm'⟩
  ·refine .inr ⟨a,b,?_⟩;simp only[List.mem_singleton];rintro rfl;exact hm' ⟨a,b⟩
  ·simp
  ·simp
  ·simp
  ·simp
structure Tk (d:Dk)(room:Nat)(x x':TX)(p:Int):Prop where
 ok:x'.Ok room
 lo:2<=p
 hi:p<x'.pages
 nf:¬cX x'.free p
 was:cX x.free p∨p=x.pages
 fs:x'.fresh=gN x.fresh p c0
 cn:x'.cnt=x.cnt+1
 fr:∀q,cX x'.free q->cX x.free q
 pg:x.pages<=x'.pages
 cp:x'.cap room=x.cap room-1
theorem zA {x:TX}(ok:x.Ok room)(h0:(x.alloc room).1.2=0):Tk d room x (x.alloc room).2 (x.alloc room).1.1:=by
 have ok':=TX.sq ok;obtain⟨fr,pg,g,c⟩:=x;unfold TX.alloc at ok' h0⊢;cases fr with
 |cons r s=>
  obtain⟨_,d1,d3,_,d2⟩:=ym ok.cn;have hr:=ok.cn.dV (Int.le_refl _) (bD.1 ok.cn).1.2.1;have r1:=ok.fr r.1 hr;exact⟨ok',r1.1,r1.2,fun hn=>by have:r.1<r.1:=((d2 _).1 hn).2;omega,.inl hr,rfl,rfl,fun q hq=>((d2 q).1 hq).1,Nat.le_refl _,by unfold TX.cap;simp only;rw[d3];omega⟩
 |nil=>
  simp only at ok' h0⊢;split at h0
  ·cases h0
  ·rename_i hp
   rw[if_neg hp]at ok'⊢;have h2:2<=pg:=ok.p2;refine⟨ok',?_,?_,dt _,.inr rfl,rfl,rfl,fun q hq=>absurd hq (dt q),?_,?_⟩
   ·show(2:Int)<=(pg:Int);omega
   ·show(pg:Int)< ((pg+1:Nat):Int);omega
   ·show pg<=pg+1;omega
   ·unfold TX.cap;simp only;push_cast;omega
theorem sX {x:TX}(h0:(x.alloc room).1.2≠0):(x.alloc room).1.2=2∧(x.alloc room).2=x∧x.free=[]∧room<=x.pages:=by
 obtain⟨fr,pg,g,c⟩:=x;unfold TX.alloc at h0⊢;cases fr with
 |cons r s=>exact absurd rfl h0
 |nil=>
  simp only at h0⊢;split
  ·rename_i hp
   exact⟨rfl,rfl,trivial,hp⟩
  ·rename_i hp
   rw[if_neg hp]at h0;exact absurd rfl h0
theorem Tk.get {x x':TX}{p:Int}(h:Tk d room x x' p){q:Int}(hne:q≠p)(hi:q<x.pages)(hf:¬cX x.free q)(k:UInt8):bY x' d q k=bY x d q k:=by
 have h1:x'.fresh q=x.fresh q:=by rw[h.fs];simp[gN,hne]
 have h2:¬(x'.pages:Int)<=q:=by have:=h.pg;omega
 have h3:¬(x.pages:Int)<=q:=by omega
 unfold bY TX.get;rw[h1,jv hf,jv (fun c=>hf (h.fr q c))];simp[h2,h3]
theorem Tk.ne {x x':TX}{p q:Int}(h:Tk d room x x' p)(hi:q<x.pages)(hf:¬cX x.free q):q≠p:=by
 rintro rfl;rcases h.was with w|w
 ·exact hf w
 ·omega
structure Bd (S:Dr)(m:Nat):Prop where
 cnt:S.cnt+m<100000
 nH:S.x.cnt+m<900000
 Bj:S.taken.length+m<100000
 Du:S.spare.length+m<100000
theorem Bd.ok {m:Nat}(h:Bd S m):S.okB=true:=by
 have:=h.cnt;have:=h.nH;have:=h.Bj;have:=h.Du;simp only[Dr.okB,Bool.and_eq_true,decide_eq_true_eq];omega
theorem Bd.mono {m m':Nat}(h:Bd S m)(hm:m'<=m):Bd S m':=⟨by have:=h.cnt;omega,by have:=h.nH;omega,by have:=h.Bj;omega,by have:=h.Du;omega⟩
theorem Fm.bd {c m m':Nat}{S':Dr}{X X':List Int}(h:Fm room d c S X S' X')(hb:Bd S m)(hm:X.length+c+m'<=m+X'.length):Bd S' m':=by
 have:=hb.cnt;have:=hb.nH;have:=hb.Bj;have:=hb.Du;have:=h.cnt;have:=h.nH;have:=h.Bj;have:=h.Du;exact⟨by omega,by omega,by omega,by omega⟩
theorem RQ (ok:Sd room S){p:Int}(hp:Us S p)(hm:S.may p=true)(n:Nd)(hf:cE n=true):Fm room d 1 S [p] (S.set p n) [p]∧(S.set p n).vw d p=(n,0):=by
 have hm':=(dM S p).1 hm;refine⟨⟨⟨ok.x,ok.sp,fun q hq=>?_,ok.sn,fun q n' hq=>?_,ok.bz,ok.tk⟩,fun q hq=>?_,by simp,fun q hq hn=>?_,fun q a b=>?_,by simp[Dr.set],by simp[Dr.set],by simp[Dr.set],by simp[Dr.set],rfl,rfl,fun hc=>⟨fun q hq=>by rw[List.mem_singleton.1 hq];exact hm,by simp[Dr.set],by simp[Dr.set]⟩⟩,by simp[Dr.vw,Dr.read,Dr.set]⟩
 ·simp only[Dr.set]at hq⊢;split at hq
  ·rename_i e;rw[e];exact hm'
  ·exact ok.nf q hq
 ·simp only[Dr.set]at hq;split at hq
  ·cases hq;exact hf
  ·exact ok.fi q n' hq
 ·obtain rfl:q=p:=by simpa using hq
  exact⟨hp.lo,hp.hi,hp.fr,hp.sp⟩
 ·have hne:q≠p:=by simpa using hn
  exact⟨⟨hq.lo,hq.hi,hq.fr,hq.sp⟩,hn,nI rfl rfl (by simp[Dr.set,hne]),rfl⟩
 ·by_cases hq:q∈[p]
  ·exact .inl hq
  ·exact .inr ⟨a,b,hq⟩
theorem NL (ok:Sd room S)(h0:(S.x.alloc room).1.2=0){X:List Int}(hX:X=[]∨∃id,X=[id]∧S.may id=false)(n:Nd)(hf:cE n=true):
  Fm room d 2 S X ((S.took room).set (S.x.alloc room).1.1 n) [(S.x.alloc room).1.1]∧((S.took room).set (S.x.alloc room).1.1 n).vw d (S.x.alloc room).1.1=(n,0):=by
 have T:Tk d room S.x (S.x.alloc room).2 (S.x.alloc room).1.1:=zA ok.x h0;have hsp:∀q∈S.spare,q<S.x.pages∧¬cX S.x.free q:=fun q hq=>by
  have h1:=ok.sp q hq;refine⟨(ok.x.fs q h1).2,fun c=>?_⟩;rw[ok.x.dj q c]at h1;cases h1
 have hs2:∀q∈S.spare,((S.x.alloc room).2.fresh q).isSome=true:=fun q hq=>by
  rw[T.fs,dA,ok.sp q hq,Bool.or_true]
 have hpm:((S.took room).set (S.x.alloc room).1.1 n).may (S.x.alloc room).1.1=true:=by
  rw[dM];refine⟨?_,fun hs=>T.ne (hsp _ hs).1 (hsp _ hs).2 rfl⟩;show((S.x.alloc room).2.fresh _).isSome=true;rw[T.fs,dA];simp
 refine⟨⟨⟨T.ok,hs2,fun q hq=>?_,ok.sn,fun q n' hq=>?_,fun q c hc=>?_,fun q hq=>?_⟩,fun q hq=>?_,by simp,fun q hq hn=>?_,fun q a b=>?_,?_,?_,?_,?_,rfl,?_,fun hc=>?_⟩,by simp[Dr.vw,Dr.read,Dr.set]⟩
 ·simp only[Dr.set,Dr.took]at hq⊢;split at hq
  ·rename_i e
   rw[e];have:=(dM _ _).1 hpm;exact this
  ·have:=ok.nf q hq;exact⟨by rw[T.fs,dA,this.1,Bool.or_true],this.2⟩
 ·simp only[Dr.set,Dr.took]at hq;split at hq
  ·cases hq;exact hf
  ·exact ok.fi q n' hq
 ·have hc:(S.x.alloc room).2.fresh q=some c:=hc;rw[T.fs]at hc;unfold gN at hc;split at hc
  ·cases hc;simp[c0]
  ·exact ok.bz q c hc
 ·show((S.x.alloc room).2.fresh q).isSome=true;rw[T.fs,dA];rcases List.mem_append.1 hq with h1|h1
  ·rw[ok.tk q h1,Bool.or_true]
  ·rw[List.mem_singleton.1 h1];simp
 ·obtain rfl:q=(S.x.alloc room).1.1:=by simpa using hq
  exact⟨T.lo,T.hi,T.nf,fun hs=>T.ne (hsp _ hs).1 (hsp _ hs).2 rfl⟩
 ·have hne:=T.ne hq.hi hq.fr;refine⟨⟨hq.lo,by have:=T.pg;have:=hq.hi;simp only[Dr.set,Dr.took];omega,fun c=>hq.fr (T.fr _ c),hq.sp⟩,by simpa using hne,nI (T.get hne hq.hi hq.fr 1) (T.get hne hq.hi hq.fr 2) (by simp[Dr.set,Dr.took,hne]),?_⟩;simp only[Dr.set,Dr.took];rw[T.fs,dA];simp[hne]
 ·simp only[Dr.set,Dr.took]at a b;rw[T.fs,dA]at a;by_cases hq:q=(S.x.alloc room).1.1
  ·exact .inl (by simp[hq])
  ·have a':(S.x.fresh q).isSome=true:=by simpa[hq]using a
   refine .inr ⟨a',b,?_⟩;rcases hX with rfl| ⟨id,rfl,hid⟩
   ·simp
   ·simp only[List.mem_singleton];rintro rfl;rw[(dM S q).2 ⟨a',b⟩]at hid;cases hid
 ·rcases hX with rfl| ⟨id,rfl,hid⟩<;>simp[Dr.set,Dr.took]
 ·have:=T.cn;rcases hX with rfl| ⟨id,rfl,hid⟩<;>simp[Dr.set,Dr.took,this]
 ·rcases hX with rfl| ⟨id,rfl,hid⟩<;>simp[Dr.set,Dr.took]
 ·rcases hX with rfl| ⟨id,rfl,hid⟩<;>simp[Dr.set,Dr.took]
 ·show(S.x.alloc room).2.cap room+((S.taken++[(S.x.alloc room).1.1]).length:Int)=_;rw[T.cp,List.length_append];simp;omega
 ·rcases hX with rfl| ⟨id,rfl,hid⟩
  ·exact⟨fun q hq=>by rw[List.mem_singleton.1 hq];exact hpm,by simp[Dr.set,Dr.took],by simp[Dr.set,Dr.took];omega⟩
  ·rw[hc id (by simp)]at hid;cases hid
theorem Bk (ok:Sd room S){id:Int}{X:List Int}(hX:(X=[]∧S.may id=false)∨(X=[id]∧Us S id)){n:Nd}(hf:cE n=true){m:Nat}(hb:Bd S m):
  ∃p e S',S.put room id n=some ((p,e),S')∧Er room d 0 S X S' e∧(e=0->Fm room d 2 S X S' [p]∧S'.vw d p=(n,0)∧(S.may id=true->p=id∧S'=S.set id n)):=by
 unfold Dr.put;rw[hb.ok,hf];simp only[Bool.and_self,Bool.true_eq_false,if_false];by_cases hm:S.may id=true
 ·rw[if_pos hm];rcases hX with⟨rfl,h⟩| ⟨rfl,hu⟩
  ·rw[hm]at h;cases h
  ·have:=RQ (d:=d) ok hu hm n hf;exact⟨id,0,_,rfl,fun h=>absurd rfl h,fun _=>⟨this.1.mono (by omega),this.2,fun _=>⟨rfl,rfl⟩⟩⟩
 ·rw[if_neg hm];have hm':S.may id=false:=by simpa using hm
  by_cases h0:(S.x.alloc room).1.2=0
  ·rw[if_pos h0];have:=NL (d:=d) ok h0 (X:=X) (by
    rcases hX with⟨rfl,h⟩| ⟨rfl,hu⟩
    ·exact .inl rfl
    ·exact .inr ⟨id,rfl,hm'⟩) n hf
   exact⟨_,0,_,rfl,fun h=>absurd rfl h,fun _=>⟨this.1,this.2,fun c=>absurd c hm⟩⟩
  ·rw[if_neg h0];refine⟨0,_,_,rfl,fun _=>⟨(sX h0).1,?_⟩,fun c=>absurd c h0⟩;have e1:S.held room=S:=by unfold Dr.held;rw[(sX h0).2.1]
   rw[e1];refine⟨X,Fm.refl ok (fun p hp=>?_) ?_,(sX h0).2.2⟩
   ·rcases hX with⟨rfl,_⟩| ⟨rfl,hu⟩
    ·cases hp
    ·rw[List.mem_singleton.1 hp];exact hu
   ·rcases hX with⟨rfl,_⟩| ⟨rfl,hu⟩<;>simp
theorem Bl (ok:Sd room S){a b:Int}(ha:Us S a)(hb':Us S b)(hab:a≠b){n:Nd}(hf:cE n=true){m:Nat}(hb:Bd S (m+1)):
  ∃p e S',S.fS room a b n=some ((p,e),S')∧Er room d 0 S [a,b] S' e∧(e=0->Fm room d 0 S [a,b] S' [p]∧S'.vw d p=(n,0)):=by
 unfold Dr.fS;rw[hb.ok];simp only[Bool.true_eq_false,if_false];by_cases hm:S.may a=true
 ·rw[if_pos hm];have D:Fm room d 0 S [b] (S.drop b) []:=qP ok hb';have D2:Fm room d 0 S [a,b] (S.drop b) [a]:=(D.ext (Y:=[a]) (by simpa using ha) (by simpa using Ne.symm hab)).perm (List.Perm.swap _ _ _) (List.Perm.refl _);have hm2:(S.drop b).may a=true:=by
   have hm':=(dM S a).1 hm;rw[dM];unfold Dr.drop;split
   ·simp only[List.mem_append,List.mem_singleton,not_or];exact⟨hm'.1,hm'.2,hab⟩
   ·exact hm'
  have hb2:Bd (S.drop b) m:=D.bd hb (by simp;omega);obtain⟨p,e,S',h1,h2,h3⟩:=Bk (d:=d) D.ok (id:=a) (X:=[a]) (.inr ⟨rfl,D2.us a (by simp)⟩) hf hb2;refine⟨p,e,S',h1,D2.er h2,fun he=>?_⟩;obtain⟨f1,f2,f3⟩:=h3 he;obtain⟨rfl,rfl⟩:=f3 hm2;have F:=D2.trans f1;refine⟨⟨F.ok,F.us,F.nd,F.keep,F.tight,?_,?_,?_,?_,F.bot,F.cap,fun hc=>⟨(F.mine hc).1,?_,(F.mine hc).2.2⟩⟩,f2⟩
  ·unfold Dr.drop;split<;>simp[Dr.set]
  ·unfold Dr.drop;split<;>simp[Dr.set]
  ·unfold Dr.drop;split<;>simp[Dr.set]
  ·unfold Dr.drop;split<;>simp[Dr.set]
  ·unfold Dr.drop;split<;>simp[Dr.set]
 ·rw[if_neg hm];have hm':S.may a=false:=by simpa using hm
  have e1:S.drop a=S:=by unfold Dr.drop;rw[if_neg hm]
  rw[e1];have D:Fm room d 0 S [a] S []:=by have:=qP (d:=d) ok ha;rwa [e1]at this
  have D2:Fm room d 0 S [a,b] S [b]:=D.ext (Y:=[b]) (by simpa using hb') (by simpa using hab);obtain⟨p,e,S',h1,h2,h3⟩:=Bk (d:=d) ok (id:=b) (X:=[b]) (.inr ⟨rfl,hb'⟩) hf hb;refine⟨p,e,S',h1,D2.er h2,fun he=>?_⟩;obtain⟨f1,f2,f3⟩:=h3 he;have F:=D2.trans f1;have k1:=f1.cnt;have k2:=f1.nH;have k3:=f1.Bj;have k4:=f1.Du;unfold Dr.put at h1;rw[hb.ok,hf]at h1;simp only[Bool.and_self,Bool.true_eq_false,if_false]at h1;refine⟨⟨F.ok,F.us,F.nd,F.keep,F.tight,?_,?_,?_,?_,F.bot,F.cap,fun hc=>by rw[hc a (by simp)]at hm';cases hm'⟩,f2⟩<;>
  ·by_cases hmb:S.may b=true
   ·rw[if_pos hmb]at h1;cases h1;simp[Dr.set]
   ·rw[if_neg hmb]at h1;by_cases h0:(S.x.alloc room).1.2=0
    ·have:=(zA (d:=d) ok.x h0).cn;rw[if_pos h0]at h1;cases h1;simp[Dr.set,Dr.took,this]
    ·rw[if_neg h0]at h1;cases h1;exact absurd he h0
end
end P
namespace P
open N
theorem oJ {α:Type}{A B A' B':List α}{c x y:α}(h:A++c::B=A'++x::y::B'):
  (∃M,A=A'++x::y::M∧B'=M++c::B)∨(A=A'++[x]∧y=c∧B'=B)∨(A'=A∧x=c∧B=y::B')∨(∃M,A'=A++c::M∧B=M++x::y::B'):=by
 rcases List.append_eq_append_iff.1 h with⟨M,h1,h2⟩| ⟨M,h1,h2⟩
 ·cases M with
  |nil=>
   simp only[List.append_nil]at h1;simp only[List.nil_append]at h2;injection h2 with h3 h4;exact .inr (.inr (.inl ⟨h1,h3.symm,h4⟩))
  |cons z M=>
   rw[List.cons_append]at h2;injection h2 with h3 h4;subst h3;exact .inr (.inr (.inr ⟨M,h1,h4⟩))
 ·cases M with
  |nil=>
   simp only[List.append_nil]at h1;simp only[List.nil_append]at h2;injection h2 with h3 h4;exact .inr (.inr (.inl ⟨h1.symm,h3,h4.symm⟩))
  |cons z M=>
   rw[List.cons_append]at h2;injection h2 with h3 h4;subst h3;cases M with
   |nil=>
    simp only[List.nil_append]at h4;injection h4 with h5 h6;exact .inr (.inl ⟨h1,h5,h6⟩)
   |cons z' M=>
    rw[List.cons_append]at h4;injection h4 with h5 h6;subst h5;exact .inl ⟨M,h1,h6⟩
theorem fx {α:Type}{A B C D:List α}(h:A++B=C++D)(hl:A.length<=C.length):∃M,C=A++M∧B=M++D:=by
 rcases List.append_eq_append_iff.1 h with⟨M,h1,h2⟩| ⟨M,h1,h2⟩
 ·exact⟨M,h1,h2⟩
 ·have:M=[]:=by
   have:=congrArg List.length h1;rw[List.length_append]at this;exact List.length_eq_zero_iff.1 (by omega)
  subst this;exact⟨[],by simpa using h1.symm,by simpa using h2.symm⟩
theorem sY {α:Type}{l:List α}(h:l.length=1):∃x,l=[x]:=by
 match l,h with
 |[x],_=>exact⟨x,rfl⟩
theorem eK {α:Type}{l:List α}{n:Nat}(h:l.length=n+1):∃x m,l=x::m∧m.length=n:=by
 match l,h with
 |x::m,h=>exact⟨x,m,rfl,by simpa using h⟩
section
variable {h:Nat}
abbrev jz (a:KT h)(k:ByteArray)(b:KT h):Nat:=bT h (tJ h a.2 k b.2)
theorem iw {a a' b b':KT h}{k:ByteArray}(h1:bT h a.2<=bT h a'.2)(h2:bT h b.2<=bT h b'.2):jz a k b<=jz a' k b':=by
 unfold jz;rw[oI,oI];omega
theorem KP.one {A B:List (KT h)}{u v c:KT h}{sA sB:List ByteArray}{k:ByteArray}(hA:A.length=sA.length)(hu:bT h u.2<=bT h c.2)(hv:bT h v.2<=bT h c.2){j:Nat}
  (h1:j<A.length->KP (A++u::v::B) (sA++k::sB) j)(h2:A.length<j->KP (A++u::v::B) (sA++k::sB) (j+1))(h3:j≠A.length):KP (A++c::B) (sA++sB) j:=by
 intro A' x y B' um k' jb e1 e2 e3;rcases oJ e1 with⟨M,r1,r2⟩| ⟨r1,r2,r3⟩| ⟨r1,r2,r3⟩| ⟨M,r1,r2⟩
 ·subst r1 r2;obtain⟨M',s1,s2⟩:=fx e2.symm (by simp at hA;omega);subst s1;obtain⟨k'',M'',rfl,_⟩:=eK (l:=M') (n:=1+M.length) (by simp at hA;omega);simp only[List.cons_append]at s2;injection s2 with s3 s4;subst s3;refine⟨fun hj hs=>?_,fun hB=>by simp at hB⟩;exact(h1 (by simp;omega) A' x y (M++u::v::B) um k' (M''++k::sB) (by simp) (by simp) e3).1 hj hs
 ·subst r1 r2 r3;obtain⟨M',s1,s2⟩:=fx e2.symm (by simp at hA;omega);subst s1;obtain⟨k'',rfl⟩:=sY (l:=M') (by simp at hA;omega);simp only[List.cons_append,List.nil_append]at s2;injection s2 with s3 s4;subst s3;refine⟨fun hj hs=>?_,fun hB hj=>by simp at h3;omega⟩;exact Nat.lt_of_lt_of_le ((h1 (by simp;omega) A' x u (v::B') um k' (k::sB) (by simp) (by simp) e3).1 hj hs) (iw (Nat.le_refl _) hu)
 ·subst r1 r2 r3;obtain⟨M',s1,s2⟩:=fx e2 (by omega);have:M'=[]:=by
   have:=congrArg List.length s1;rw[List.length_append]at this;exact List.length_eq_zero_iff.1 (by omega)
  subst this;simp only[List.append_nil,List.nil_append]at s1 s2;subst s1 s2;refine⟨fun hj=>by omega,fun hB hj hs=>?_⟩;exact Nat.lt_of_lt_of_le ((h2 (by omega) (A'++[u]) v y B' (um++[k]) k' jb (by simp) (by simp) (by simp[e3])).2 hB (by simp;omega) hs) (iw hv (Nat.le_refl _))
 ·subst r1 r2;obtain⟨M',s1,s2⟩:=fx e2 (by simp at e3;omega);subst s1 s2;have hl:M'.length=1+M.length:=by simp at e3;omega
  exact⟨fun hj hs=>(h2 (by rw[hj];simp) (A++u::v::M) x y B' (sA++k::M') k' jb (by simp) (by simp) (by simp;omega)).1 (by rw[hj];simp;omega) hs,fun hB hj hs=>(h2 (by rw[hj];simp;omega) (A++u::v::M) x y B' (sA++k::M') k' jb (by simp) (by simp) (by simp;omega)).2 hB (by rw[hj];simp;omega) hs⟩
theorem KP.glue {A B:List (KT h)}{u v:KT h}{sA sB:List ByteArray}{k:ByteArray}(hA:A.length=sA.length)(ha:∀j,KP (A++[u]) sA j)(hb:∀j,KP (v::B) sB j)
  (hp:(bT h u.2<80->240<jz u k v)∧(B=[]->bT h v.2<80->240<jz u k v))(j:Nat):KP (A++u::v::B) (sA++k::sB) j:=by
 intro A' x y B' um k' jb e1 e2 e3;rcases oJ e1 with⟨M,r1,r2⟩| ⟨r1,r2,r3⟩| ⟨r1,r2,r3⟩| ⟨M,r1,r2⟩
 ·subst r1 r2;obtain⟨M',s1,s2⟩:=fx e2.symm (by simp at hA;omega);subst s1;obtain⟨k'',M'',rfl,_⟩:=eK (l:=M') (n:=1+M.length) (by simp at hA;omega);simp only[List.cons_append]at s2;injection s2 with s3 s4;subst s3;exact⟨fun hj hs=>(ha j A' x y (M++[u]) um k' M'' (by simp) rfl e3).1 hj hs,fun hB=>by simp at hB⟩
 ·subst r1 r2 r3;obtain⟨M',s1,s2⟩:=fx e2.symm (by simp at hA;omega);subst s1;obtain⟨k'',rfl⟩:=sY (l:=M') (by simp at hA;omega);simp only[List.cons_append,List.nil_append]at s2;injection s2 with s3 s4;subst s3;exact⟨fun hj hs=>(ha j A' x y [] um k' [] (by simp) rfl e3).1 hj hs,fun hB=>by simp at hB⟩
 ·injection r3 with r4 r5;subst r1 r2 r4 r5;obtain⟨M',s1,s2⟩:=fx e2 (by omega);have:M'=[]:=by
   have:=congrArg List.length s1;rw[List.length_append]at this;exact List.length_eq_zero_iff.1 (by omega)
  subst this;simp only[List.append_nil,List.nil_append]at s1 s2;injection s2 with s3 s4;subst s1 s3 s4;exact⟨fun _ hs=>hp.1 hs,fun hB _ hs=>hp.2 hB hs⟩
 ·subst r1;obtain⟨M',s1,s2⟩:=fx e2 (by simp at e3;omega);subst s1;obtain⟨k'',M'',rfl,hl⟩:=eK (l:=M') (n:=M.length) (by simp at e3;omega);simp only[List.cons_append]at s2;injection s2 with s3 s4;subst s3;exact⟨fun _ hs=>(hb M.length M x y B' M'' k' jb r2 s4 hl.symm).1 rfl hs,fun hB _ hs=>(hb (M.length+1) M x y B' M'' k' jb r2 s4 hl.symm).2 hB rfl hs⟩
theorem KP.meet {A B:List (KT h)}{u v c:KT h}{sA sB:List ByteArray}(hA:A.length=sA.length)(ha:∀j,KP (A++[u]) sA j)(hb:∀j,KP (v::B) sB j)
  (hu:bT h u.2<=bT h c.2)(hv:bT h v.2<=bT h c.2)(j:Nat):KP (A++c::B) (sA++sB) j:=by
 intro A' x y B' um k' jb e1 e2 e3;rcases oJ e1 with⟨M,r1,r2⟩| ⟨r1,r2,r3⟩| ⟨r1,r2,r3⟩| ⟨M,r1,r2⟩
 ·subst r1 r2;obtain⟨M',s1,s2⟩:=fx e2.symm (by simp at hA;omega);subst s1;obtain⟨k'',M'',rfl,_⟩:=eK (l:=M') (n:=1+M.length) (by simp at hA;omega);simp only[List.cons_append]at s2;injection s2 with s3 s4;subst s3;exact⟨fun hj hs=>(ha j A' x y (M++[u]) um k' M'' (by simp) rfl e3).1 hj hs,fun hB=>by simp at hB⟩
 ·subst r1 r2 r3;obtain⟨M',s1,s2⟩:=fx e2.symm (by simp at hA;omega);subst s1;obtain⟨k'',rfl⟩:=sY (l:=M') (by simp at hA;omega);simp only[List.cons_append,List.nil_append]at s2;injection s2 with s3 s4;subst s3;exact⟨fun hj hs=>Nat.lt_of_lt_of_le ((ha j A' x u [] um k' [] (by simp) rfl e3).1 hj hs) (iw (Nat.le_refl _) hu),fun hB hj hs=>Nat.lt_of_lt_of_le ((ha j A' x u [] um k' [] (by simp) rfl e3).2 rfl hj (by omega)) (iw (Nat.le_refl _) hu)⟩
 ·subst r1 r2 r3;obtain⟨M',s1,s2⟩:=fx e2 (by omega);have:M'=[]:=by
   have:=congrArg List.length s1;rw[List.length_append]at this;exact List.length_eq_zero_iff.1 (by omega)
  subst this;simp only[List.append_nil,List.nil_append]at s1 s2;subst s1 s2;exact⟨fun _ hs=>Nat.lt_of_lt_of_le ((hb 0 [] v y B' [] k' jb rfl rfl rfl).1 rfl (by omega)) (iw hv (Nat.le_refl _)),fun hB _ hs=>Nat.lt_of_lt_of_le ((hb 1 [] v y B' [] k' jb rfl rfl rfl).2 hB rfl hs) (iw hv (Nat.le_refl _))⟩
 ·subst r1 r2;obtain⟨M',s1,s2⟩:=fx e2 (by simp at e3;omega);subst s1 s2;have hl:M'.length=1+M.length:=by simp at e3;omega
  exact⟨fun _ hs=>(hb (M.length+1) (v::M) x y B' M' k' jb rfl rfl (by simp;omega)).1 rfl hs,fun hB _ hs=>(hb (M.length+2) (v::M) x y B' M' k' jb rfl rfl (by simp;omega)).2 hB rfl hs⟩
end
end P
namespace P
open N
theorem getD_at {α:Type}(A:List α)(x:α)(B:List α)(z:α):(A++x::B).getD A.length z=x:=by
 simp[List.getD_eq_getElem?_getD]
theorem kL {l:List En}:2*l.length<=cP l:=by
 induction l with
 |nil=>simp
 |cons x l ih=>simp only[cP,k8,List.length_cons];omega
theorem kM {l:List ByteArray}:5*l.length<=bW l:=by
 induction l with
 |nil=>simp
 |cons x l ih=>simp only[bW,List.length_cons];omega
section
variable {room:Nat}{d:Dk}{S:Dr}{h:Nat}
def bJ (K:List (KT h))(ss:List ByteArray):BT (h+1):=(K,ss)
theorem bV (K:List (KT h))(ss:List ByteArray):aV (h+1) (bJ K ss)=⟨false,[],K.map Prod.fst,ss⟩:=rfl
theorem Pf (K:List (KT h))(ss:List ByteArray):l8 (h+1) (bJ K ss)=iq K:=rfl
theorem Jn (K:List (KT h))(ss:List ByteArray):cx (h+1) (bJ K ss)=dm K ss:=rfl
theorem pA (K:List (KT h))(ss:List ByteArray):dW (h+1) (bJ K ss)=bO K:=rfl
theorem sZ (K:List (KT h))(ss:List ByteArray):bT (h+1) (bJ K ss)=4+bW ss:=rfl
theorem td (K:List (KT h))(ss:List ByteArray):Wl (h+1) (bJ K ss)=(ss.length+1=K.length∧(∀i,KP K ss i)∧∀u∈K,Wl h u.2∧bT h u.2<=240):=rfl
theorem Jo (K:List (KT h))(ss:List ByteArray)(k:ByteArray)(K':List (KT h))(ss':List ByteArray):tJ (h+1) (bJ K ss) k (bJ K' ss')=bJ (K++K') (ss++k::ss'):=rfl
theorem fG (t:BT (h+1)):∃K ss,t=bJ K ss:=⟨t.1,t.2,rfl⟩
theorem YN (l:List En):aV 0 l=⟨true,l,[],[]⟩:=rfl
abbrev dO (u:KT h):List Int:=(oH u).map Prod.fst
abbrev aW (K:List (KT h)):List Int:=(iq K).map Prod.fst
abbrev bu (h:Nat)(t:BT h):List Int:=(l8 h t).map Prod.fst
theorem cC (u:KT h):dO u=u.1::bu h u.2:=rfl
theorem bG (u:KT h)(K:List (KT h)):aW (u::K)=dO u++aW K:=by simp[aW,dG]
theorem bj (A K:List (KT h)):aW (A++K)=aW A++aW K:=by simp[aW,cW]
theorem qQ {K:List (KT h)}{u:KT h}(hu:u∈K):u.1∈aW K:=by
 refine List.mem_map.2 ⟨(u.1,aV h u.2),?_,rfl⟩;exact List.mem_flatten.2 ⟨oH u,List.mem_map_of_mem hu,by simp[oH]⟩
theorem kR (l:List En)(ho:bS (cx 0 l))(hv:∀x∈l,x.2.size<=40):dx (aV 0 l)=true:=(fR rfl).2 ⟨rfl,rfl,bS.leaf ho hv⟩
theorem je (hr:room<=16384)(ok:Sd room S)(K:List (KT h))(ss:List ByteArray)(hl:ss.length+1=K.length)(us:∀p∈aW K,Us S p)(ho:bS (dm K ss)):dx (aV (h+1) (bJ K ss))=true:=by
 rw[bV];refine(fE rfl).2 ⟨rfl,?_,?_,?_,?_⟩
 ·simp;omega
 ·simp;omega
 ·refine Cm fun k hk=>mR.2 ?_;obtain⟨u,hu,rfl⟩:=List.mem_map.1 hk;have hp:Us S u.1:=us u.1 (qQ hu);have h1:=hp.lo;have h2:=hp.hi;have h3:=ok.x.pr;omega
 ·refine bS.keys (ho.sub ?_);rw[dm];exact il _ _ (by simp;omega)
theorem Dv (hr:room<=16384)(ok:Sd room S)(t:BT h)(hw:Wl h t)(us:∀p∈bu h t,Us S p)(ho:bS (cx h t))(hv:∀x∈dW h t,x.2.size<=40):dx (aV h t)=true:=by
 cases h with
 |zero=>exact kR t ho hv
 |succ h=>
  obtain⟨K,ss,rfl⟩:=fG t;exact je hr ok K ss hw.1 us ho
theorem kS (l:List En)(hs:bT 0 l<=1000):cB (aV 0 l)=true:=by
 have h1:2*l.length<=cP l:=kL;have h2:cP l<=1000:=hs;rw[YN];simp only[cB,Bool.and_eq_true,decide_eq_true_eq,bW,List.all_nil,List.length_nil];refine⟨⟨⟨⟨⟨?_,?_⟩,?_⟩,?_⟩,?_⟩,trivial⟩<;>first|omega|rfl
theorem Jp (hr:room<=16384)(ok:Sd room S)(K:List (KT h))(ss:List ByteArray)(hl:K.length<=ss.length+1)(hs:bW ss<=1000)(us:∀p∈aW K,Us S p):cB (aV (h+1) (bJ K ss))=true:=by
 have h1:5*ss.length<=bW ss:=kM;rw[bV];simp only[cB,Bool.and_eq_true,decide_eq_true_eq,cP,List.all_eq_true,List.length_nil,List.length_map];refine⟨⟨⟨⟨⟨?_,?_⟩,?_⟩,?_⟩,?_⟩,fun k hk=>?_⟩
 iterate 5 (first|omega|rfl)
 obtain⟨u,hu,rfl⟩:=List.mem_map.1 hk;have hp:Us S u.1:=us u.1 (qQ hu);have h1:=hp.lo;have h2:=hp.hi;have h3:=ok.x.pr;omega
theorem kr {K:List (KT h)}(is:py S d (iq K)){u:KT h}(hu:u∈K){depth:Int}(hd:depth<24):S.read d u.1 depth=(aV h u.2,0):=by
 rw[S.gO d _ _ hd];exact is (u.1,aV h u.2) (List.mem_flatten.2 ⟨oH u,List.mem_map_of_mem hu,by simp[oH]⟩)
theorem RZ {A B:List (KT h)}{u v:KT h}{sA sB:List ByteArray}{k:ByteArray}(hA:A.length=sA.length)(hB:B.length=sB.length)(p:Int)(c:BT h):
  gp (aV (h+1) (bJ (A++u::v::B) (sA++k::sB))) (A.length:Int) ((A.length:Int)+2) [p] []=aV (h+1) (bJ (A++(p,c)::B) (sA++sB)):=by
 have e1:((A.length:Int)+2).toNat=A.length+2:=by omega
 have e2:((A.length:Int)).toNat=A.length:=by omega
 rw[bV,bV,gp,if_pos]
 ·rw[e1,e2];have e3:uN A.length [p]=A.length:=by simp[uN]
  have e4:uO A.length (A.length+2) [p]=A.length+1:=by simp[uO]
  rw[e3,e4];have f1:iG ((A++u::v::B).map Prod.fst) A.length (A.length+2) [p]=(A++(p,c)::B).map Prod.fst:=by
   unfold iG;rw[List.map_append,List.map_append,List.take_append_of_le_length (by simp),List.drop_append];simp[List.take_of_length_le]
  have f2:iG (sA++k::sB) A.length (A.length+1) []=sA++sB:=by
   unfold iG;rw[hA,List.take_append_of_le_length (Nat.le_refl _),List.drop_append];simp
  rw[f1,f2]
 ·simp[swB];omega
theorem Vq (hr:room<=16384)(ok:Sd room S)(a b:BT h)(k:ByteArray)(ha:Wl h a)(hb:Wl h b)(us:∀p∈bu h a++bu h b,Us S p)(ho:bS (cx h a++(true,k)::cx h b))(hv:∀x∈dW h a++dW h b,x.2.size<=40):dx (ji (aV h a) k (aV h b))=true:=by
 rw[<-xa];have ho':=ho.sub (sW h a b k ha);cases h with
 |zero=>exact kR _ ho' (by rw[<-Jm 0 a b k]at hv;exact hv)
 |succ h=>
  obtain⟨K,ss,rfl⟩:=fG a;obtain⟨K',ss',rfl⟩:=fG b;rw[Jo];refine je hr ok _ _ ?_ ?_ (by rw[Jo]at ho';exact ho')
  ·have h1:=ha.1;have h2:=hb.1;simp only[bJ]at h1 h2;simp;omega
  ·rw[bj];exact us
theorem Ph (hr:room<=16384)(ok:Sd room S)(a b:BT h)(k:ByteArray)(ha:Wl h a)(hb:Wl h b)(us:∀p∈bu h a++bu h b,Us S p)(ho:bS (cx h a++(true,k)::cx h b))(hv:∀x∈dW h a++dW h b,x.2.size<=40):cE (ji (aV h a) k (aV h b))=decide (bT h (tJ h a k b)<=240):=by
 unfold cE;rw[Vq hr ok a b k ha hb us ho hv,<-xa,Bool.true_and];rfl
def l9 (room:Nat)(d:Dk)(h:Nat):Prop:=
 ∀(S:Dr) (a b:BT h) (k:ByteArray) (depth:Int) (f m:Nat),Sd room S->Wl h a->Wl h b->(∀p∈bu h a++bu h b,Us S p)->(bu h a++bu h b).Nodup->py S d (l8 h a++l8 h b)->bS (cx h a++(true,k)::cx h b)->(∀x∈dW h a++dW h b,x.2.size<=40)->bT h (tJ h a k b)<=240->depth+h<24->3*(bu h a++bu h b).length+3<=f->Bd S ((bu h a++bu h b).length+1+m)->
  ∃n e S1,bh room d f S (ji (aV h a) k (aV h b)) depth (max (((aV h a).ks.length:Int)-1) 0) (((aV h a).ks.length:Int)+1)=some ((n,e),S1)∧Er room d 0 S (bu h a++bu h b) S1 e∧(e=0->∃c,n=aV h c∧Wl h c∧py S1 d (l8 h c)∧Fm room d 0 S (bu h a++bu h b) S1 (bu h c)∧(cx h c).Sublist (cx h a++(true,k)::cx h b)∧dW h c=dW h a++dW h b∧bT h a<=bT h c∧bT h b<=bT h c∧bT h c<=240∧(bu h c).length<=(bu h a++bu h b).length)
structure Rw (room:Nat)(d:Dk)(S:Dr)(h:Nat)(K:List (KT h))(ss:List ByteArray):Prop where
 sd:Sd room S
 wl:∀u∈K,Wl h u.2∧bT h u.2<=240
 us:∀p∈aW K,Us S p
 nd:(aW K).Nodup
 is:py S d (iq K)
 od:bS (dm K ss)
 vl:∀x∈bO K,x.2.size<=40
 sz:bW ss<=1000
 ln:ss.length+1=K.length∨(K=[]∧ss=[])
theorem Rw.pair {A B:List (KT h)}{u v:KT h}{sA sB:List ByteArray}{k:ByteArray}(R:Rw room d S h (A++u::v::B) (sA++k::sB))(hA:A.length=sA.length):
  (∀p∈bu h u.2++bu h v.2,Us S p)∧(bu h u.2++bu h v.2).Nodup∧py S d (l8 h u.2++l8 h v.2)∧bS (cx h u.2++(true,k)::cx h v.2)∧(∀x∈dW h u.2++dW h v.2,x.2.size<=40):=by
 have e1:iq (A++u::v::B)=iq A++((u.1,aV h u.2)::l8 h u.2++((v.1,aV h v.2)::l8 h v.2++iq B)):=by
  rw[cW,dG,dG];rfl
 have hs:(l8 h u.2++l8 h v.2).Sublist (iq (A++u::v::B)):=by
  rw[e1];refine List.Sublist.trans ?_ (List.sublist_append_right _ _);refine List.Sublist.append (List.sublist_cons_self _ _) ?_;exact List.Sublist.trans (List.sublist_cons_self _ _) (List.sublist_append_left _ _)
 have hp:(bu h u.2++bu h v.2).Sublist (aW (A++u::v::B)):=by
  have:=hs.map Prod.fst
  rwa [List.map_append]at this
 refine⟨fun p hq=>R.us p (hp.subset hq),R.nd.sublist hp,fun x hx=>R.is x (hs.subset hx),?_,fun x hx=>R.vl x ?_⟩
 ·refine R.od.sub ?_;rw[qO hA];refine List.Sublist.trans ?_ (List.sublist_append_right _ _);exact List.Sublist.append (List.Sublist.refl _) (List.Sublist.cons_cons _ (List.sublist_append_left _ _))
 ·rw[cA,bX,bX];simp only[List.mem_append]at hx⊢;rcases hx with hx|hx
  ·exact .inr (.inl hx)
  ·exact .inr (.inr (.inl hx))
theorem Dw (hr:room<=16384){A B:List (KT h)}{u v w:KT h}{sA sB:List ByteArray}{k:ByteArray}(R:Rw room d S h (A++u::v::B) (sA++k::sB))(hA:A.length=sA.length){depth i:Int}(hd:depth+1<24)
  (hw:w=u∨w=v)(R7:((A++u::v::B).map Prod.fst).getD i.toNat 0=w.1)(hk:bT h w.2<80->240<jz u k v)(rec:qF):
  fV rec room d S (aV (h+1) (bJ (A++u::v::B) (sA++k::sB))) depth i (A.length:Int)=some ((aV (h+1) (bJ (A++u::v::B) (sA++k::sB)),false,0),S):=by
 obtain⟨p1,p2,p3,p4,p5⟩:=R.pair hA;have wu:=(R.wl u (by simp)).1;have wv:=(R.wl v (by simp)).1;have r0:S.read d w.1 (depth+1)=(aV h w.2,0):=kr R.is (by rcases hw with rfl|rfl<;>simp) hd;have r1:S.read d u.1 (depth+1)=(aV h u.2,0):=kr R.is (by simp) hd;have r2:S.read d v.1 (depth+1)=(aV h v.2,0):=kr R.is (by simp) hd;have g1:((A++u::v::B).map Prod.fst).getD ((A.length:Int)).toNat 0=u.1:=by
  simp[List.getD_eq_getElem?_getD]
 have g2:((A++u::v::B).map Prod.fst).getD (((A.length:Int)).toNat+1) 0=v.1:=by
  simp[List.getD_eq_getElem?_getD]
 have g3:(sA++k::sB).getD ((A.length:Int)).toNat ⟨#[]⟩=k:=by
  have:=getD_at sA k sB ⟨#[]⟩;rw[show((A.length:Int)).toNat=sA.length by omega];exact this
 have hf:=Ph hr R.sd u.2 v.2 k wu wv p1 p4 p5;rw[bV];unfold fV;simp only[R7,g1,g2,g3,r0,r1,r2,hf];rw[if_neg (by omega),if_neg (by simp)];by_cases hs:80<=dZ (aV h w.2)
 ·rw[if_pos hs]
 ·rw[if_neg hs,if_neg (by simp),if_neg (by simp),if_neg (by simp;omega),if_pos];have:=hk (by unfold bT;omega);unfold jz at this;exact .inr (decide_eq_false (by omega))
theorem th (hr:room<=16384)(HJ:l9 room d h){A B:List (KT h)}{u v w:KT h}{sA sB:List ByteArray}{k:ByteArray}(R:Rw room d S h (A++u::v::B) (sA++k::sB))(hA:A.length=sA.length)(hB:B.length=sB.length){depth i:Int}(hd:depth+1+h<24)
    (hw:w=u∨w=v)(R7:((A++u::v::B).map Prod.fst).getD i.toNat 0=w.1)(hk:bT h w.2<80)(hj:jz u k v<=240){f m:Nat}(hf:3*(bu h u.2++bu h v.2).length+3<=f)(hb:Bd S ((bu h u.2++bu h v.2).length+2+m)):
    ∃n j e S2,fV (fun S n depth i tt=>bh room d f S n depth (max i 0) tt) room d S (aV (h+1) (bJ (A++u::v::B) (sA++k::sB))) depth i (A.length:Int)=some ((n,j,e),S2)∧Er room d 0 S (dO u++dO v) S2 e∧
      (e=0->j=true∧∃p c,n=aV (h+1) (bJ (A++(p,c)::B) (sA++sB))∧Wl h c∧bT h c<=240∧bT h u.2<=bT h c∧bT h v.2<=bT h c∧py S2 d (oH (p,c))∧Fm room d 0 S (dO u++dO v) S2 (dO (p,c))∧(cx h c).Sublist (cx h u.2++(true,k)::cx h v.2)∧dW h c=dW h u.2++dW h v.2∧(dO (p,c)).length+1<=(dO u++dO v).length):=by
  obtain⟨p1,p2,p3,p4,p5⟩:=R.pair hA;have wu:=(R.wl u (by simp)).1;have wv:=(R.wl v (by simp)).1;have hd':depth+1<24:=by omega
  have r0:S.read d w.1 (depth+1)=(aV h w.2,0):=kr R.is (by rcases hw with rfl|rfl<;>simp) hd';have r1:S.read d u.1 (depth+1)=(aV h u.2,0):=kr R.is (by simp) hd';have r2:S.read d v.1 (depth+1)=(aV h v.2,0):=kr R.is (by simp) hd';have g1:((A++u::v::B).map Prod.fst).getD ((A.length:Int)).toNat 0=u.1:=by
    simp[List.getD_eq_getElem?_getD]
  have g2:((A++u::v::B).map Prod.fst).getD (((A.length:Int)).toNat+1) 0=v.1:=by
    simp[List.getD_eq_getElem?_getD]
  have g3:(sA++k::sB).getD ((A.length:Int)).toNat ⟨#[]⟩=k:=by
    have:=getD_at sA k sB ⟨#[]⟩;rw[show((A.length:Int)).toNat=sA.length by omega];exact this
  have hfi:=Ph hr R.sd u.2 v.2 k wu wv p1 p4 p5;have hlf:(aV h u.2).leaf=(aV h v.2).leaf:=by rw[zx,zx]
  have YO:cE (ji (aV h u.2) k (aV h v.2))=true:=by rw[hfi];exact decide_eq_true hj
  have hs:¬80<=dZ (aV h w.2):=by unfold bT at hk;omega
  obtain⟨n,e,S1,h1,h2,h3⟩:=HJ S u.2 v.2 k (depth+1) f (m+1) R.sd wu wv p1 p2 p3 p4 p5 hj hd hf (hb.mono (by omega));have hsub:(dO u++dO v).Sublist (aW (A++u::v::B)):=by
    rw[bj,bG,bG];refine List.Sublist.trans ?_ (List.sublist_append_right _ _);exact List.Sublist.append (List.Sublist.refl _) (List.sublist_append_left _ _)
  have hnd:=R.nd.sublist hsub;have Pj:∀p∈dO u++dO v,Us S p:=fun p hp=>R.us p (hsub.subset hp);have hperm:((bu h u.2++bu h v.2)++[u.1,v.1]).Perm (dO u++dO v):=by
    rw[cC,cC];refine List.perm_append_comm.trans ?_;show(u.1::(v.1::(bu h u.2++bu h v.2))).Perm (u.1::(bu h u.2++v.1::bu h v.2));exact List.Perm.cons _ List.perm_middle.symm
  have hnd':=hperm.nodup_iff.2 hnd;obtain⟨n1,n2,n3⟩:=List.nodup_append.1 hnd';have WT:Us S u.1:=Pj u.1 (hperm.mem_iff.1 (by simp));have huv:Us S v.1:=Pj v.1 (hperm.mem_iff.1 (by simp));have YP:u.1≠v.1:=by simpa using n2
  rw[bV];unfold fV;simp only[R7,g1,g2,g3,r0,r1,r2,YO,hlf];rw[if_neg (by omega),if_neg (by simp),if_neg hs,if_neg (by simp),if_neg (by simp),if_neg (by simp;omega),if_neg (by simp),h1];simp only;by_cases he:e=0
  · subst he;obtain⟨c,rfl,wc,ic,F1,sc,ec,z1,z2,z3,z4⟩:=h3 rfl;rw[if_neg (by simp)];have u1:=F1.zy WT (fun hx=>n3 _ hx u.1 (by simp) rfl);have u2:=F1.zy huv (fun hx=>n3 _ hx v.1 (by simp) rfl);have hv:∀x∈dW h c,x.2.size<=40:=by rw[ec];exact p5
    have hfc:cE (aV h c)=true:=by
      unfold cE;rw[Dv hr F1.ok c wc F1.us (p4.sub sc) hv,Bool.true_and];exact decide_eq_true z3
    obtain⟨p,e2,S2,k1,k2,k3⟩:=Bl (d:=d) F1.ok u1.1 u2.1 YP hfc (m:=m) (F1.bd hb (by simp only[List.length_append]at*;omega));rw[k1];have E1:=F1.ext (Y:=[u.1,v.1]) (by simp[WT,huv]) hnd';have ndc:([u.1,v.1]++bu h c).Nodup:=(List.perm_append_comm.nodup_iff).1 E1.nd;refine⟨_,_,_,_,rfl,((E1.perm hperm List.perm_append_comm).er (k2.ext F1.us ndc)).mono (by omega),fun he2=>⟨rfl,p,c,?_,wc,z3,z1,z2,?_,?_,sc,ec,?_⟩⟩
    · rw[<-bV];exact RZ hA hB p c
    · obtain⟨F2,v2⟩:=k3 he2;intro x hx;rcases List.mem_cons.1 hx with rfl|hx
      · exact v2
      · exact F2.NK ic F1.us (fun q hq=>by
          have hm:q∈bu h c:=hq
          intro hc
          rcases List.mem_cons.1 hc with rfl|hc
          · exact u1.2 hm
          · rw[List.mem_singleton.1 hc]at hm
            exact u2.2 hm) x hx
    · obtain⟨F2,v2⟩:=k3 he2;have E1:=F1.ext (Y:=[u.1,v.1]) (by simp[WT,huv]) hnd';have E2:=F2.ext (Y:=bu h c) F1.us (by
        have:=E1.nd
        exact(List.perm_append_comm.nodup_iff).1 this)
      exact(E1.trans (E2.perm List.perm_append_comm (List.Perm.refl _))).perm hperm (List.Perm.refl _)
    · have:=hperm.length_eq;rw[cC];simp only[List.length_append,List.length_cons,List.length_nil]at this z4⊢;omega
  · rw[if_pos he];exact⟨_,_,_,_,rfl,(h2.ext (Y:=[u.1,v.1]) (by simp[WT,huv]) hnd').perm hperm,fun h0=>absurd h0 he⟩
end
end P
namespace P
open N
section
variable {room:Nat}{d:Dk}{S:Dr}{h:Nat}
theorem Rw.sm (hr:room<=16384){K:List (KT h)}{ss:List ByteArray}(R:Rw room d S h K ss):cB (aV (h+1) (bJ K ss))=true:=
 Jp hr R.sd K ss (by rcases R.ln with e| ⟨e1,e2⟩<;>simp[*]<;>omega) R.sz R.us
theorem jH {f:Nat}{n:Nd}{depth i tt:Int}(hs:cB n=true)(hi:0<=i)(he:¬i<min tt (n.ks.length:Int)):bh room d (f+1) S n depth i tt=some ((n,0),S):=by
 rw[bh,if_neg (by simp[hs];omega),if_neg he]
theorem oK {f:Nat}{n:Nd}{depth i tt:Int}(hs:cB n=true)(hi:0<=i)(he:i<min tt (n.ks.length:Int))
  (hj:fV (fun S n depth i tt=>bh room d f S n depth (max i 0) tt) room d S n depth i (min i ((n.ks.length:Int)-2))=some ((n,false,0),S)):bh room d (f+1) S n depth i tt=bh room d f S n depth (i+1) tt:=by
 rw[bh,if_neg (by simp[hs];omega),if_pos he,hj];simp
theorem ma {f:Nat}{n m:Nd}{S2:Dr}{depth i tt:Int}(hs:cB n=true)(hi:0<=i)(he:i<min tt (n.ks.length:Int))
  (hj:fV (fun S n depth i tt=>bh room d f S n depth (max i 0) tt) room d S n depth i (min i ((n.ks.length:Int)-2))=some ((m,true,0),S2)):bh room d (f+1) S n depth i tt=bh room d f S2 m depth (min i ((n.ks.length:Int)-2)) tt:=by
 rw[bh,if_neg (by simp[hs];omega),if_pos he,hj];simp
theorem mb {f:Nat}{n m:Nd}{S2:Dr}{j:Bool}{e depth i tt:Int}(hs:cB n=true)(hi:0<=i)(he:i<min tt (n.ks.length:Int))(h0:e≠0)
  (hj:fV (fun S n depth i tt=>bh room d f S n depth (max i 0) tt) room d S n depth i (min i ((n.ks.length:Int)-2))=some ((m,j,e),S2)):bh room d (f+1) S n depth i tt=some ((nd0,e),S2):=by
 rw[bh,if_neg (by simp[hs];omega),if_pos he,hj];simp[h0]
theorem Dx {K:List (KT h)}{ss:List ByteArray}(hl:ss.length+1=K.length)(h2:2<=K.length){i:Nat}(hi:i<K.length):
  ∃A u v B sA k sB,K=A++u::v::B∧ss=sA++k::sB∧A.length=sA.length∧B.length=sB.length∧min (i:Int) ((K.length:Int)-2)=(A.length:Int)∧(i=A.length∨(i=A.length+1∧B=[])):=by
 obtain⟨q,hq⟩:∃q,q=min i (K.length-2):=⟨_,rfl⟩;have e1:K=K.take q++K.drop q:=(List.take_append_drop q K).symm;have e2:ss=ss.take q++ss.drop q:=(List.take_append_drop q ss).symm;obtain⟨u,K1,r1,l1⟩:=eK (l:=K.drop q) (n:=K.length-q-1) (by rw[List.length_drop];omega);obtain⟨v,B,r2,l2⟩:=eK (l:=K1) (n:=K.length-q-2) (by omega);obtain⟨k,sB,r3,l3⟩:=eK (l:=ss.drop q) (n:=ss.length-q-1) (by rw[List.length_drop];omega);rw[r1,r2]at e1;rw[r3]at e2;have lA:(K.take q).length=q:=by rw[List.length_take];omega
 refine⟨K.take q,u,v,B,ss.take q,k,sB,e1,e2,?_,by omega,by omega,?_⟩
 ·rw[lA,List.length_take];omega
 ·rw[lA];by_cases hc:i<=K.length-2
  ·exact .inl (by omega)
  ·exact .inr ⟨by omega,List.length_eq_zero_iff.1 (by omega)⟩
theorem Vr {A B:List (KT h)}{u v:KT h}{sA sB:List ByteArray}{k:ByteArray}(hA:A.length=sA.length){i:Nat}
    (hp:(i=A.length∧(bT h u.2<80->240<jz u k v))∨(i=A.length+1∧B=[]∧(bT h v.2<80->240<jz u k v))):KP (A++u::v::B) (sA++k::sB) i:=by
  intro A' x y B' um k' jb e1 e2 e3;have hlen:=congrArg List.length e1;simp only[List.length_append,List.length_cons]at hlen;have key:A.length=A'.length->x=u∧y=v∧k'=k:=fun hq=>by
    obtain⟨r1,r2⟩:=List.append_inj e1 hq;obtain⟨s1,s2⟩:=List.append_inj e2 (by omega);injection r2 with r3 r4;injection r4 with r5 r6;injection s2 with s3 s4;exact⟨r3.symm,r5.symm,s3.symm⟩
  rcases hp with⟨rfl,hp⟩| ⟨rfl,rfl,hp⟩
  · refine⟨fun hj hs=>?_,fun hB hj=>?_⟩
    · obtain⟨rfl,rfl,rfl⟩:=key hj;exact hp hs
    · subst hB;simp at hlen;omega
  · refine⟨fun hj hs=>?_,fun hB hj hs=>?_⟩
    · simp at hlen;omega
    · obtain⟨rfl,rfl,rfl⟩:=key (by omega);exact hp hs
theorem Jq {A B:List (KT h)}{u v:KT h}{i:Nat}(hi:i=A.length∨(i=A.length+1∧B=[])):∃w,(w=u∨w=v)∧((A++u::v::B).map Prod.fst).getD ((i:Int)).toNat 0=w.1∧((i=A.length∧w=u)∨(i=A.length+1∧B=[]∧w=v)):=by
 rcases hi with rfl| ⟨rfl,rfl⟩
 ·exact⟨u,.inl rfl,by simp[List.getD_eq_getElem?_getD],.inl ⟨rfl,rfl⟩⟩
 ·exact⟨v,.inr rfl,by rw[show((A.length+1:Nat):Int).toNat=A.length+1 by omega];simp[List.getD_eq_getElem?_getD],.inr ⟨rfl,rfl,rfl⟩⟩
theorem Dy (hr:room<=16384){K:List (KT h)}{ss:List ByteArray}(R:Rw room d S h K ss){i:Nat}(hi:i<K.length)(hk:KP K ss i){depth:Int}(hd:depth+1<24)(rec:qF):
  fV rec room d S (aV (h+1) (bJ K ss)) depth (i:Int) (min (i:Int) ((K.length:Int)-2))=some ((aV (h+1) (bJ K ss),false,0),S):=by
 have hl:ss.length+1=K.length:=by rcases R.ln with e| ⟨e1,e2⟩;exact e;rw[e1]at hi;simp at hi
 by_cases h2:2<=K.length
 ·obtain⟨A,u,v,B,sA,k,sB,rfl,rfl,hA,hB,hm,hi'⟩:=Dx hl h2 hi;obtain⟨w,hw,R7,YQ⟩:=Jq (A:=A) (B:=B) (u:=u) (v:=v) hi';rw[hm];refine Dw hr R hA hd hw R7 (fun hs=>?_) rec;have:=hk A u v B sA k sB rfl rfl hA;rcases YQ with⟨e1,rfl⟩| ⟨e1,e2,rfl⟩
  ·exact this.1 e1 hs
  ·exact this.2 e2 e1 hs
 ·unfold fV;rw[if_pos (by omega)]
theorem iy (hr:room<=16384){K:List (KT h)}{ss:List ByteArray}(R:Rw room d S h K ss)(hk:∀j,KP K ss j){depth:Int}(hd:depth+1<24):∀(f i:Nat) (tt:Int),(tt-i).toNat+1<=f->bh room d f S (aV (h+1) (bJ K ss)) depth (i:Int) tt=some ((aV (h+1) (bJ K ss),0),S)
 |0,_,_,hf=>by omega
 |f+1,i,tt,hf=>by
  by_cases hlt:(i:Int)<min tt (((aV (h+1) (bJ K ss)).ks.length:Nat):Int)
  ·have hlen:(aV (h+1) (bJ K ss)).ks.length=K.length:=by rw[bV];simp
   have hj:=Dy (S:=S) hr R (i:=i) (by rw[hlen]at hlt;omega) (hk i) hd (fun S n depth i tt=>bh room d f S n depth (max i 0) tt);rw[oK (R.sm hr) (by omega) hlt (by rw[hlen];exact hj)];have:=iy hr R hk hd f (i+1) tt (by omega);rw[show((i+1:Nat):Int)=(i:Int)+1 by omega]at this;exact this
  ·exact jH (R.sm hr) (by omega) hlt
theorem Rw.one {A B:List (KT h)}{u v:KT h}{sA sB:List ByteArray}{k:ByteArray}{S2:Dr}{p:Int}{c:BT h}(R:Rw room d S h (A++u::v::B) (sA++k::sB))(hA:A.length=sA.length)(hB:B.length=sB.length)
    (wc:Wl h c)(zc:bT h c<=240)(ic:py S2 d (oH (p,c)))(F:Fm room d 0 S (dO u++dO v) S2 (dO (p,c)))(sc:(cx h c).Sublist (cx h u.2++(true,k)::cx h v.2))(ec:dW h c=dW h u.2++dW h v.2):
    Rw room d S2 h (A++(p,c)::B) (sA++sB)∧Fm room d 0 S (aW (A++u::v::B)) S2 (aW (A++(p,c)::B))∧(dm (A++(p,c)::B) (sA++sB)).Sublist (dm (A++u::v::B) (sA++k::sB))∧bO (A++(p,c)::B)=bO (A++u::v::B)∧bW (sA++sB)<=bW (sA++k::sB):=by
  have q1:((dO u++dO v)++(aW A++aW B)).Perm (aW (A++u::v::B)):=by
    rw[bj,bG,bG,<-List.append_assoc (dO u),<-List.append_assoc (aW A),<-List.append_assoc (dO u++dO v)];exact List.Perm.append_right _ List.perm_append_comm
  have q2:(dO (p,c)++(aW A++aW B)).Perm (aW (A++(p,c)::B)):=by
    rw[bj,bG,<-List.append_assoc,<-List.append_assoc];exact List.Perm.append_right _ List.perm_append_comm
  have NM:=q1.nodup_iff.2 R.nd;have us1:∀q∈aW A++aW B,Us S q:=fun q hq=>R.us q (q1.mem_iff.1 (List.mem_append_right _ hq));have E:=(F.ext us1 NM).perm q1 q2;have hne:∀q∈aW A++aW B,q∉dO u++dO v:=fun q hq hc=>(List.nodup_append.1 NM).2.2 q hc q hq rfl;have sf:(dm (A++(p,c)::B) (sA++sB)).Sublist (dm (A++u::v::B) (sA++k::sB)):=by
    rw[fg hA,qO hA];refine List.Sublist.append (List.Sublist.refl _) ?_;have:=List.Sublist.append sc (List.Sublist.refl (jM (B.map fun u=>cx h u.2) sB));simpa using this
  have se:bO (A++(p,c)::B)=bO (A++u::v::B):=by
    rw[cA,cA,bX,bX,bX,ec,List.append_assoc]
  have sz:bW (sA++sB)<=bW (sA++k::sB):=by
    rw[dE,dE,bW];omega
  refine⟨⟨F.ok,fun w hw=>?_,E.us,E.nd,?_,R.od.sub sf,by rw[se];exact R.vl,Nat.le_trans sz R.sz,.inl (by simp;omega)⟩,E,sf,se,sz⟩
  · rcases List.mem_append.1 hw with hw|hw
    · exact R.wl w (by simp[hw])
    · rcases List.mem_cons.1 hw with rfl|hw
      · exact⟨wc,zc⟩
      · exact R.wl w (by simp[hw])
  · have Vs:py S2 d (iq A++iq B):=F.NK (fun x hx=>R.is x (by
        rw[cW,dG,dG]
        simp only[List.mem_append]at hx⊢
        rcases hx with hx|hx
        · exact .inl hx
        · exact .inr (.inr (.inr hx)))) (by rw[List.map_append];exact us1) (by rw[List.map_append];exact hne)
    intro x hx;rw[cW,dG]at hx;simp only[List.mem_append]at hx;rcases hx with hx|hx|hx
    · exact Vs x (List.mem_append_left _ hx)
    · exact ic x hx
    · exact Vs x (List.mem_append_right _ hx)
theorem Rw.xe {A B:List (KT h)}{u v:KT h}{ss:List ByteArray}{S2:Dr}{e:Int}(R:Rw room d S h (A++u::v::B) ss)(E:Er room d 0 S (dO u++dO v) S2 e):Er room d 0 S (aW (A++u::v::B)) S2 e:=by
 have q1:((dO u++dO v)++(aW A++aW B)).Perm (aW (A++u::v::B)):=by
  rw[bj,bG,bG,<-List.append_assoc (dO u),<-List.append_assoc (aW A),<-List.append_assoc (dO u++dO v)];exact List.Perm.append_right _ List.perm_append_comm
 exact(E.ext (fun q hq=>R.us q (q1.mem_iff.1 (List.mem_append_right _ hq))) (q1.nodup_iff.2 R.nd)).perm q1
theorem gV (hr:room<=16384)(HJ:l9 room d h){depth:Int}(hd:depth+1+h<24){m:Nat}:∀(f:Nat) (S:Dr) (K:List (KT h)) (ss:List ByteArray) (i tt:Nat),Rw room d S h K ss->(∀j,j<i->KP K ss j)->(∀j,tt<=j->KP K ss j)->3*(aW K).length+(tt-i)+1<=f->Bd S ((aW K).length+2+m)->
  ∃n e S1,bh room d f S (aV (h+1) (bJ K ss)) depth (i:Int) (tt:Int)=some ((n,e),S1)∧Er room d 0 S (aW K) S1 e∧(e=0->∃K' ss',n=aV (h+1) (bJ K' ss')∧Rw room d S1 h K' ss'∧(∀j,KP K' ss' j)∧Fm room d 0 S (aW K) S1 (aW K')∧(dm K' ss').Sublist (dm K ss)∧bO K'=bO K∧bW ss'<=bW ss∧(K'=[]->K=[])∧(aW K').length<=(aW K).length)
 |0,_,_,_,_,_,_,_,_,hf,_=>by omega
 |f+1,S,K,ss,i,tt,R,k1,k2,hf,hb=>by
  have hlen:(aV (h+1) (bJ K ss)).ks.length=K.length:=by rw[bV];simp
  by_cases hlt:(i:Int)<min (tt:Int) (((aV (h+1) (bJ K ss)).ks.length:Nat):Int)
  ·have hi:i<K.length∧i<tt:=by rw[hlen]at hlt;omega
   by_cases hkp:KP K ss i
   ·have hj:=Dy (S:=S) hr R hi.1 hkp (by omega:depth+1<24) (fun S n depth i tt=>bh room d f S n depth (max i 0) tt);rw[oK (R.sm hr) (by omega) hlt (by rw[hlen];exact hj)];have:=gV hr HJ hd f S K ss (i+1) tt R (fun j hj=>if e:j=i then e▸hkp else k1 j (by omega)) k2 (by omega) hb;rw[show((i+1:Nat):Int)=(i:Int)+1 by omega]at this;exact this
   ·have hl:ss.length+1=K.length:=by rcases R.ln with e| ⟨e1,e2⟩;exact e;rw[e1]at hi;simp at hi
    have h2:2<=K.length:=by
     by_cases h2:2<=K.length
     ·exact h2
     ·exfalso;apply hkp;intro A' x y B' um k' jb e1 e2 e3;have:=congrArg List.length e1;simp at this;omega
    obtain⟨A,u,v,B,sA,k,sB,rfl,rfl,hA,hB,hm,hi'⟩:=Dx hl h2 hi.1;obtain⟨w,hw,R7,YQ⟩:=Jq (A:=A) (B:=B) (u:=u) (v:=v) hi';have hiA:A.length<=i∧i<=A.length+1:=by rcases hi' with e| ⟨e,_⟩<;>omega
    have hsm:bT h w.2<80∧jz u k v<=240:=by
     by_cases hc:bT h w.2<80∧jz u k v<=240
     ·exact hc
     ·exfalso;apply hkp;apply Vr hA;rcases YQ with⟨e1,rfl⟩| ⟨e1,e2,rfl⟩
      ·exact .inl ⟨e1,fun hs=>by omega⟩
      ·exact .inr ⟨e1,e2,fun hs=>by omega⟩
    have hpl:(aW (A++u::v::B)).length=(aW A).length+(bu h u.2++bu h v.2).length+2+(aW B).length:=by
     rw[bj,bG,bG,cC,cC];simp only[List.length_append,List.length_cons];omega
    obtain⟨n,j,e,S2,j1,j2,j3⟩:=th (S:=S) (f:=f) (m:=m) hr HJ R hA hB hd hw R7 hsm.1 hsm.2 (by omega) (hb.mono (by omega));rw[<-hm]at j1;by_cases he:e=0
    ·subst he;obtain⟨rfl,p,c,rfl,wc,zc,zu,zv,ic,F,sc,ec,lc⟩:=j3 rfl;obtain⟨R2,E,sf,se,sz⟩:=R.one hA hB wc zc ic F sc ec;rw[ma (R.sm hr) (by omega) hlt (by rw[hlen];exact j1),hlen,hm];have aan:(aW (A++(p,c)::B)).length+1<=(aW (A++u::v::B)).length:=by
      rw[hpl,bj,bG];rw[cC,cC,cC]at lc;rw[cC];simp only[List.length_append,List.length_cons]at lc⊢;omega
     obtain⟨n',e',S',t1,t2,t3⟩:=gV (m:=m) hr HJ hd f S2 (A++(p,c)::B) (sA++sB) A.length tt R2 (fun j hj=>KP.one (c:=(p,c)) (k:=k) hA zu zv (fun _=>k1 j (by omega)) (fun hc=>by omega) (by omega)) (fun j hj=>KP.one (c:=(p,c)) (k:=k) hA zu zv (fun hc=>by omega) (fun _=>k2 (j+1) (by omega)) (by omega)) (by omega) (E.bd hb (by omega));refine⟨n',e',S',t1,E.er t2,fun h0=>?_⟩;obtain⟨K',ss',r1,r2,r3,r4,r5,r6,r7,r8,r9⟩:=t3 h0;exact⟨K',ss',r1,r2,r3,E.trans r4,r5.trans sf,r6.trans se,Nat.le_trans r7 sz,fun hc=>by have:=r8 hc;simp at this,by omega⟩
    ·rw[mb (R.sm hr) (by omega) hlt he (by rw[hlen];exact j1)];exact⟨_,_,_,rfl,R.xe j2,fun h0=>absurd h0 he⟩
  ·rw[jH (R.sm hr) (by omega) hlt];refine⟨_,0,_,rfl,fun h0=>absurd rfl h0,fun _=>⟨K,ss,rfl,R,fun j=>?_,Fm.refl R.sd R.us R.nd,List.Sublist.refl _,rfl,Nat.le_refl _,id,Nat.le_refl _⟩⟩;rw[hlen]at hlt;by_cases hj:j<i
   ·exact k1 j hj
   ·by_cases hj2:tt<=j
    ·exact k2 j hj2
    ·intro A' x y B' um k' jb e1 e2 e3;have:=congrArg List.length e1;simp at this;exact⟨fun hc=>by omega,fun hB hc=>by omega⟩
end
end P
namespace P
open N
section
variable {room:Nat}{d:Dk}
theorem NQ (hr:room<=16384):l9 room d 0:=by
 intro S a b k depth f m sd wa wb us nd is od vl hj hd hf hb;obtain⟨f,rfl⟩:∃f',f=f'+1:=⟨f-1,by omega⟩;rw[<-xa];refine⟨_,0,S,jH (kS _ (Nat.le_trans hj (by omega))) (by simp[aV];omega) (by simp[aV,tJ];omega),fun h0=>absurd rfl h0,fun _=>⟨tJ 0 a k b,rfl,?_,?_,?_,sW 0 a b k wa,Jm 0 a b k,?_,?_,hj,?_⟩⟩
 ·intro hc;exact wa (List.append_eq_nil_iff.1 hc).1
 ·rw[Bi];exact is
 ·have e:bu 0 (tJ 0 a k b)=bu 0 a++bu 0 b:=by simp[bu,Bi]
  rw[e];exact Fm.refl sd us nd
 ·rw[oI];omega
 ·rw[oI];omega
 ·simp[bu,Bi]
theorem xh {α:Type}{l:List α}{n:Nat}(h:n+1=l.length):∃A u,l=A++[u]∧A.length=n:=by
 refine⟨l.dropLast,l.getLast (fun e=>by rw[e]at h;simp at h),(List.dropLast_concat_getLast _).symm,?_⟩;simp;omega
theorem NR (hr:room<=16384){h:Nat}(HJ:l9 room d h):l9 room d (h+1):=by
 intro S a b k depth f m sd wa wb us nd is od vl hj hd hf hb;obtain⟨Ka,sa,rfl⟩:=fG a;obtain⟨Kb,sb,rfl⟩:=fG b;rw[td]at wa wb;obtain⟨A,u,rfl,hA⟩:=xh wa.1;obtain⟨v,B,rfl,hB⟩:=eK wb.1.symm;have Vt:∀x:List (KT h),(A++[u])++v::B=A++u::v::B:=fun _=>by simp
 have eJ:tJ (h+1) (bJ (A++[u]) sa) k (bJ (v::B) sb)=bJ (A++u::v::B) (sa++k::sb):=by rw[Jo,Vt []]
 have ePg:bu (h+1) (bJ (A++[u]) sa)++bu (h+1) (bJ (v::B) sb)=aW (A++u::v::B):=by
  show aW (A++[u])++aW (v::B)=_;rw[<-bj,Vt []]
 have eCl:l8 (h+1) (bJ (A++[u]) sa)++l8 (h+1) (bJ (v::B) sb)=iq (A++u::v::B):=by
  rw[Pf,Pf,<-cW,Vt []]
 have eEn:dW (h+1) (bJ (A++[u]) sa)++dW (h+1) (bJ (v::B) sb)=bO (A++u::v::B):=by
  rw[pA,pA,<-cA,Vt []]
 have eFl:cx (h+1) (bJ (A++[u]) sa)++(true,k)::cx (h+1) (bJ (v::B) sb)=dm (A++u::v::B) (sa++k::sb):=by
  rw[<-xd _ _ k wa.1,eJ,Jn]
 rw[eJ,sZ]at hj;have e0:((aV (h+1) (bJ (A++[u]) sa)).ks.length:Int)=(A.length:Int)+1:=by rw[bV];simp
 rw[<-xa,eJ,e0];rw[ePg]at us nd hf hb⊢;rw[eCl]at is;rw[eEn]at vl⊢;rw[eFl]at od⊢;have R:Rw room d S h (A++u::v::B) (sa++k::sb):=⟨sd,fun w hw=>by
  rw[<-Vt []]at hw
  rcases List.mem_append.1 hw with hw|hw
  ·exact wa.2.2 w hw
  ·exact wb.2.2 w hw,us,nd,is,od,vl,by omega,.inl (by simp;omega)⟩
 have hd':depth+1<24:=by omega
 have hd2:depth+1+h<24:=by omega
 have hlen:(aV (h+1) (bJ (A++u::v::B) (sa++k::sb))).ks.length=A.length+B.length+2:=by rw[bV];simp;omega
 have hsz:bT (h+1) (bJ (A++[u]) sa)=4+bW sa∧bT (h+1) (bJ (v::B) sb)=4+bW sb:=⟨rfl,rfl⟩;have hsk:bW (sa++k::sb)=bW sa+(5+k.size+bW sb):=by rw[dE,bW]
 have hpl:(aW (A++u::v::B)).length=(aW A).length+(bu h u.2++bu h v.2).length+2+(aW B).length:=by
  rw[bj,bG,bG,cC,cC];simp only[List.length_append,List.length_cons];omega
 rw[show max ((A.length:Int)+1-1) 0=((A.length:Nat):Int) by omega,show(A.length:Int)+1+1=((A.length+2:Nat):Int) by omega];have fin:∀(f' i:Nat) (S2:Dr) (p:Int) (c:BT h) (w:KT h),f'+2>=f->Wl h c->bT h c<=240->bT h u.2<=bT h c->bT h v.2<=bT h c->py S2 d (oH (p,c))->Fm room d 0 S (dO u++dO v) S2 (dO (p,c))->(cx h c).Sublist (cx h u.2++(true,k)::cx h v.2)->dW h c=dW h u.2++dW h v.2->(dO (p,c)).length+1<=(dO u++dO v).length->
   ∃n e S1,bh room d f' S2 (aV (h+1) (bJ (A++(p,c)::B) (sa++sb))) depth (A.length:Int) ((A.length+2:Nat):Int)=some ((n,e),S1)∧Er room d 0 S (aW (A++u::v::B)) S1 e∧(e=0->∃c,n=aV (h+1) c∧Wl (h+1) c∧py S1 d (l8 (h+1) c)∧Fm room d 0 S (aW (A++u::v::B)) S1 (bu (h+1) c)∧(cx (h+1) c).Sublist (dm (A++u::v::B) (sa++k::sb))∧dW (h+1) c=bO (A++u::v::B)∧bT (h+1) (bJ (A++[u]) sa)<=bT (h+1) c∧bT (h+1) (bJ (v::B) sb)<=bT (h+1) c∧bT (h+1) c<=240∧(bu (h+1) c).length<=(aW (A++u::v::B)).length):=by
  intro f' i S2 p c w hf' wc zc zu zv ic F sc ec lc;obtain⟨R2,E,sf,se,sz⟩:=R.one hA hB wc zc ic F sc ec;have hk:∀j,KP (A++(p,c)::B) (sa++sb) j:=KP.meet (c:=(p,c)) hA wa.2.1 wb.2.1 zu zv;rw[iy hr R2 hk hd' f' A.length _ (by omega)];have z1:bT (h+1) (bJ (A++(p,c)::B) (sa++sb))=4+(bW sa+bW sb):=by rw[sZ,dE]
  refine⟨_,0,S2,rfl,fun h0=>absurd rfl h0,fun _=>⟨bJ (A++(p,c)::B) (sa++sb),rfl,?_,R2.is,E,sf,se,?_,?_,?_,?_⟩⟩
  ·rw[td];exact⟨by simp;omega,hk,R2.wl⟩
  ·rw[z1,hsz.1];omega
  ·rw[z1,hsz.2];omega
  ·rw[z1];omega
  ·have:bu (h+1) (bJ (A++(p,c)::B) (sa++sb))=aW (A++(p,c)::B):=rfl;rw[this,hpl,bj,bG];rw[cC,cC,cC]at lc;rw[cC];simp only[List.length_append,List.length_cons]at lc⊢;omega
 by_cases c1:bT h u.2<80∧jz u k v<=240
 ·obtain⟨f,rfl⟩:∃f',f=f'+1:=⟨f-1,by omega⟩;have hlt:((A.length:Nat):Int)<min ((A.length+2:Nat):Int) (((aV (h+1) (bJ (A++u::v::B) (sa++k::sb))).ks.length:Nat):Int):=by rw[hlen];omega
  have hm:min ((A.length:Nat):Int) ((((aV (h+1) (bJ (A++u::v::B) (sa++k::sb))).ks.length:Nat):Int)-2)=(A.length:Int):=by rw[hlen];omega
  obtain⟨n,j,e,S2,j1,j2,j3⟩:=th (S:=S) (f:=f) (m:=m) (i:=(A.length:Int)) hr HJ R hA hB hd2 (.inl rfl) (by simp[List.getD_eq_getElem?_getD]) c1.1 c1.2 (by omega) (hb.mono (by omega));by_cases he:e=0
  ·subst he;obtain⟨rfl,p,c,rfl,wc,zc,zu,zv,ic,F,sc,ec,lc⟩:=j3 rfl;rw[ma (R.sm hr) (by omega) hlt (by rw[hm];exact j1),hm];exact fin f 0 S2 p c u (by omega) wc zc zu zv ic F sc ec lc
  ·rw[mb (R.sm hr) (by omega) hlt he (by rw[hm];exact j1)];exact⟨_,_,_,rfl,R.xe j2,fun h0=>absurd h0 he⟩
 ·by_cases c2:B=[]∧bT h v.2<80∧jz u k v<=240
  ·obtain⟨f,rfl⟩:∃f',f=f'+2:=⟨f-2,by omega⟩;obtain⟨rfl,c2,c3⟩:=c2;have hlen:(aV (h+1) (bJ (A++[u,v]) (sa++k::sb))).ks.length=A.length+2:=by rw[hlen];simp
   have hlt:((A.length:Nat):Int)<min ((A.length+2:Nat):Int) (((aV (h+1) (bJ (A++[u,v]) (sa++k::sb))).ks.length:Nat):Int):=by rw[hlen];omega
   have hm:min ((A.length:Nat):Int) ((((aV (h+1) (bJ (A++[u,v]) (sa++k::sb))).ks.length:Nat):Int)-2)=(A.length:Int):=by rw[hlen];omega
   have hlt2:((A.length:Nat):Int)+1<min ((A.length+2:Nat):Int) (((aV (h+1) (bJ (A++[u,v]) (sa++k::sb))).ks.length:Nat):Int):=by rw[hlen];omega
   have hm2:min (((A.length:Nat):Int)+1) ((((aV (h+1) (bJ (A++[u,v]) (sa++k::sb))).ks.length:Nat):Int)-2)=(A.length:Int):=by rw[hlen];omega
   have hj0:=Dw (S:=S) hr R hA hd' (w:=u) (i:=(A.length:Int)) (.inl rfl) (by simp[List.getD_eq_getElem?_getD]) (fun hs=>by omega) (fun S n depth i tt=>bh room d (f+1) S n depth (max i 0) tt);rw[oK (R.sm hr) (by omega) hlt (by rw[hm];exact hj0)];obtain⟨n,j,e,S2,j1,j2,j3⟩:=th (S:=S) (f:=f) (m:=m) (i:=(A.length:Int)+1) (w:=v) hr HJ R hA hB hd2 (.inr rfl) (by rw[show((A.length:Int)+1).toNat=A.length+1 by omega];simp[List.getD_eq_getElem?_getD]) c2 c3 (by omega) (hb.mono (by omega));by_cases he:e=0
   ·subst he;obtain⟨rfl,p,c,rfl,wc,zc,zu,zv,ic,F,sc,ec,lc⟩:=j3 rfl;rw[ma (R.sm hr) (by omega) hlt2 (by rw[hm2];exact j1),hm2];exact fin f 0 S2 p c u (by omega) wc zc zu zv ic F sc ec lc
   ·rw[mb (R.sm hr) (by omega) hlt2 he (by rw[hm2];exact j1)];exact⟨_,_,_,rfl,R.xe j2,fun h0=>absurd h0 he⟩
  ·have hk:∀j,KP (A++u::v::B) (sa++k::sb) j:=KP.glue hA wa.2.1 wb.2.1 ⟨fun hs=>by omega,fun hB0 hs=>by
    by_cases hc:jz u k v<=240
    ·exact absurd ⟨hB0,hs,hc⟩ c2
    ·omega⟩
   rw[iy hr R hk hd' f A.length _ (by omega)];refine⟨_,0,S,rfl,fun h0=>absurd rfl h0,fun _=>⟨bJ (A++u::v::B) (sa++k::sb),rfl,?_,R.is,Fm.refl R.sd R.us R.nd,List.Sublist.refl _,rfl,?_,?_,?_,Nat.le_refl _⟩⟩
   ·rw[td];exact⟨by simp;omega,hk,R.wl⟩
   ·rw[sZ,sZ,hsk];omega
   ·rw[sZ,sZ,hsk];omega
   ·rw[sZ];omega
theorem Jr (hr:room<=16384):∀h,l9 room d h
 |0=>NQ hr
 |h+1=>NR hr (Jr hr h)
end
end P
namespace P
open N
section
variable {room:Nat}{d:Dk}{S:Dr}{h:Nat}
theorem Bn {α:Type}{l:List α}{i:Nat}{x:α}(hx:l[i]? =some x):∃A B,l=A++x::B∧A.length=i:=by
 obtain⟨hi,rfl⟩:=List.getElem?_eq_some_iff.1 hx;refine⟨l.take i,l.drop (i+1),?_,by rw[List.length_take];omega⟩;rw[List.getElem_cons_drop,List.take_append_drop]
theorem Dz {α:Type}{l:List α}{i:Nat}{x y:α}(hx:l[i]? =some x)(hy:l[i+1]? =some y):∃A B,l=A++x::y::B∧A.length=i:=by
 obtain⟨A,B,rfl,hA⟩:=Bn hx;refine⟨A,B.drop 1,?_,hA⟩;subst hA;rw[List.getElem?_append_right (by omega),show A.length+1-A.length=1 by omega]at hy;cases B with
 |nil=>simp at hy
 |cons z B=>simp at hy;subst hy;simp
theorem oL {K:List (KT h)}{ss:List ByteArray}{j:Nat}:KP K ss j↔(∀a b k,K[j]? =some a->K[j+1]? =some b->ss[j]? =some k->bT h a.2<80->240<jz a k b)∧(∀i a b k,j=i+1->K.length=j+1->K[i]? =some a->K[i+1]? =some b->ss[i]? =some k->bT h b.2<80->240<jz a k b):=by
 constructor
 ·intro H;refine⟨fun a b k h1 h2 h3 hs=>?_,fun i a b k e1 e2 h1 h2 h3 hs=>?_⟩
  ·obtain⟨A,B,rfl,hA⟩:=Dz h1 h2;obtain⟨sA,sB,rfl,hS⟩:=Bn h3;exact(H A a b B sA k sB rfl rfl (by omega)).1 hA.symm hs
  ·obtain⟨A,B,rfl,hA⟩:=Dz h1 h2;obtain⟨sA,sB,rfl,hS⟩:=Bn h3;refine(H A a b B sA k sB rfl rfl (by omega)).2 ?_ (by omega) hs;simp at e2;exact List.length_eq_zero_iff.1 (by omega)
 ·rintro⟨H1,H2⟩ A a b B sA k sB rfl rfl hA;refine⟨fun hj hs=>?_,fun hB hj hs=>?_⟩
  ·subst hj;exact H1 a b k (by simp) (by simp) (by rw[hA];simp) hs
  ·subst hj hB;exact H2 A.length a b k rfl (by simp) (by simp) (by simp) (by rw[hA];simp) hs
theorem KP.same {K K':List (KT h)}{ss ss':List ByteArray}{i j:Nat}(H:KP K ss i)(e1:K'[j]? =K[i]?)(e2:K'[j+1]? =K[i+1]?)(e3:ss'[j]? =ss[i]?)
  (e4:K'.length=j+1->∀j',j=j'+1->∃i',i=i'+1∧K.length=i+1∧K'[j']? =K[i']? ∧ss'[j']? =ss[i']?):KP K' ss' j:=by
 rw[oL]at H⊢;refine⟨fun a b k h1 h2 h3 hs=>H.1 a b k (by rw[<-e1];exact h1) (by rw[<-e2];exact h2) (by rw[<-e3];exact h3) hs,fun j' a b k r1 r2 h1 h2 h3 hs=>?_⟩;obtain⟨i',f1,f2,f3,f4⟩:=e4 r2 j' r1;subst r1 f1;exact H.2 i' a b k rfl f2 (by rw[<-f3];exact h1) (by rw[<-e1];exact h2) (by rw[<-f4];exact h3) hs
theorem KP.ahead {A R R':List (KT h)}{s t t':List ByteArray}{j:Nat}(H:KP (A++R) (s++t) j)(hj:j+1<A.length)(hs:j<s.length):KP (A++R') (s++t') j:=by
 refine KP.same H ?_ ?_ ?_ (fun hl=>?_)
 ·rw[List.getElem?_append_left (by omega),List.getElem?_append_left (by omega)]
 ·rw[List.getElem?_append_left (by omega),List.getElem?_append_left (by omega)]
 ·rw[List.getElem?_append_left (by omega),List.getElem?_append_left (by omega)]
 ·simp at hl;omega
theorem KP.behind {L L' B:List (KT h)}{t t' sB:List ByteArray}{b:Nat}(H:KP (L++B) (t++sB) (L.length+b))(hb:1<=b)(hL:t.length=L.length∨(sB=[]∧B.length<=1))(hL':t'.length=L'.length∨(sB=[]∧B.length<=1)):KP (L'++B) (t'++sB) (L'.length+b):=by
 by_cases hB:b<B.length
 ·have h1:t.length=L.length:=by rcases hL with e| ⟨_,e⟩;exact e;omega
  have h2:t'.length=L'.length:=by rcases hL' with e| ⟨_,e⟩;exact e;omega
  have g:∀c,(L'++B)[L'.length+c]? =(L++B)[L.length+c]? :=fun c=>by
   rw[List.getElem?_append_right (by omega),List.getElem?_append_right (by omega)];congr 1;omega
  have g2:∀c,(t'++sB)[L'.length+c]? =(t++sB)[L.length+c]? :=fun c=>by
   rw[List.getElem?_append_right (by omega),List.getElem?_append_right (by omega)];congr 1;omega
  refine KP.same H (g b) (g (b+1)) (g2 b) (fun hl j' e=>?_);refine⟨L.length+(b-1),by omega,by simp at hl⊢;omega,?_,?_⟩
  ·rw[<-g,show j'=L'.length+(b-1) by omega]
  ·rw[<-g2,show j'=L'.length+(b-1) by omega]
 ·rw[oL];refine⟨fun a c k h1 _ _=>?_,fun i a c k e1 e2 h1 h2=>?_⟩
  ·rw[List.getElem?_append_right (by omega),List.getElem?_eq_none (by omega)]at h1;cases h1
  ·rw[List.getElem?_append_right (by omega),List.getElem?_eq_none (by omega)]at h2;cases h2
theorem KP.grow {A B:List (KT h)}{w c:KT h}{ss:List ByteArray}{j:Nat}(H:KP (A++w::B) ss j)(hj:j≠A.length)(hz:bT h w.2<=bT h c.2):KP (A++c::B) ss j:=by
 have g:∀i,i≠A.length->(A++c::B)[i]? =(A++w::B)[i]? :=fun i hi=>by
  by_cases hlt:i<A.length
  ·rw[List.getElem?_append_left hlt,List.getElem?_append_left hlt]
  ·rw[List.getElem?_append_right (by omega),List.getElem?_append_right (by omega)];obtain⟨q,hq⟩:∃q,i-A.length=q+1:=⟨i-A.length-1,by omega⟩;rw[hq];simp
 have gw:(A++w::B)[A.length]? =some w:=by simp
 have gc:(A++c::B)[A.length]? =some c:=by simp
 rw[oL]at H⊢;refine⟨fun a b k h1 h2 h3 hs=>?_,fun i a b k e1 e2 h1 h2 h3 hs=>?_⟩
 ·rw[g j hj]at h1;by_cases hq:j+1=A.length
  ·rw[hq,gc]at h2;cases h2;exact Nat.lt_of_lt_of_le (H.1 a w k h1 (by rw[hq];exact gw) h3 hs) (iw (Nat.le_refl _) hz)
  ·rw[g _ hq]at h2;exact H.1 a b k h1 h2 h3 hs
 ·rw[g (i+1) (by omega)]at h2;have el:(A++w::B).length=j+1:=by simp at e2⊢;omega
  by_cases hq:i=A.length
  ·rw[hq,gc]at h1;cases h1;exact Nat.lt_of_lt_of_le (H.2 i w b k e1 el (by rw[hq];exact gw) h2 h3 hs) (iw hz (Nat.le_refl _))
  ·rw[g _ hq]at h1;exact H.2 i a b k e1 el h1 h2 h3 hs
end
end P
namespace P
open N
def OI (F G:List It):Prop:=∀X Y,bS (X++(F++Y))->bS (X++(G++Y))
theorem OI.refl (F:List It):OI F F:=fun _ _ h=>h
theorem OI.trans {F G H:List It}(h1:OI F G)(h2:OI G H):OI F H:=fun X Y h=>h2 X Y (h1 X Y h)
theorem OI.sub {F G:List It}(s:G.Sublist F):OI F G:=fun X Y h=>h.sub (List.Sublist.append (List.Sublist.refl _) (List.Sublist.append s (List.Sublist.refl _)))
theorem OI.ctx {F G:List It}(h:OI F G)(U V:List It):OI (U++(F++V)) (U++(G++V)):=fun X Y hx=>by
 have:=h (X++U) (V++Y) (by simpa using hx);simpa using this
theorem NT {F1 F2:List It}{e k:ByteArray}(hF:∀x∈F1,x.1=false):OI ((false,e)::(F1++(false,k)::F2)) ((false,e)::(F1++(true,k)::(false,k)::F2)):=fun X Y ho=>by
 have hek:bp e k=true:=by
  have h1:=(List.pairwise_append.1 ho.up).2.1;rw[List.cons_append,List.pairwise_cons]at h1;have:=h1.1 (false,k) (by simp);simpa[RI]using this
 have e1:X++((false,e)::(F1++(false,k)::F2)++Y)=(X++(false,e)::F1)++((false,k)::(F2++Y)):=by simp
 have e2:X++((false,e)::(F1++(true,k)::(false,k)::F2)++Y)=(X++(false,e)::F1)++((true,k)::(false,k)::(F2++Y)):=by simp
 rw[e1]at ho;rw[e2];obtain⟨p1,p2,p3⟩:=List.pairwise_append.1 ho.up;obtain⟨p4,p5⟩:=List.pairwise_cons.1 p2;have hlt:∀x∈X++(false,e)::F1,bp x.2 k=true:=fun x hx=>by
  have h0:=p3 x hx (false,k) (by simp);by_cases hb:x.1=true
  ·rcases List.mem_append.1 hx with hx|hx
   ·have h1:=(List.pairwise_append.1 p1).2.2 x hx (false,e) (by simp);have h2:bp e x.2=false:=by simpa[RI,hb]using h1
    by_cases he:e=x.2
    ·rw[<-he];exact hek
    ·exact cQ (hZ h2 he) hek
   ·rcases List.mem_cons.1 hx with rfl|hx
    ·cases hb
    ·rw[hF x hx]at hb;cases hb
  ·simpa[RI,hb]using h0
 refine⟨List.pairwise_append.2 ⟨p1,List.pairwise_cons.2 ⟨fun y hy=>?_,p2⟩,fun x hx y hy=>?_⟩,fun x hx=>?_⟩
 ·rcases List.mem_cons.1 hy with rfl|hy
  ·simp[RI,dh]
  ·have:=p4 y hy;unfold RI at this⊢;by_cases hb:y.1=true
   ·simpa[hb]using this
   ·simp[hb]at this⊢;exact gR this
 ·rcases List.mem_cons.1 hy with rfl|hy
  ·simpa[RI]using hlt x hx
  ·exact p3 x hx y hy
 ·rcases List.mem_append.1 hx with hx|hx
  ·exact ho.sz x (List.mem_append_left _ hx)
  ·rcases List.mem_cons.1 hx with rfl|hx
   ·exact ho.sz (false,k) (by simp)
   ·exact ho.sz x (List.mem_append_right _ hx)
section
variable {room:Nat}{d:Dk}{S:Dr}{h:Nat}
def Ob (room:Nat)(d:Dk)(S:Dr):(h:Nat)->BT h->Prop
 |0,l=>Sd room S∧bS (cx 0 l)∧(∀x∈(show List En from l),x.2.size<=40)∧cP l<=298
 |h+1,t=>Rw room d S h t.1 t.2∧(∀j,KP t.1 t.2 j)∧bW t.2<=257
def R8 (room:Nat)(d:Dk)(S:Dr)(h:Nat)(t:BT h)(parts:List Nd)(keys:List ByteArray)(S1:Dr):Prop:=
 (parts=[]∧keys=[]∧S1=S∧bu h t=[]∧dW h t=[]∧cx h t=[])∨
 (parts=[aV h t]∧keys=[]∧S1=S∧Wl h t∧bT h t<=240∧cE (aV h t)=true)∨
 (∃c1 c2 k,parts=[aV h c1,aV h c2]∧keys=[k]∧Wl h c1∧Wl h c2∧bT h c1<=240∧bT h c2<=240∧cE (aV h c1)=true∧cE (aV h c2)=true∧py S1 d (l8 h c1++l8 h c2)∧Fm room d 0 S (bu h t) S1 (bu h c1++bu h c2)∧OI (cx h t) (cx h c1++(true,k)::cx h c2)∧dW h t=dW h c1++dW h c2∧(bu h c1++bu h c2).length<=(bu h t).length)
theorem nX {x:En}(h1:x.1.size<=16)(h2:x.2.size<=40):k8 x<=58:=by unfold k8;omega
theorem NU {l:List En}(hx:∀x∈l,k8 x<=58)(h1:240<cP l)(h2:cP l<=298):2<=l.length∧cP (l.take (eL l))<=240∧cP (l.drop (eL l))<=240:=by
 have hl:5<=l.length:=by
  have:=kv hx;omega
 obtain⟨q1,q2,q3,q4⟩:=Ac (l:=l) (by omega);have hsum:cP (l.take (eL l))+cP (l.drop (eL l))=cP l:=by rw[<-js,List.take_append_drop]
 have hstep:cP (l.take (eL l))=cP (l.take (eL l-1))+k8 l[eL l-1]! :=by
  have:=mH (l:=l) (i:=eL l-1) (by omega)
  rwa [show eL l-1+1=eL l by omega]at this
 have he:k8 l[eL l-1]! <=58:=by
  rw[getElem!_pos l (eL l-1) (by omega)];exact hx _ (List.getElem_mem _)
 refine⟨by omega,?_,?_⟩
 ·rcases q4 with q4|q4
  ·have h0:l.take (eL l-1)=[]:=by rw[q4];rfl
   rw[h0]at hstep;have h1:cP ([]:List En)=0:=rfl;omega
  ·omega
 ·rcases q3 with q3|q3
  ·omega
  ·have:(l.drop (eL l)).length=1:=by rw[List.length_drop];omega
   have:=kv (l:=l.drop (eL l)) (b:=58) (fun x hx'=>hx x (List.mem_of_mem_drop hx'));omega
theorem Js (hr:room<=16384)(l:List En)(ho:Ob room d S 0 l)(depth:Int){f:Nat}(hf:1<=f):
  ∃parts keys,bZ (bA room d f) S (aV 0 l) depth=some ((parts,keys,0),S)∧R8 room d S 0 l parts keys S:=by
 obtain⟨sd,od,vl,sz⟩:=ho;have od':bS (l.map fun(x:En)=>((false,x.1):It)):=od;have hrt:=kR l od vl;unfold bZ;by_cases h0:l=[]
 ·subst h0;exact⟨[],[],by simp[aV],.inl ⟨rfl,rfl,rfl,rfl,rfl,rfl⟩⟩
 ·rw[if_neg (by simp[aV,h0]),if_neg (by rw[kS l (Nat.le_trans (show bT 0 l<=298 from sz) (by omega))];simp),if_neg (by rw[hrt];simp)];by_cases hfi:cE (aV 0 l)=true
  ·rw[if_pos hfi];refine⟨_,_,rfl,.inr (.inl ⟨rfl,rfl,rfl,h0,?_,hfi⟩)⟩;unfold cE at hfi;rw[Bool.and_eq_true,decide_eq_true_eq]at hfi;exact hfi.2
  ·rw[if_neg hfi];have hbig:240<cP l:=by
    by_cases hc:cP l<=240
    ·exfalso;apply hfi;unfold cE;rw[hrt,Bool.true_and];exact decide_eq_true hc
    ·omega
   have hx:∀x∈l,k8 x<=58:=fun x hx=>nX (od'.sz (false,x.1) (List.mem_map_of_mem (f:=fun(x:En)=>((false,x.1):It)) hx)).2 (vl x hx);obtain⟨g1,g2,g3⟩:=NU hx hbig sz;obtain⟨q1,q2,_,_⟩:=Ac g1;have hen:yx (aV 0 l)=true:=by
    unfold yx;rw[hrt,Bool.true_and,Bool.or_eq_true];exact .inl (decide_eq_true g1)
   have eA:sA (aV 0 l)=aV 0 (l.take (eL l)):=by unfold sA;rw[if_pos hen];rfl
   have eB:sB (aV 0 l)=aV 0 (l.drop (eL l)):=by unfold sB;rw[if_pos hen];rfl
   have eM:sM (aV 0 l)=l[eL l]!.1:=by unfold sM;rw[if_pos hen];rfl
   have oA:bS (cx 0 (l.take (eL l))):=od.sub (by
    show(List.map _ (l.take (eL l))).Sublist (List.map _ l)
    exact(List.take_sublist _ _).map _)
   have oB:bS (cx 0 (l.drop (eL l))):=od.sub (by
    show(List.map _ (l.drop (eL l))).Sublist (List.map _ l)
    exact(List.drop_sublist _ _).map _)
   have fA:cE (aV 0 (l.take (eL l)))=true:=by
    unfold cE;rw[kR _ oA (fun x hx=>vl x (List.mem_of_mem_take hx)),Bool.true_and];exact decide_eq_true g2
   have fB:cE (aV 0 (l.drop (eL l)))=true:=by
    unfold cE;rw[kR _ oB (fun x hx=>vl x (List.mem_of_mem_drop hx)),Bool.true_and];exact decide_eq_true g3
   obtain⟨f,rfl⟩:∃f',f=f'+1:=⟨f-1,by omega⟩;have hst:bA room d (f+1) S (aV 0 (l.take (eL l))) depth (((aV 0 (l.take (eL l))).ks.length:Int)-1) ((aV 0 (l.take (eL l))).ks.length:Int)=some ((aV 0 (l.take (eL l)),0),S):=
    jH (kS _ (Nat.le_trans (show bT 0 _<=240 from g2) (by omega))) (by simp[aV];omega) (by simp[aV];omega)
   rw[eA,eB,eM,hst];simp only[fA,fB];refine⟨_,_,by simp,.inr (.inr ⟨l.take (eL l),l.drop (eL l),l[eL l]!.1,rfl,rfl,?_,?_,g2,g3,fA,fB,?_,?_,?_,?_,Nat.le_refl _⟩)⟩
   ·show l.take (eL l)≠[];intro hc;have:=congrArg List.length hc;rw[List.length_take,List.length_nil]at this;omega
   ·show l.drop (eL l)≠[];intro hc;have:=congrArg List.length hc;rw[List.length_drop,List.length_nil]at this;omega
   ·intro x hx;cases hx
   ·exact Fm.refl sd (fun p hp=>by cases hp) List.nodup_nil
   ·obtain⟨e,l1,r1,_⟩:=eK (l:=l.take (eL l)) (n:=eL l-1) (by rw[List.length_take];omega);have r2:l.drop (eL l)=l[eL l]! ::l.drop (eL l+1):=by
     rw[getElem!_pos l (eL l) q2,List.getElem_cons_drop]
    have r3:l=e::(l1++l[eL l]! ::l.drop (eL l+1)):=by
     rw[<-r2,<-List.cons_append,<-r1,List.take_append_drop]
    have k1:cx 0 l=(false,e.1)::(l1.map (fun(x:En)=>((false,x.1):It))++(false,l[eL l]!.1)::(l.drop (eL l+1)).map (fun(x:En)=>((false,x.1):It))):=by
     show List.map (fun(x:En)=>((false,x.1):It)) l=_
     conv=>lhs;rw[r3]
     simp
    have k2:cx 0 (l.take (eL l))=(false,e.1)::l1.map (fun(x:En)=>((false,x.1):It)):=by
     show List.map (fun(x:En)=>((false,x.1):It)) (l.take (eL l))=_;rw[r1];simp
    have k3:cx 0 (l.drop (eL l))=(false,l[eL l]!.1)::(l.drop (eL l+1)).map (fun(x:En)=>((false,x.1):It)):=by
     show List.map (fun(x:En)=>((false,x.1):It)) (l.drop (eL l))=_;rw[r2];simp
    rw[k1,k2,k3];have:=NT (F1:=l1.map (fun(x:En)=>((false,x.1):It))) (F2:=(l.drop (eL l+1)).map (fun(x:En)=>((false,x.1):It))) (e:=e.1) (k:=l[eL l]!.1) (fun x hx=>by
     obtain⟨y,_,rfl⟩:=List.mem_map.1 hx
     rfl)
    simpa using this
   ·show l=l.take (eL l)++l.drop (eL l);rw[List.take_append_drop]
theorem DA {l:List ByteArray}(hlt:∀s∈l,1<=s.size):6*l.length<=bW l:=by
 induction l with
 |nil=>simp
 |cons x l ih=>
  have h1:=hlt x (List.mem_cons_self ..);have h2:=ih fun y hy=>hlt y (List.mem_cons_of_mem _ hy);simp only[bW,List.length_cons];omega
theorem Rw.part {A B:List (KT h)}{sA sB:List ByteArray}{k:ByteArray}(R:Rw room d S h (A++B) (sA++k::sB))(hA:sA.length+1=A.length)(hB:sB.length+1=B.length):
  Rw room d S h A sA∧Rw room d S h B sB∧dm (A++B) (sA++k::sB)=dm A sA++(true,k)::dm B sB:=by
 have eF:dm (A++B) (sA++k::sB)=dm A sA++(true,k)::dm B sB:=xd (bJ A sA) (bJ B sB) k hA;have od:=R.od;rw[eF]at od;have hsz:bW (sA++k::sB)=bW sA+(5+k.size+bW sB):=by rw[dE,bW]
 have:=R.sz;refine⟨⟨R.sd,fun u hu=>R.wl u (by simp[hu]),fun p hp=>R.us p (by rw[bj];simp[hp]),?_,fun x hx=>R.is x (by rw[cW];simp[hx]),od.sub (List.sublist_append_left _ _),fun x hx=>R.vl x (by rw[cA];simp[hx]),by omega,.inl hA⟩,
  ⟨R.sd,fun u hu=>R.wl u (by simp[hu]),fun p hp=>R.us p (by rw[bj];simp[hp]),?_,fun x hx=>R.is x (by rw[cW];simp[hx]),od.sub (List.Sublist.trans (List.sublist_cons_self _ _) (List.sublist_append_right _ _)),fun x hx=>R.vl x (by rw[cA];simp[hx]),by omega,.inl hB⟩,eF⟩
 ·have:=R.nd;rw[bj]at this;exact(List.nodup_append.1 this).1
 ·have:=R.nd;rw[bj]at this;exact(List.nodup_append.1 this).2.1
theorem Fg (hr:room<=16384)(HJ:l9 room d h)(K:List (KT h))(ss:List ByteArray)(ho:Ob room d S (h+1) (bJ K ss)){depth:Int}(hd:depth+1+h<24){f m:Nat}(hf:3*(aW K).length+2<=f)(hb:Bd S ((aW K).length+2+m)):
  ∃parts keys e S1,bZ (bA room d f) S (aV (h+1) (bJ K ss)) depth=some ((parts,keys,e),S1)∧Er room d 0 S (aW K) S1 e∧(e=0->R8 room d S (h+1) (bJ K ss) parts keys S1):=by
 obtain⟨R,hk,hz⟩:=ho;have R:Rw room d S h K ss:=R;have hk:∀j,KP K ss j:=hk;have hz:bW ss<=257:=hz;unfold bZ;by_cases h0:K=[]
 ·subst h0;have hs:ss=[]:=by
   rcases R.ln with e| ⟨_,e⟩
   ·simp at e
   ·exact e
  subst hs;exact⟨[],[],0,S,by simp[bV],fun hc=>absurd rfl hc,fun _=>.inl ⟨rfl,rfl,rfl,rfl,rfl,rfl⟩⟩
 ·have hl:ss.length+1=K.length:=by
   rcases R.ln with e| ⟨e,_⟩
   ·exact e
   ·exact absurd e h0
  have hrt:=je hr R.sd K ss hl R.us R.od;rw[if_neg (by simp[bV,h0]),if_neg (by rw[R.sm hr];simp),if_neg (by rw[hrt];simp)];by_cases hfi:cE (aV (h+1) (bJ K ss))=true
  ·rw[if_pos hfi];refine⟨_,_,0,_,rfl,fun hc=>absurd rfl hc,fun _=>.inr (.inl ⟨rfl,rfl,rfl,?_,?_,hfi⟩)⟩
   ·rw[td];exact⟨hl,hk,R.wl⟩
   ·unfold cE at hfi;rw[Bool.and_eq_true,decide_eq_true_eq]at hfi;exact hfi.2
  ·rw[if_neg hfi];have hbig:240<4+bW ss:=by
    by_cases hc:4+bW ss<=240
    ·exfalso;apply hfi;unfold cE;rw[hrt,Bool.true_and];exact decide_eq_true hc
    ·omega
   have QU:∀s∈ss,1<=s.size∧s.size<=16:=fun s hs=>wA ((fE (n:=aV (h+1) (bJ K ss)) rfl).1 hrt).2.2.2.2 hs;have hn:12<=ss.length:=by
    have:=uJ (l:=ss) (b:=16) (fun s hs=>(QU s hs).2);omega
   obtain⟨q,hq⟩:∃q,q=K.length/2:=⟨_,rfl⟩;obtain⟨k,sb,r3,l3⟩:=eK (l:=ss.drop (q-1)) (n:=ss.length-q) (by rw[List.length_drop];omega);have hss:ss=ss.take (q-1)++k::sb:=by rw[<-r3,List.take_append_drop]
   have hK:K=K.take q++K.drop q:=(List.take_append_drop q K).symm;have lA:(K.take q).length=q:=by rw[List.length_take];omega
   have lB:(K.drop q).length=K.length-q:=List.length_drop ..;have la:(ss.take (q-1)).length=q-1:=by rw[List.length_take];omega
   have hM:ss[q-1]! =k:=by
    conv=>lhs;rw[hss]
    rw[getElem!_pos _ _ (by simp;omega),List.getElem_append_right (by omega)];simp[la]
   have hD:ss.drop q=sb:=by
    have:=congrArg (List.drop 1) r3;rw[List.drop_drop,show q-1+1=q by omega]at this;simpa using this
   have hen:yx (aV (h+1) (bJ K ss))=true:=by
    unfold yx;rw[hrt,Bool.true_and,Bool.or_eq_true];refine .inr (decide_eq_true ?_);rw[bV];simp;omega
   have hsp:Hr (aV (h+1) (bJ K ss))=q:=by rw[bV];simp[Hr,hq]
   have eA:sA (aV (h+1) (bJ K ss))=aV (h+1) (bJ (K.take q) (ss.take (q-1))):=by
    unfold sA;rw[if_pos hen];unfold We;rw[hsp];simp[bV,List.map_take]
   have eB:sB (aV (h+1) (bJ K ss))=aV (h+1) (bJ (K.drop q) sb):=by
    unfold sB;rw[if_pos hen];unfold Xz;rw[hsp];simp[bV,List.map_drop,hD]
   have eM:sM (aV (h+1) (bJ K ss))=k:=by
    unfold sM;rw[if_pos hen];have:XA (aV (h+1) (bJ K ss))=ss[Hr (aV (h+1) (bJ K ss))-1]! :=rfl;rw[this,hsp];exact hM
   rw[eA,eB,eM];generalize K.take q=A at*;generalize K.drop q=B at*;generalize ss.take (q-1)=sa at*;subst hss hK;simp only[List.length_append,List.length_cons]at*;have YR:sb.length+1=B.length:=by omega
   obtain⟨RA,RB,eF⟩:=R.part (by omega) YR;have aao:bW (sa++k::sb)=bW sa+(5+k.size+bW sb):=by rw[dE,bW]
   have z1:=DA (l:=sa) (fun s hs=>(QU s (by simp[hs])).1);have z2:=DA (l:=sb) (fun s hs=>(QU s (by simp[hs])).1);have z3:=(QU k (by simp)).1;have YS:(aW (A++B)).length=(aW A).length+(aW B).length:=by rw[bj,List.length_append]
   have e0:((aV (h+1) (bJ A sa)).ks.length:Int)=(A.length:Int):=by rw[bV];simp
   obtain⟨n,e,S1,t1,t2,t3⟩:=gV (m:=m) hr HJ hd f S A sa (A.length-1) A.length RA (fun j hj=>by
     have:=KP.ahead (R':=[]) (t':=[]) (hk j) (A:=A) (s:=sa) (by omega) (by omega)
     simpa using this) (fun j hj=>by
     rw[oL]
     refine⟨fun a b k h1=>?_,fun i a b k e1 e2=>by omega⟩
     rw[List.getElem?_eq_none (by omega)]at h1
     cases h1) (by omega) (hb.mono (by omega))
   have t1':bA room d f S (aV (h+1) (bJ A sa)) depth (((aV (h+1) (bJ A sa)).ks.length:Int)-1) ((aV (h+1) (bJ A sa)).ks.length:Int)=some ((n,e),S1):=by
    rw[e0];unfold bA;rw[show max ((A.length:Int)-1) 0=((A.length-1:Nat):Int) by omega];exact t1
   rw[t1'];simp only;by_cases he:e=0
   ·subst he;obtain⟨K',ss',rfl,R2,k2,F2,sf,se,sz,hne,hlp⟩:=t3 rfl;have Fh:=R.nd;rw[bj]at Fh;have E:=F2.ext (Y:=aW B) RB.us Fh;have lk:ss'.length+1=K'.length:=by
     rcases R2.ln with e| ⟨e,_⟩
     ·exact e
     ·have:=hne e;rw[this]at lA;simp at lA;omega
    have fA:cE (aV (h+1) (bJ K' ss'))=true:=by
     unfold cE;rw[je hr R2.sd K' ss' lk R2.us R2.od,Bool.true_and];exact decide_eq_true (show 4+bW ss'<=240 by omega)
    have fB:cE (aV (h+1) (bJ B sb))=true:=by
     unfold cE;rw[je hr RB.sd B sb YR RB.us RB.od,Bool.true_and];exact decide_eq_true (show 4+bW sb<=240 by omega)
    rw[if_neg (by simp),fA,fB,if_pos (by simp)];refine⟨_,_,0,S1,rfl,fun hc=>absurd rfl hc,fun _=>.inr (.inr ⟨bJ K' ss',bJ B sb,k,rfl,rfl,?_,?_,?_,?_,fA,fB,?_,?_,?_,?_,?_⟩)⟩
    ·rw[td];exact⟨lk,k2,R2.wl⟩
    ·rw[td];refine⟨YR,fun j=>?_,RB.wl⟩;by_cases hj:j=0
     ·subst hj;refine KP.same (hk A.length) ?_ ?_ ?_ (fun _ j' e=>by omega)
      ·rw[List.getElem?_append_right (by omega)];simp
      ·rw[List.getElem?_append_right (by omega)];simp
      ·rw[show A.length=sa.length+1 by omega,List.getElem?_append_right (by omega)];simp
     ·have:=KP.behind (L':=[]) (t':=[]) (L:=A) (t:=sa++[k]) (B:=B) (sB:=sb) (b:=j) (by simpa using hk (A.length+j)) (by omega) (.inl (by simp;omega)) (.inl rfl);simpa using this
    ·show 4+bW ss'<=240;omega
    ·show 4+bW sb<=240;omega
    ·intro x hx;rcases List.mem_append.1 hx with hx|hx
     ·exact R2.is x hx
     ·exact F2.NK RB.is RB.us (fun p hp hc=>(List.nodup_append.1 Fh).2.2 p hc p hp rfl) x hx
    ·show Fm room d 0 S (aW (A++B)) S1 (aW K'++aW B);rw[bj];exact E
    ·show OI (dm (A++B) (sa++k::sb)) (dm K' ss'++(true,k)::dm B sb);rw[eF];exact OI.sub (List.Sublist.append sf (List.Sublist.refl _))
    ·show bO (A++B)=bO K'++bO B;rw[cA,se]
    ·show(aW K'++aW B).length<=(aW (A++B)).length;rw[YS,List.length_append];omega
   ·rw[if_pos he];refine⟨_,_,e,_,rfl,?_,fun hc=>absurd hc he⟩;have Fh:=R.nd;rw[bj]at Fh⊢;exact t2.ext RB.us Fh
end
end P
namespace P
open N
section
variable {room:Nat}{d:Dk}{S S2:Dr}{h:Nat}{A B M:List (KT h)}{sA sB fK:List ByteArray}{w:KT h}
theorem Sg (hr:room<=16384)(HJ:∀h,l9 room d h)(t:BT h)(ho:Ob room d S h t){depth:Int}(hd:depth+h<24){f m:Nat}(hf:3*(bu h t).length+2<=f)(hb:Bd S ((bu h t).length+2+m)):
  ∃parts keys e S1,bZ (bA room d f) S (aV h t) depth=some ((parts,keys,e),S1)∧Er room d 0 S (bu h t) S1 e∧(e=0->R8 room d S h t parts keys S1):=by
 cases h with
 |zero=>
  obtain⟨parts,keys,h1,h2⟩:=Js hr t ho depth (f:=f) (by omega);exact⟨parts,keys,0,S,h1,fun hc=>absurd rfl hc,fun _=>h2⟩
 |succ h=>
  obtain⟨K,ss,rfl⟩:=fG t;exact Fg hr (HJ h) K ss ho (by omega) hf hb
structure Ctx (room:Nat)(d:Dk)(S:Dr)(h:Nat)(A:List (KT h))(sA:List ByteArray)(B:List (KT h))(sB:List ByteArray):Prop where
 hA:A.length=sA.length
 hB:B.length=sB.length
 wl:∀u∈A++B,Wl h u.2∧bT h u.2<=240
 us:∀q∈aW A++aW B,Us S q
 is:py S d (iq A++iq B)
 vl:∀x∈bO A++bO B,x.2.size<=40
theorem Ctx.row (C:Ctx room d S h A sA B sB){c:Nat}{X:List Int}(F:Fm room d c S X S2 (aW M))(nd:(X++(aW A++aW B)).Nodup)(is:py S2 d (iq M))(wl:∀u∈M,Wl h u.2∧bT h u.2<=240)(od:bS (dm (A++(M++B)) fK))(vl:∀x∈bO M,x.2.size<=40)(sz:bW fK<=1000)(ln:fK.length+1=(A++(M++B)).length∨(A++(M++B)=[]∧fK=[])):
  Rw room d S2 h (A++(M++B)) fK∧Fm room d c S (X++(aW A++aW B)) S2 (aW (A++(M++B))):=by
 have q:(aW M++(aW A++aW B)).Perm (aW (A++(M++B))):=by
  rw[bj,bj,<-List.append_assoc,<-List.append_assoc];exact List.Perm.append_right _ List.perm_append_comm
 have E:=(F.ext C.us nd).perm (List.Perm.refl _) q;have hne:∀q∈aW A++aW B,q∉X:=fun q hq hc=>(List.nodup_append.1 nd).2.2 q hc q hq rfl;have Vs:py S2 d (iq A++iq B):=F.NK C.is (by rw[List.map_append];exact C.us) (by rw[List.map_append];exact hne);refine⟨⟨F.ok,fun u hu=>?_,E.us,E.nd,fun x hx=>?_,od,fun x hx=>?_,sz,ln⟩,E⟩
 ·simp only[List.mem_append]at hu;rcases hu with hu|hu|hu
  ·exact C.wl u (by simp[hu])
  ·exact wl u hu
  ·exact C.wl u (by simp[hu])
 ·rw[cW,cW]at hx;simp only[List.mem_append]at hx;rcases hx with hx|hx|hx
  ·exact Vs x (by simp[hx])
  ·exact is x hx
  ·exact Vs x (by simp[hx])
 ·rw[cA,cA]at hx;simp only[List.mem_append]at hx;rcases hx with hx|hx|hx
  ·exact C.vl x (by simp[hx])
  ·exact vl x hx
  ·exact C.vl x (by simp[hx])
theorem Sh (hA:A.length=sA.length)(hk:∀j,KP (A++w::B) (sA++sB) j)(R':List (KT h))(t':List ByteArray){j:Nat}(hj:j+1<A.length):KP (A++R') (sA.take (A.length-1)++t') j:=by
 have e:sA++sB=sA.take (A.length-1)++(sA.drop (A.length-1)++sB):=by rw[<-List.append_assoc,List.take_append_drop]
 have:=hk j;rw[e]at this;exact this.ahead hj (by rw[List.length_take];omega)
theorem Si (hA:A.length=sA.length){y:KT h}{B':List (KT h)}{s1:ByteArray}{jb:List ByteArray}(hk:∀j,KP (A++w::y::B') (sA++s1::jb) j)(L':List (KT h))(t':List ByteArray)(hl:t'.length=L'.length){b:Nat}(hb:1<=b):KP (L'++y::B') (t'++jb) (L'.length+b):=by
 have:=hk ((A++[w]).length+b);rw[show A++w::y::B'=(A++[w])++y::B' by simp,show sA++s1::jb=(sA++[s1])++jb by simp]at this;exact this.behind hb (.inl (by simp;omega)) (.inl hl)
theorem NY {K:List (KT h)}{ss:List ByteArray}{j:Nat}(hj:K.length<=j):KP K ss j:=by
 rw[oL];refine⟨fun a b k h1=>?_,fun i a b k e1 e2=>by omega⟩;rw[List.getElem?_eq_none hj]at h1;cases h1
theorem xi (hA:A.length=sA.length)(hB:B.length=sB.length)(ks:List Int)(keys:List ByteArray)(hl:(keys.length:Int)=max ((ks.length:Int)-1) 0):
  gp (aV (h+1) (bJ (A++w::B) (sA++sB))) (A.length:Int) ((A.length:Int)+1) ks keys=⟨false,[],A.map Prod.fst++ks++B.map Prod.fst,iG (sA++sB) (uN A.length ks) (uO A.length (A.length+1) ks) keys⟩:=by
 have e1:((A.length:Int)+1).toNat=A.length+1:=by omega
 have e2:((A.length:Int)).toNat=A.length:=by omega
 rw[bV,gp,if_pos]
 ·rw[e1,e2];have f1:iG ((A++w::B).map Prod.fst) A.length (A.length+1) ks=A.map Prod.fst++ks++B.map Prod.fst:=by
   unfold iG;rw[List.map_append,List.take_append_of_le_length (by simp),List.drop_append];simp[List.take_of_length_le]
  rw[f1]
 ·simp only[swB,Bool.and_eq_true,decide_eq_true_eq,Bool.not_eq_true',List.length_map,List.length_append,List.length_cons];exact⟨by omega,by omega,by omega,hl,trivial⟩
theorem Sk (hA:A.length=sA.length)(p:Int):iG (sA++sB) (uN A.length [p]) (uO A.length (A.length+1) [p]) []=sA++sB:=by
 simp[iG,uN,uO]
theorem Sl (hA:A.length=sA.length)(p q:Int)(k:ByteArray):iG (sA++sB) (uN A.length [p,q]) (uO A.length (A.length+1) [p,q]) [k]=sA++k::sB:=by
 simp[iG,uN,uO,hA]
theorem Sn (hA:A.length=sA.length)(h0:A≠[]):iG (sA++sB) (uN A.length []) (uO A.length (A.length+1) []) []=sA.take (A.length-1)++sB:=by
 have h1:0<A.length:=List.length_pos_iff.2 h0;have e1:uN A.length []=A.length-1:=by simp[uN]
 have e2:uO A.length (A.length+1) []=A.length:=by unfold uO;rw[if_neg (by simp),if_pos h1];omega
 rw[e1,e2,iG,List.append_nil,List.take_append_of_le_length (by omega),hA,List.drop_left]
theorem NZ:iG ([]++sB) (uN 0 []) (uO 0 (0+1) []) []=sB.drop 1:=by
 simp[iG,uN,uO]
end
end P
namespace P
open N
def pX (p:Int):List Int:=if p=0 then []else [p]
def P0 (S:Dr)(p:Int):Prop:=p=0∨Us S p
section
variable {room:Nat}{d:Dk}{S S2:Dr}{h:Nat}{A B M:List (KT h)}{sA sB fK:List ByteArray}{w:KT h}
theorem Vu (ok:Sd room S):S.may 0=false:=by
 cases hm:S.may 0 with
 |false=>rfl
 |true=>
  have:=ok.x.fs 0 ((dM S 0).1 hm).1;omega
theorem zB {p:Int}(hp:P0 S p):∀q∈pX p,Us S q:=fun q hq=>by
 unfold pX at hq;split at hq
 ·cases hq
 ·rename_i h0
  rw[List.mem_singleton.1 hq];rcases hp with e|e
  ·exact absurd e h0
  ·exact e
theorem xj (ok:Sd room S){p:Int}(hp:P0 S p){n:Nd}(hf:cE n=true){m:Nat}(hb:Bd S m):
  ∃q e S',S.put room p n=some ((q,e),S')∧Er room d 0 S (pX p) S' e∧(e=0->Fm room d 2 S (pX p) S' [q]∧S'.vw d q=(n,0)):=by
 obtain⟨q,e,S',h1,h2,h3⟩:=Bk (d:=d) ok (id:=p) (X:=pX p) (by
  unfold pX
  by_cases h0:p=0
  ·subst h0
   exact .inl ⟨by simp,Vu ok⟩
  ·rw[if_neg h0]
   rcases hp with e|e
   ·exact absurd e h0
   ·exact .inr ⟨rfl,e⟩) hf hb
 exact⟨q,e,S',h1,h2,fun he=>⟨(h3 he).1,(h3 he).2.1⟩⟩
theorem N0 (ok:Sd room S){p:Int}(hp:P0 S p):Fm room d 0 S (pX p) (S.drop p) []:=by
 unfold pX;by_cases h0:p=0
 ·subst h0;have e:S.drop 0=S:=by unfold Dr.drop;rw[if_neg (by rw[Vu ok];simp)]
  rw[e];simp only[if_true];exact Fm.refl ok (fun _ hc=>by cases hc) List.nodup_nil
 ·rw[if_neg h0];rcases hp with e|e
  ·exact absurd e h0
  ·exact qP ok e
theorem Ob.facts {t:BT h}(ho:Ob room d S h t):Sd room S∧(∀p∈bu h t,Us S p)∧(bu h t).Nodup∧py S d (l8 h t)∧(∀x∈dW h t,x.2.size<=40):=by
 cases h with
 |zero=>exact⟨ho.1,(fun _ hc=>by cases hc),List.nodup_nil,(fun _ hc=>by cases hc),ho.2.2.1⟩
 |succ h=>exact⟨ho.1.sd,ho.1.us,ho.1.nd,ho.1.is,ho.1.vl⟩
structure PlR (room:Nat)(d:Dk)(c:Nat)(S:Dr)(X:List Int)(F:List It)(E:List En)(z:Nat)(n:Nd)(S':Dr)(h:Nat)(K':List (KT h))(ss':List ByteArray):Prop where
 n:n=aV (h+1) (bJ K' ss')
 rw:Rw room d S' h K' ss'
 kp:∀j,KP K' ss' j
 fm:Fm room d c S X S' (aW K')
 oi:OI F (dm K' ss')
 en:bO K'=E
 sz:bW ss'<=z
 ln:(aW K').length<=X.length+2
theorem jf (hr:room<=16384)(HJ:l9 room d h){depth:Int}(hd:depth+1+h<24){f m c:Nat}{K:List (KT h)}{ss:List ByteArray}(R:Rw room d S2 h K ss){i tt:Int}{a b:Nat}(ha:max i 0=(a:Int))(hb':tt=(b:Int))
  (k1:∀j,j<a->KP K ss j)(k2:∀j,b<=j->KP K ss j){X:List Int}(F:Fm room d c S X S2 (aW K))(hc:c<=4){G:List It}(oi:OI G (dm K ss)){E:List En}(en:bO K=E){z:Nat}(hz:bW ss<=z)(hl:(aW K).length<=X.length+2)(hab:b<=a+4)(hf:3*(X.length+2)+5<=f)(hb:Bd S (X.length+6+m)):
  ∃n e S',bA room d f S2 (aV (h+1) (bJ K ss)) depth i tt=some ((n,e),S')∧Er room d 4 S X S' e∧(e=0->∃K' ss',PlR room d 4 S X G E z n S' h K' ss'):=by
 obtain⟨n,e,S',t1,t2,t3⟩:=gV (m:=m) hr HJ hd f S2 K ss a b R k1 k2 (by omega) (F.bd hb (by omega));refine⟨n,e,S',?_,(F.er t2).mono (by omega),fun he=>?_⟩
 ·unfold bA;rw[ha,hb'];exact t1
 ·obtain⟨K',ss',r1,r2,r3,r4,r5,r6,r7,r8,r9⟩:=t3 he;exact⟨K',ss',r1,r2,r3,(F.trans r4).mono (by omega),oi.trans (OI.sub r5),r6.trans en,Nat.le_trans r7 hz,Nat.le_trans r9 hl⟩
theorem Bo (hr:room<=16384)(ok:Sd room S)(K:List (KT h))(ss:List ByteArray)(hl:K.length<=ss.length+1)(hs:bW ss<=1000)(us:∀u∈K,P0 S u.1):cB (aV (h+1) (bJ K ss))=true:=by
 have h1:5*ss.length<=bW ss:=kM;rw[bV];simp only[cB,Bool.and_eq_true,decide_eq_true_eq,cP,List.all_eq_true,List.length_nil,List.length_map];refine⟨⟨⟨⟨⟨?_,?_⟩,?_⟩,?_⟩,?_⟩,fun k hk=>?_⟩
 iterate 5 (first|omega|rfl)
 obtain⟨u,hu,rfl⟩:=List.mem_map.1 hk;rcases us u hu with e|hp
 ·omega
 ·have h1:=hp.lo;have h2:=hp.hi;have h3:=ok.x.pr;omega
theorem vd (C:Ctx room d S h A sA B sB)(hp:P0 S w.1)(t:BT h)(ho:Ob room d S h t)(hnd:(pX w.1++bu h t++(aW A++aW B)).Nodup)(hod:bS (dm A sA++(cx h t++jM (B.map fun u=>cx h u.2) sB)))(hsz:bW (sA++sB)<=1000)(wt:Wl h t)(zt:bT h t<=240){q:Int}(F:Fm room d 2 S (pX w.1) S2 [q])(hv:S2.vw d q=(aV h t,0)):
  Rw room d S2 h (A++([(q,t)]++B)) (sA++sB)∧Fm room d 2 S (pX w.1++bu h t++(aW A++aW B)) S2 (aW (A++([(q,t)]++B))):=by
 obtain⟨sd,us,nd,is,vl⟩:=ho.facts;obtain⟨n1,n2,n3⟩:=List.nodup_append.1 hnd;obtain⟨n4,n5,n6⟩:=List.nodup_append.1 n1;have F2:Fm room d 2 S (pX w.1++bu h t) S2 (aW [(q,t)]):=by
  have:=F.ext us n1;have e:aW [(q,t)]=[q]++bu h t:=by rw[bG,cC];simp[aW,iq]
  rw[e];exact this
 refine C.row F2 hnd ?_ (fun u hu=>by rw[List.mem_singleton.1 hu];exact⟨wt,zt⟩) ?_ (fun x hx=>vl x (by simpa[bO]using hx)) hsz (.inl (by have:=C.hA;have:=C.hB;simp;omega))
 ·intro x hx;have hx':x∈oH (q,t):=by simpa[iq]using hx
  rcases List.mem_cons.1 hx' with rfl|hx'
  ·exact hv
  ·exact F.NK is us (fun p hp hc=>n6 p hc p hp rfl) x hx'
 ·show bS (dm (A++(q,t)::B) (sA++sB));rw[fg C.hA];exact hod
end
end P
namespace P
open N
section
variable {room:Nat}{d:Dk}{S S1 S2 S3:Dr}{h:Nat}{A B M:List (KT h)}{sA sB fK:List ByteArray}{w:KT h}
theorem Fi (C:Ctx room d S h A sA B sB)(hp:P0 S w.1)(t c1 c2:BT h){k:ByteArray}(hnd:(pX w.1++bu h t++(aW A++aW B)).Nodup)(hod:bS (dm A sA++((cx h c1++(true,k)::cx h c2)++jM (B.map fun u=>cx h u.2) sB)))(hsz:bW (sA++k::sB)<=1000)
    (w1:Wl h c1∧bT h c1<=240)(w2:Wl h c2∧bT h c2<=240)(vl:∀x∈dW h c1++dW h c2,x.2.size<=40)(is:py S1 d (l8 h c1++l8 h c2))(F0:Fm room d 0 S (bu h t) S1 (bu h c1++bu h c2)){q1 q2:Int}(F1:Fm room d 2 S1 (pX w.1) S2 [q1])(v1:S2.vw d q1=(aV h c1,0))(F2:Fm room d 2 S2 [] S3 [q2])(v2:S3.vw d q2=(aV h c2,0)):
    Rw room d S3 h (A++([(q1,c1),(q2,c2)]++B)) (sA++k::sB)∧Fm room d 4 S (pX w.1++bu h t++(aW A++aW B)) S3 (aW (A++([(q1,c1),(q2,c2)]++B))):=by
  obtain⟨n1,n2,n3⟩:=List.nodup_append.1 hnd;have G0:=F0.ext (Y:=pX w.1) (zB hp) (List.perm_append_comm.nodup_iff.1 n1);have NM:(pX w.1++(bu h c1++bu h c2)).Nodup:=List.perm_append_comm.nodup_iff.1 G0.nd;have G1:=F1.ext (Y:=bu h c1++bu h c2) F0.us NM;have G2:=F2.ext (Y:=[q1]++(bu h c1++bu h c2)) G1.us G1.nd;have eM:aW [(q1,c1),(q2,c2)]=q1::(bu h c1++q2::bu h c2):=by rw[bG,bG,cC,cC];simp[aW,iq]
  have pM:([q2]++([q1]++(bu h c1++bu h c2))).Perm (aW [(q1,c1),(q2,c2)]):=by
    rw[eM];show(q2::q1::(bu h c1++bu h c2)).Perm (q1::(bu h c1++q2::bu h c2));exact(List.Perm.swap q1 q2 _).trans (List.Perm.cons _ List.perm_middle.symm)
  have F:Fm room d 4 S (pX w.1++bu h t) S3 (aW [(q1,c1),(q2,c2)]):=
    (((G0.perm List.perm_append_comm List.perm_append_comm).trans G1).trans G2).perm (List.Perm.refl _) pM
  have i2:py S2 d (l8 h c1++l8 h c2):=F1.NK is (by rw[List.map_append];exact F0.us) (by
    rw[List.map_append]
    exact fun p hp hc=>(List.nodup_append.1 NM).2.2 p hc p hp rfl)
  have i3:py S3 d (l8 h c1++l8 h c2):=F2.NK i2 (by rw[List.map_append];exact fun p hp=>G1.us p (by simp only[List.mem_append]at hp⊢;exact .inr hp)) (fun p hp hc=>by cases hc);have hq:S3.vw d q1=(aV h c1,0):=by
    rw[(F2.keep q1 (F1.us q1 (by simp)) (by simp)).2.2.1];exact v1
  refine C.row F hnd ?_ (fun u hu=>?_) ?_ (fun x hx=>vl x (by simpa[bO]using hx)) hsz (.inl (by have:=C.hA;have:=C.hB;simp;omega))
  · intro x hx;have hx':x∈oH (q1,c1)++oH (q2,c2):=by simpa[iq]using hx
    rcases List.mem_append.1 hx' with hx'|hx'
    · rcases List.mem_cons.1 hx' with rfl|hx'
      · exact hq
      · exact i3 x (List.mem_append_left _ hx')
    · rcases List.mem_cons.1 hx' with rfl|hx'
      · exact v2
      · exact i3 x (List.mem_append_right _ hx')
  · rcases List.mem_cons.1 hu with rfl|hu
    · exact w1
    · rw[List.mem_singleton.1 hu];exact w2
  · show bS (dm (A++(q1,c1)::(q2,c2)::B) (sA++k::sB));rw[qO C.hA];simpa using hod
theorem DB (hA:A.length=sA.length)(hB:B.length=sB.length):(A≠[]->(dm (A++B) (sA.take (A.length-1)++sB)).Sublist (dm A sA++jM (B.map fun u=>cx h u.2) sB))∧(A=[]->(dm B (sB.drop 1)).Sublist (jM (B.map fun u=>cx h u.2) sB)):=by
 constructor
 ·intro h0;obtain⟨A0,x,rfl,hl⟩:=xh (l:=A) (n:=A.length-1) (by have:=List.length_pos_iff.2 h0;omega);obtain⟨s0,s,rfl,hl2⟩:=xh (l:=sA) (n:=A0.length) (by simp at hA;omega);have e1:(s0++[s]).take ((A0++[x]).length-1)=s0:=by
   rw[show(A0++[x]).length-1=s0.length by simp;omega];simp
  rw[e1,List.append_assoc,List.singleton_append,fg (by omega),fg (sB:=[s]) (by omega)];have e2:jM (List.map (fun u:KT h=>cx h u.2) []) [s]=[(true,s)]:=by simp[jM,jc]
  rw[e2];simp only[List.append_assoc];exact List.Sublist.append (List.Sublist.refl _) (List.Sublist.append (List.Sublist.refl _) (List.sublist_append_right _ _))
 ·intro h0;cases B with
  |nil=>
   cases sB with
   |nil=>exact List.Sublist.refl _
   |cons s sB=>simp at hB
  |cons y B=>
   cases sB with
   |nil=>simp at hB
   |cons s sB=>
    rw[List.map_cons,jd,List.drop_one,List.tail_cons,dm,List.map_cons,qN];exact List.sublist_cons_self _ _
theorem tj (C:Ctx room d S h A sA B sB)(t:BT h)(hnd:(pX w.1++bu h t++(aW A++aW B)).Nodup)(WU:bu h t=[])(hod:bS (dm A sA++jM (B.map fun u=>cx h u.2) sB))(hsz:bW (sA++sB)<=1000)(F:Fm room d 0 S (pX w.1) S2 [])(hs1:(A≠[]∧fK=sA.take (A.length-1)++sB)∨(A=[]∧fK=sB.drop 1)):
  Rw room d S2 h (A++([]++B)) fK∧Fm room d 0 S (pX w.1++bu h t++(aW A++aW B)) S2 (aW (A++([]++B)))∧(dm (A++B) fK).Sublist (dm A sA++jM (B.map fun u=>cx h u.2) sB)∧bW fK<=bW (sA++sB):=by
 have hA:=C.hA;have hB:=C.hB;have sf:(dm (A++B) fK).Sublist (dm A sA++jM (B.map fun u=>cx h u.2) sB):=by
  rcases hs1 with⟨h0,rfl⟩| ⟨rfl,rfl⟩
  ·exact(DB hA hB).1 h0
  ·have e:dm ([]:List (KT h)) sA=[]:=by cases sA<;>rfl
   rw[e];exact(DB (A:=[]) (sA:=sA) hA hB).2 rfl
 have hz:bW fK<=bW (sA++sB):=by
  rcases hs1 with⟨h0,rfl⟩| ⟨rfl,rfl⟩
  ·rw[dE,dE];have:=o0 sA (A.length-1);omega
  ·have e1:=dE (sB.take 1) (sB.drop 1);rw[List.take_append_drop]at e1;rw[dE];omega
 rw[WU,List.append_nil]at hnd⊢;have:=C.row (M:=[]) (fK:=fK) F hnd (fun x hx=>by cases hx) (fun u hu=>by cases hu) (hod.sub sf) (fun x hx=>by cases hx) (Nat.le_trans hz hsz) (by
  rcases hs1 with⟨h0,rfl⟩| ⟨rfl,rfl⟩
  ·have:=List.length_pos_iff.2 h0
   refine .inl ?_
   simp
   omega
  ·by_cases hb:B=[]
   ·subst hb
    refine .inr ⟨rfl,?_⟩
    have:sB=[]:=List.length_eq_zero_iff.1 (by simpa using hB.symm)
    rw[this];rfl
   ·have:=List.length_pos_iff.2 hb
    refine .inl ?_
    simp
    omega)
 exact⟨this.1,this.2,sf,hz⟩
end
end P
namespace P
open N
section
variable {room:Nat}{d:Dk}{S S1 S2 S3:Dr}{h:Nat}{A B M:List (KT h)}{sA sB fK:List ByteArray}{w:KT h}
theorem tu (hA:A.length=sA.length)(hk:∀j,KP (A++w::B) (sA++sB) j)(R':List (KT h)){ss' t':List ByteArray}(e:ss'=sA.take (A.length-1)++t'):∀j,j<A.length-1->KP (A++R') ss' j:=fun j hj=>by
 rw[e];exact Sh hA hk R' t' (by omega)
theorem qR (hA:A.length=sA.length)(hB:B.length=sB.length)(hk:∀j,KP (A++w::B) (sA++sB) j)(L':List (KT h)){ss' t':List ByteArray}(e:B≠[]->ss'=t'++sB.drop 1∧t'.length=L'.length):∀j,L'.length+1<=j->KP (L'++B) ss' j:=fun j hj=>by
 by_cases h0:B=[]
 ·subst h0;exact NY (by simp;omega)
 ·obtain⟨e1,e2⟩:=e h0;obtain⟨y,B',rfl,_⟩:=eK (l:=B) (n:=B.length-1) (by have:=List.length_pos_iff.2 h0;omega);obtain⟨s1,jb,rfl,_⟩:=eK (l:=sB) (n:=B'.length) (by simpa using hB.symm);have:=Si (w:=w) hA hk L' t' e2 (b:=j-L'.length) (by omega);rw[e1,List.drop_one,List.tail_cons]
  rwa [show L'.length+(j-L'.length)=j by omega]at this
theorem vg (hA:A.length=sA.length)(x:List ByteArray):sA++x=sA.take (A.length-1)++(sA.drop (A.length-1)++x):=by rw[<-List.append_assoc,List.take_append_drop]
theorem gX (hB:B.length=sB.length)(h0:B≠[])(x:List ByteArray):x++sB=(x++sB.take 1)++sB.drop 1∧(sB.take 1).length=1:=by
 have:=List.length_pos_iff.2 h0;exact⟨by rw[List.append_assoc,List.take_append_drop],by rw[List.length_take];omega⟩
theorem Jt (hr:room<=16384)(HJ:∀h,l9 room d h){depth:Int}(hd:depth+1+h<24){f m:Nat}(C:Ctx room d S h A sA B sB)(hp:P0 S w.1)(t:BT h)(ho:Ob room d S h t)(hnd:(pX w.1++bu h t++(aW A++aW B)).Nodup)(hk:∀j,KP (A++w::B) (sA++sB) j)(hod:bS (dm A sA++(cx h t++jM (B.map fun u=>cx h u.2) sB)))(hsz:bW (sA++sB)<=240)(hsw:cB (aV h w.2)=true)
    (hf:3*((pX w.1++bu h t++(aW A++aW B)).length+2)+5<=f)(hb:Bd S ((pX w.1++bu h t++(aW A++aW B)).length+6+m)):
    ∃n e S',eH (bA room d f) room S (aV (h+1) (bJ (A++w::B) (sA++sB))) (A.length:Int) depth (aV h w.2) (aV h t)=some ((n,e),S')∧Er room d 4 S (pX w.1++bu h t++(aW A++aW B)) S' e∧
      (e=0->∃K' ss',PlR room d 4 S (pX w.1++bu h t++(aW A++aW B)) (dm A sA++(cx h t++jM (B.map fun u=>cx h u.2) sB)) (bO A++(dW h t++bO B)) (bW (sA++sB)+21) n S' h K' ss'):=by
  obtain⟨sd,us,nd,is,vl⟩:=ho.facts;have hA:=C.hA;have hB:=C.hB;have hgd:(A.map Prod.fst++w.1::B.map Prod.fst).getD ((A.length:Int)).toNat 0=w.1:=by simp[List.getD_eq_getElem?_getD]
  have hgd':(aV (h+1) (bJ (A++w::B) (sA++sB))).ks.getD ((A.length:Int)).toNat 0=w.1:=by
    rw[bV];simp[List.getD_eq_getElem?_getD]
  have hsm:cB (aV (h+1) (bJ (A++w::B) (sA++sB)))=true:=Bo hr sd _ _ (by simp;omega) (by omega) (fun u hu=>by
    simp only[List.mem_append,List.mem_cons]at hu
    rcases hu with hu|rfl|hu
    · exact .inr (C.us _ (List.mem_append_left _ (qQ hu)))
    · exact hp
    · exact .inr (C.us _ (List.mem_append_right _ (qQ hu))))
  have hlen:(aV (h+1) (bJ (A++w::B) (sA++sB))).ks.length=A.length+B.length+1:=by rw[bV];simp;omega
  have hXl:(bu h t).length<=(pX w.1++bu h t++(aW A++aW B)).length:=by simp only[List.length_append];omega
  have NM:=(List.nodup_append.1 hnd).1;have qT:(bu h t++pX w.1).Perm (pX w.1++bu h t):=List.perm_append_comm;obtain⟨parts,keys,e,S1,t1,t2,t3⟩:=Sg (m:=m) hr HJ t ho (depth:=depth+1) (f:=f) (by omega) (by omega) (hb.mono (by omega));unfold eH;rw[if_neg (by rw[hb.ok,hsm,hsw,hlen];simp;omega),t1,hgd'];simp only;by_cases he:e=0
  · subst he;rw[if_neg (by simp)];rcases t3 rfl with⟨rfl,rfl,rfl,WU,hen,hfl⟩| ⟨rfl,rfl,rfl,wt,zt,fi⟩| ⟨c1,c2,k,rfl,rfl,wc1,wc2,z1,z2,f1,f2,ic,F0,oi,en,ln⟩
    ·
      have F:=N0 (d:=d) sd hp;rw[if_pos rfl];simp only[eV];rw[if_neg (by simp),if_neg (by simp),xi hA hB [] [] (by first| (simp;done)| (simp;omega))];rw[hfl,List.nil_append]at hod⊢;rw[hen,List.nil_append];by_cases h0:A=[]
      · subst h0;have hsA:sA=[]:=List.length_eq_zero_iff.1 (by simpa using hA.symm);subst hsA;obtain⟨R,E,sf,hz⟩:=tj C t hnd WU hod (by omega) F (.inr ⟨rfl,rfl⟩);have en0:(⟨false,[],List.map Prod.fst ([]:List (KT h))++[]++B.map Prod.fst,iG ([]++sB) (uN ([]:List (KT h)).length []) (uO ([]:List (KT h)).length (([]:List (KT h)).length+1) []) []⟩:Nd)=aV (h+1) (bJ ([]++([]++B)) (sB.drop 1)):=by
          rw[bV];have:=NZ (sB:=sB);simp only[List.length_nil]at this⊢;rw[this];rfl
        rw[en0];exact jf hr (HJ h) hd (m:=m) R (a:=0) (b:=1) (by first| (simp;done)| (simp;omega)) (by first| (simp;done)| (simp;omega)) (fun j hj=>by omega) (fun j hj=>qR (A:=[]) (sA:=[]) (w:=w) (t':=[]) rfl hB hk [] (fun _=>⟨rfl,rfl⟩) j (by simpa using hj)) E (by omega) (OI.sub sf) (by simp[bO]) (by omega) (by
          have:=E.Bj
          rw[bj,bj]
          simp only[List.length_append]at*
          simp[aW,iq]at*
          omega) (by omega) hf hb
      · have hpos:=List.length_pos_iff.2 h0;obtain⟨R,E,sf,hz⟩:=tj C t hnd WU hod (by omega) F (.inl ⟨h0,rfl⟩);have en0:(⟨false,[],A.map Prod.fst++[]++B.map Prod.fst,iG (sA++sB) (uN A.length []) (uO A.length (A.length+1) []) []⟩:Nd)=aV (h+1) (bJ (A++([]++B)) (sA.take (A.length-1)++sB)):=by
          rw[bV,Sn hA h0];simp
        rw[en0];refine jf hr (HJ h) hd (m:=m) R (a:=A.length-1) (b:=A.length+1) (by omega) (by first| (simp;done)| (simp;omega)) ?_ ?_ E (by omega) (OI.sub sf) (by simp[bO]) (by omega) (by
          rw[bj,bj]
          simp only[List.length_append]
          simp[aW,iq]
          omega) (by omega) hf hb
        · exact tu hA hk _ rfl
        · exact qR hA hB hk A (t':=sA.take (A.length-1)++sB.take 1) (fun hb0=>⟨(gX hB hb0 _).1,by rw[List.length_append,(gX hB hb0 []).2,List.length_take];omega⟩)
    ·
      obtain⟨q,e2,S2,k1,k2,k3⟩:=xj (d:=d) sd hp fi hb;rw[if_neg (by simp)];simp only[eV,k1];by_cases he2:e2=0
      · subst he2;obtain⟨F,hv⟩:=k3 rfl;obtain⟨R,E⟩:=vd C hp t ho hnd hod (by omega) wt zt F hv;rw[if_neg (by simp)];simp only;rw[if_neg (by simp),List.nil_append,xi hA hB [q] [] (by first| (simp;done)| (simp;omega))];have en0:(⟨false,[],A.map Prod.fst++[q]++B.map Prod.fst,iG (sA++sB) (uN A.length [q]) (uO A.length (A.length+1) [q]) []⟩:Nd)=aV (h+1) (bJ (A++([(q,t)]++B)) (sA++sB)):=by
          rw[bV,Sk hA];simp
        rw[en0];have hpl:(aW (A++([(q,t)]++B))).length<=(pX w.1++bu h t++(aW A++aW B)).length+2:=by
          rw[bj,bj];simp only[List.length_append];simp[aW,iq,oH];omega
        have hen':bO (A++([(q,t)]++B))=bO A++(dW h t++bO B):=by simp[bO]
        have hoi:OI (dm A sA++(cx h t++jM (B.map fun u=>cx h u.2) sB)) (dm (A++([(q,t)]++B)) (sA++sB)):=by
          rw[List.singleton_append,fg hA];exact OI.refl _
        by_cases hg:dZ (aV h w.2)<=dZ (aV h t)
        · rw[if_pos ⟨by simp,hg⟩];exact jf hr (HJ h) hd (m:=m) R (a:=A.length) (b:=A.length+1) (by omega) (by first| (simp;done)| (simp;omega)) (fun j hj=>(hk j).grow (c:=(q,t)) (by omega) hg) (fun j hj=>(hk j).grow (c:=(q,t)) (by omega) hg) E (by omega) hoi hen' (by omega) hpl (by omega) hf hb
        · rw[if_neg (fun hc=>hg hc.2)];refine jf hr (HJ h) hd (m:=m) R (a:=A.length-1) (b:=A.length+2) (by omega) (by first| (simp;done)| (simp;omega)) ?_ ?_ E (by omega) hoi hen' (by omega) hpl (by omega) hf hb
          · exact tu hA hk _ (vg hA _)
          · intro j hj;have:=qR (ss':=sA++sB) hA hB hk (A++[(q,t)]) (t':=sA++sB.take 1) (fun hb0=>⟨(gX hB hb0 _).1,by rw[List.length_append,(gX hB hb0 []).2];simp;omega⟩) j (by simp;omega);simpa using this
      · rw[if_pos he2];simp only;rw[if_pos he2];exact⟨_,_,_,rfl,((k2.ext us NM).ext C.us hnd).mono (by omega),fun h0=>absurd h0 he2⟩
    ·
      have G0:=((F0.ext (Y:=pX w.1) (zB hp) (qT.nodup_iff.2 NM)).perm qT List.perm_append_comm).ext C.us hnd;have hp1:P0 S1 w.1:=by
        rcases hp with e|e
        · exact .inl e
        · by_cases hz:w.1=0
          · exact .inl hz
          · refine .inr (F0.zy e (fun hc=>?_)).1;obtain⟨n1,_,_⟩:=List.nodup_append.1 hnd;exact(List.nodup_append.1 n1).2.2 w.1 (by simp[pX,hz]) w.1 hc rfl
      have Vv:Bd S1 (m+4):=F0.bd hb (by simp only[List.length_append]at*;omega);obtain⟨q1,e1,S2,k1,k2,k3⟩:=xj (d:=d) F0.ok hp1 f1 Vv;rw[if_neg (by simp)];simp only[eV,k1];by_cases he1:e1=0
      · subst he1;obtain⟨F1,v1⟩:=k3 rfl;rw[if_neg (by simp)];have YT:Bd S2 (m+2):=F1.bd Vv (by
          have:(pX w.1).length<=1:=by unfold pX;split<;>simp
          simp only[List.length_cons,List.length_nil]
          omega)
        obtain⟨q2,e2,S3,j1,j2,j3⟩:=xj (d:=d) (p:=0) F1.ok (.inl rfl) f2 YT;simp only[j1];by_cases he2:e2=0
        · subst he2;obtain⟨F2,v2⟩:=j3 rfl;have e0:pX 0=[]:=by simp[pX]
          rw[e0]at F2;have Vw:bS (dm A sA++((cx h c1++(true,k)::cx h c2)++jM (B.map fun u=>cx h u.2) sB)):=oi _ _ hod;have hks:k.size<=16:=(Vw.sz (true,k) (by simp)).2;have aap:bW (sA++k::sB)=bW (sA++sB)+(5+k.size):=by rw[dE,dE,bW];omega
          obtain⟨R,E⟩:=Fi C hp t c1 c2 hnd Vw (by omega) ⟨wc1,z1⟩ ⟨wc2,z2⟩ (by rw[<-en];exact vl) ic F0 F1 v1 F2 v2;rw[if_neg (by simp)];simp only[List.nil_append];rw[if_neg (by simp),if_neg (by simp)];rw[show [q1]++[q2]=[q1,q2]from rfl,xi hA hB [q1,q2] [k] (by first| (simp;done)| (simp;omega))];have en0:(⟨false,[],A.map Prod.fst++[q1,q2]++B.map Prod.fst,iG (sA++sB) (uN A.length [q1,q2]) (uO A.length (A.length+1) [q1,q2]) [k]⟩:Nd)=aV (h+1) (bJ (A++([(q1,c1),(q2,c2)]++B)) (sA++k::sB)):=by
            rw[bV,Sl hA];simp
          rw[en0];have hpl:(aW (A++([(q1,c1),(q2,c2)]++B))).length<=(pX w.1++bu h t++(aW A++aW B)).length+2:=by
            rw[bj,bj];simp only[List.length_append]at*;simp[aW,iq,oH]at*;omega
          refine jf hr (HJ h) hd (m:=m) R (a:=A.length-1) (b:=A.length+3) (by omega) (by first| (simp;done)| (simp;omega)) ?_ ?_ E (by omega) ?_ ?_ (by omega) hpl (by omega) hf hb
          · exact tu hA hk _ (vg hA _)
          · intro j hj;have:=qR (ss':=sA++k::sB) hA hB hk (A++[(q1,c1),(q2,c2)]) (t':=sA++[k]++sB.take 1) (fun hb0=>⟨by rw[<- (gX hB hb0 _).1];simp,by rw[List.length_append,(gX hB hb0 []).2];simp;omega⟩) j (by simp;omega);simpa using this
          · show OI _ (dm (A++(q1,c1)::(q2,c2)::B) (sA++k::sB));rw[qO hA];have:=oi.ctx (dm A sA) (jM (B.map fun u=>cx h u.2) sB);simpa using this
          · rw[en];simp[bO]
        · rw[if_pos he2];simp only;rw[if_pos he2];have G1:=(F1.ext F0.us (List.nodup_append.1 G0.nd).1).ext (fun q hq=>G0.us q (List.mem_append_right _ hq)) G0.nd;have e0:pX 0=[]:=by simp[pX]
          rw[e0]at j2;exact⟨_,_,_,rfl,((G0.trans G1).er (j2.ext (X:=[]) G1.us G1.nd)).mono (by omega),fun h0=>absurd h0 he2⟩
      · rw[if_pos he1];simp only;rw[if_pos he1];exact⟨_,_,_,rfl,(G0.er ((k2.ext F0.us (List.nodup_append.1 G0.nd).1).ext (fun q hq=>G0.us q (List.mem_append_right _ hq)) G0.nd)).mono (by omega),fun h0=>absurd h0 he1⟩
  · rw[if_pos he];exact⟨_,_,_,rfl,(((t2.ext (zB hp) (qT.nodup_iff.2 NM)).perm qT).ext C.us hnd).mono (by omega),fun h0=>absurd h0 he⟩
end
end P
end Go.Proofs.YtdcpfbidcpfboaaGreatDoor
