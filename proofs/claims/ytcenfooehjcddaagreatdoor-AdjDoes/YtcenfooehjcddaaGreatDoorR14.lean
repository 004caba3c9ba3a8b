/- Walks of the package cowtree and of what it stands on: lemmas, made short. -/
import Derived.Test.YtcenfooehjcddaaGreatDoorR13
import Derived.Test.YtcenfooehjcddaaGreatDoorR12
import Derived.Test.YtcenfooehjcddaaGreatDoorR10
import Derived.Deep.QuietTactic
import Derived.BigQuiet
set_option maxHeartbeats 16000000
set_option maxRecDepth 100000
set_option linter.unusedVariables false
set_option linter.unusedSimpArgs false
namespace Go.Proofs.YtcenfooehjcddaaGreatDoor
namespace P
open N
def _root_.Go.Proofs.YtcenfooehjcddaaGreatDoor.Dr.bt (S:Dr)(z:Int):Dr:=⟨S.x,S.nodes,S.cnt,S.taken,S.spare,z⟩
def og (l:List En):List It:=l.map fun(x:En)=>((false,x.1):It)
section
variable {room:Nat}{d:Dk}{S S1 S2:Dr}{h:Nat}{A B:List (KT h)}{sA sB:List ByteArray}{w:KT h}{key:ByteArray}{ed:List En->List En}
theorem Us.bt {p:Int}(hp:Us S p)(z:Int):Us (S.bt z) p:=⟨hp.lo,hp.hi,hp.fr,hp.sp⟩
theorem Sd.bt (ok:Sd room S)(z:Int):Sd room (S.bt z):=⟨ok.x,ok.sp,ok.nf,ok.sn,ok.fi,ok.bz,ok.tk⟩
theorem Bd.bt {m:Nat}(hb:Bd S m)(z:Int):Bd (S.bt z) m:=⟨hb.cnt,hb.nY,hb.Cw,hb.EA⟩
theorem pQ.bt {C:List (Int×Nd)}(hC:pQ S d C)(z:Int):pQ (S.bt z) d C:=hC
theorem yf {z:It}{y:List It}:∀(l:List (List It)) (ss:List ByteArray),y∈l->z∈y->z∈jg l ss
 |[],_,hy,_=>by cases hy
 |a::l,[],hy,hz=>List.mem_flatten.2 ⟨y,hy,hz⟩
 |a::l,s::ss,hy,hz=>by
  rw[ie];rcases List.mem_cons.1 hy with rfl|hy
  ·exact List.mem_append_left _ hz
  ·exact List.mem_append_right _ (List.mem_cons_of_mem _ (yf l ss hy hz))
theorem jl:∀(h:Nat) (b:BT h) (x:En),x∈dW h b->(false,x.1)∈cC h b
 |0,l,x,hx=>List.mem_map_of_mem (f:=fun(x:En)=>((false,x.1):It)) hx
 |h+1,b,x,hx=>by
  obtain⟨K,ss,rfl⟩:=gV b;rw[pR]at hx;rw[KZ];obtain⟨l,hl,hxl⟩:=List.mem_flatten.1 hx;obtain⟨u,hu,rfl⟩:=List.mem_map.1 hl;exact yf _ ss (List.mem_map_of_mem (f:=fun u:KT h=>cC h u.2) hu) (jl h u.2 x hxl)
theorem ub {K:List (KT h)}{x:En}(hx:x∈bO K)(l:List (List It))(hl:∀y∈K.map (fun u=>cC h u.2),y∈l)(ss:List ByteArray):(false,x.1)∈jg l ss:=by
 obtain⟨l',hl',hxl⟩:=List.mem_flatten.1 hx;obtain⟨u,hu,rfl⟩:=List.mem_map.1 hl';exact yf _ ss (hl _ (List.mem_map_of_mem (f:=fun u:KT h=>cC h u.2) hu)) (jl h u.2 x hxl)
structure Loc (h:Nat)(b:BT h)(key:ByteArray)(L:List It)(es:List En)(R:List It)(EL ER:List En):Prop where
 fl:cC h b=L++(og es++R)
 en:dW h b=EL++(es++ER)
 l1:L=[]∨∃L' s,L=L'++[(true,s)]
 r1:R=[]∨∃s R',R=(true,s)::R'
 l2:∀x∈L,x.1=true->bB key x.2=false
 r2:∀x∈R,x.1=true->bB key x.2=true
 el:∀x∈EL,(false,x.1)∈L
 er:∀x∈ER,(false,x.1)∈R
structure PJ (key:ByteArray)(ed:List En->List En):Prop where
 rg:∀es,Rg es->Rg (ed es)
 mem:∀es,Rg es->∀x∈ed es,(x.1=key∧1<=key.size∧key.size<=16)∨x∈es
 sz:∀es,Rg es->cY (ed es)<=cY es+58
theorem Lf {L R:List It}{es:List En}(ho:bS (L++(og es++R)))(l1:L=[]∨∃L' s,L=L'++[(true,s)])(l2:∀x∈L,x.1=true->bB key x.2=false):∀x∈L,RI x (false,key):=fun x hx=>by
 have p1:=(List.pairwise_append.1 ho.up).1;by_cases hb:x.1=true
 ·simpa[RI,hb]using l2 x hx hb
 ·rcases l1 with rfl| ⟨L',s,rfl⟩
  ·cases hx
  ·rcases List.mem_append.1 hx with hx|hx
   ·have h1:=(List.pairwise_append.1 p1).2.2 x hx (true,s) (by simp);have h2:=l2 (true,s) (by simp) rfl;have h3:bB x.2 s=true:=by simpa[RI]using h1
    simp only[RI,hb,if_false,Bool.false_eq_true];exact gX h2 h3
   ·rw[List.mem_singleton.1 hx]at hb;exact absurd rfl hb
theorem Lg {L R:List It}{es:List En}(ho:bS (L++(og es++R)))(r1:R=[]∨∃s R',R=(true,s)::R')(r2:∀x∈R,x.1=true->bB key x.2=true):∀y∈R,RI (false,key) y:=fun y hy=>by
 have p5:=(List.pairwise_append.1 (List.pairwise_append.1 ho.up).2.1).2.1;by_cases hb:y.1=true
 ·simpa[RI,hb]using r2 y hy hb
 ·rcases r1 with rfl| ⟨s,R',rfl⟩
  ·cases hy
  ·rcases List.mem_cons.1 hy with rfl|hy
   ·exact absurd rfl hb
   ·have h1:=(List.pairwise_cons.1 p5).1 y hy;have h2:bB key s=true:=r2 (true,s) (by simp) rfl;have h3:bB y.2 s=false:=by simpa[RI,hb]using h1
    simp only[RI,hb,if_false,Bool.false_eq_true];exact gX h3 h2
theorem ud {L R:List It}{es:List En}(E:PJ key ed)(ho:bS (L++(og es++R)))(hv:∀x∈es,x.2.size<=40)(l1:L=[]∨∃L' s,L=L'++[(true,s)])(r1:R=[]∨∃s R',R=(true,s)::R')
    (l2:∀x∈L,x.1=true->bB key x.2=false)(r2:∀x∈R,x.1=true->bB key x.2=true):bS (L++(og (ed es)++R)):=by
  obtain⟨p1,p2,p3⟩:=List.pairwise_append.1 ho.up;obtain⟨p4,p5,p6⟩:=List.pairwise_append.1 p2;have oe:bS (og es):=ho.sub (List.Sublist.trans (List.sublist_append_left _ _) (List.sublist_append_right _ _));have hrg:Rg es:=bS.leaf oe hv;have rg':=E.rg es hrg;have mem':=E.mem es hrg;have hL:=Lf ho l1 l2;have hR:=Lg ho r1 r2;have hin:∀x∈og (ed es),(x=(false,key)∧1<=key.size∧key.size<=16)∨x∈og es:=fun x hx=>by
    obtain⟨y,hy,rfl⟩:=List.mem_map.1 hx;rcases mem' y hy with⟨e,hk⟩|e
    · exact .inl ⟨by rw[e],hk⟩
    · exact .inr (List.mem_map_of_mem (f:=fun(x:En)=>((false,x.1):It)) e)
  refine⟨List.pairwise_append.2 ⟨p1,List.pairwise_append.2 ⟨?_,p5,fun x hx y hy=>?_⟩,fun x hx y hy=>?_⟩,fun x hx=>?_⟩
  · unfold og;rw[List.pairwise_map];exact rg'.up.imp fun {a b} hab=>by simpa[RI]using hab
  · rcases hin x hx with⟨rfl,_⟩|hx
    · exact hR y hy
    · exact p6 x hx y hy
  · rcases List.mem_append.1 hy with hy|hy
    · rcases hin y hy with⟨rfl,_⟩|hy
      · exact hL x hx
      · exact p3 x hx y (List.mem_append_left _ hy)
    · exact p3 x hx y (List.mem_append_right _ hy)
  · simp only[List.mem_append]at hx;rcases hx with hx|hx|hx
    · exact ho.sz x (by simp[hx])
    · rcases hin x hx with⟨rfl,hk⟩|hx
      · exact hk
      · exact ho.sz x (by simp[hx])
    · exact ho.sz x (by simp[hx])
theorem yg:∀ {A:List (KT h)} {sA:List ByteArray},A.length=sA.length->(dE A sA=[]∨∃L' s,dE A sA=L'++[(true,s)]∧s∈sA)
 |[],[],_=>.inl rfl
 |[],_::_,e=>by cases e
 |_::_,[],e=>by cases e
 |u::A,s::sA,e=>by
  right;have h1:dE (u::A) (s::sA)=cC h u.2++(true,s)::dE A sA:=rfl;rcases yg (A:=A) (sA:=sA) (by simpa using e)with h2| ⟨L',s',h2,h3⟩
  ·exact⟨cC h u.2,s,by rw[h1,h2],by simp⟩
  ·exact⟨cC h u.2++(true,s)::L',s',by rw[h1,h2];simp,by simp[h3]⟩
theorem vX {B:List (List It)}{sB:List ByteArray}(e:B.length=sB.length):kG B sB=[]∨∃s R',kG B sB=(true,s)::R'∧s∈sB:=by
 cases B with
 |nil=>cases sB with
  |nil=>exact .inl rfl
  |cons s sB=>cases e
 |cons x B=>cases sB with
  |nil=>cases e
  |cons s sB=>exact .inr ⟨s,_,kH _ _ _ _,by simp⟩
theorem Loc.up {L R:List It}{es EL ER:List En}(H:Loc h w.2 key L es R EL ER)(hA:A.length=sA.length)(hB:B.length=sB.length)(ho:bS (dE (A++w::B) (sA++sB)))(k1:∀s∈sA,bB key s=false)(k2:∀s∈sB,bB key s=true):
  Loc (h+1) (bN (A++w::B) (sA++sB)) key (dE A sA++L) es (R++kG (B.map fun u=>cC h u.2) sB) (bO A++EL) (ER++bO B):=by
 have e1:cC (h+1) (bN (A++w::B) (sA++sB))=dE A sA++(cC h w.2++kG (B.map fun u=>cC h u.2) sB):=fG hA;rw[fG hA]at ho;refine⟨?_,?_,?_,?_,fun x hx hb=>?_,fun x hx hb=>?_,fun x hx=>?_,fun x hx=>?_⟩
 ·rw[e1,H.fl];simp
 ·rw[pR,cL,cG,H.en];simp
 ·rcases H.l1 with rfl| ⟨L',s,rfl⟩
  ·rw[List.append_nil];rcases yg hA with e| ⟨L',s,e,_⟩
   ·exact .inl e
   ·exact .inr ⟨L',s,e⟩
  ·exact .inr ⟨dE A sA++L',s,by simp⟩
 ·rcases H.r1 with rfl| ⟨s,R',rfl⟩
  ·rw[List.nil_append];rcases vX (B:=B.map fun u=>cC h u.2) (sB:=sB) (by simpa using hB)with e| ⟨s,R',e,_⟩
   ·exact .inl e
   ·exact .inr ⟨s,R',e⟩
  ·exact .inr ⟨s,R'++kG (B.map fun u=>cC h u.2) sB,rfl⟩
 ·rcases List.mem_append.1 hx with hx|hx
  ·
   rcases yg hA with h0| ⟨L',s,h0,hsA⟩
   ·rw[h0]at hx;cases hx
   ·have hs:(true,s)∈dE A sA:=by rw[h0];simp
    have hsm:bB key s=false:=k1 s hsA;rw[h0]at hx;rcases List.mem_append.1 hx with hx|hx
    ·rw[h0,List.append_assoc]at ho;have h1:=(List.pairwise_append.1 ho.up).2.2 x hx (true,s) (by simp);have h2:bB x.2 s=true:=by simpa[RI]using h1
     cases hc:bB key x.2 with
     |false=>rfl
     |true=>rw[cU hc h2]at hsm;cases hsm
    ·rw[List.mem_singleton.1 hx];exact hsm
  ·exact H.l2 x hx hb
 ·rcases List.mem_append.1 hx with hx|hx
  ·exact H.r2 x hx hb
  ·rcases vX (B:=B.map fun u=>cC h u.2) (sB:=sB) (by simpa using hB)with e| ⟨s,R',e,hs⟩
   ·rw[e]at hx;cases hx
   ·rw[e]at hx;have h0:=k2 s hs;rcases List.mem_cons.1 hx with rfl|hx
    ·exact h0
    ·rw[e]at ho;have h1:=(List.pairwise_append.1 (List.pairwise_append.1 ho.up).2.1).2.1;have h2:=(List.pairwise_cons.1 h1).1 x hx;have h3:bB s x.2=true:=by simpa[RI,hb]using h2
     exact cU h0 h3
 ·rcases List.mem_append.1 hx with hx|hx
  ·exact List.mem_append_left _ (ub hx _ (fun y hy=>hy) sA)
  ·exact List.mem_append_right _ (H.el x hx)
 ·rcases List.mem_append.1 hx with hx|hx
  ·exact List.mem_append_left _ (H.er x hx)
  ·exact List.mem_append_right _ (ub hx _ (fun y hy=>List.mem_cons_of_mem _ hy) sB)
theorem Loc.lo {b:BT h}{L R:List It}{es EL ER:List En}(H:Loc h b key L es R EL ER)(ho:bS (cC h b)):(∀x∈EL,bB x.1 key=true)∧∀x∈ER,bB key x.1=true:=by
 rw[H.fl]at ho;exact⟨fun x hx=>by simpa[RI]using Lf ho H.l1 H.l2 _ (H.el x hx),fun x hx=>by simpa[RI]using Lg ho H.r1 H.r2 _ (H.er x hx)⟩
end
end P
namespace P
open N
section
variable {room:Nat}{d:Dk}{S S1 S2:Dr}{h:Nat}{A B:List (KT h)}{sA sB:List ByteArray}{w:KT h}{key:ByteArray}{ed:List En->List En}
theorem yh:∀ {ss:List ByteArray},ss.Pairwise (fun x y=>bB x y=true)->∃sA sB,ss=sA++sB∧dD ss key=sA.length∧(∀s∈sA,bB key s=false)∧∀s∈sB,bB key s=true
 |[],_=>⟨[],[],rfl,rfl,(fun _ hc=>by cases hc),(fun _ hc=>by cases hc)⟩
 |s::ss,hp=>by
  obtain⟨p1,p2⟩:=List.pairwise_cons.1 hp;cases hs:bB key s with
  |false=>
   obtain⟨sA,sB,r1,r2,r3,r4⟩:=yh (ss:=ss) p2;refine⟨s::sA,sB,by rw[r1];rfl,?_,fun x hx=>?_,r4⟩
   ·unfold dD at r2⊢;rw[List.countP_cons_of_pos (by simp[hs]),r2];rfl
   ·rcases List.mem_cons.1 hx with rfl|hx
    ·exact hs
    ·exact r3 x hx
  |true=>
   have hall:∀x∈s::ss,bB key x=true:=fun x hx=>by
    rcases List.mem_cons.1 hx with rfl|hx
    ·exact hs
    ·exact cU hs (p1 x hx)
   refine⟨[],s::ss,rfl,?_,(fun _ hc=>by cases hc),hall⟩;unfold dD;rw[List.countP_eq_zero.2 (fun x hx=>by simp[hall x hx])];rfl
theorem lq {K:List (KT h)}{ss:List ByteArray}(hl:ss.length<=K.length)(ho:bS (dE K ss)):ss.Pairwise (fun x y=>bB x y=true):=by
 have h1:=ho.sub (jh (K.map fun u=>cC h u.2) ss (by simpa using hl));have h2:=h1.up;rw[List.pairwise_map]at h2;exact h2.imp fun {a b} hab=>by simpa[RI]using hab
structure Gb (room:Nat)(d:Dk)(S:Dr)(h:Nat)(b:BT h):Prop where
 sd:Sd room S
 wl:Wl h b
 sz:bQ h b<=240
 us:∀p∈bj h b,Us S p
 nd:(bj h b).Nodup
 is:pQ S d (mI h b)
 od:bS (cC h b)
 vl:∀x∈dW h b,x.2.size<=40
theorem Gb.rw {K:List (KT h)}{ss:List ByteArray}(G:Gb room d S (h+1) (bN K ss)):Rw room d S h K ss:=⟨G.sd,G.wl.2.2,G.us,G.nd,G.is,G.od,G.vl,by have:4+bV ss<=240:=G.sz;omega,.inl G.wl.1⟩
theorem Gb.sm (hr:room<=16384){b:BT h}(G:Gb room d S h b):cB (aY h b)=true:=by
 cases h with
 |zero=>exact ll b (Nat.le_trans G.sz (by omega))
 |succ h=>
  obtain⟨K,ss,rfl⟩:=gV b;exact G.rw.sm hr
def GG (d:Dk)(key:ByteArray)(es0:List En):Nat->Dr->Nd->Int->Prop
 |0,_,_,_=>True
 |f+1,S,n,depth=>if n.leaf=true then n.es=es0 else((S.read d (n.ks.getD (dD n.ss key) 0) (depth+1)).2=0->GG d key es0 f S (S.read d (n.ks.getD (dD n.ss key) 0) (depth+1)).1 (depth+1))
structure QK (room:Nat)(d:Dk)(c:Nat)(S:Dr)(X:List Int)(F:List It)(E:List En)(n:Nd)(S':Dr)(h:Nat)(t:BT h):Prop where
 n:n=aY h t
 ob:Ob room d S' h t
 fm:Fm room d c S X S' (bj h t)
 oi:OI F (cC h t)
 en:dW h t=E
 ln:(bj h t).length<=X.length+2*h
theorem step_ok (hr:room<=16384)(HJ:∀h,mv room d h){depth z:Int}(hd:depth+1+h<24){f m c:Nat}(C:Ctx room d S h A sA B sB)(hp:P0 S w.1)(us:∀p∈bj h w.2,Us S p)(hnd:(pX w.1++bj h w.2++(aX A++aX B)).Nodup)(hk:∀j,KP (A++w::B) (sA++sB) j)(hsz:bV (sA++sB)<=236)(hsw:cB (aY h w.2)=true)
    {F:List It}{E:List En}{n:Nd}{t:BT h}(R:QK room d c (S.bt z) (bj h w.2) F E n S1 h t)(hod:bS (dE A sA++(F++kG (B.map fun u=>cC h u.2) sB)))(hc:c<=4*h)
    (hf:3*((pX w.1++bj h w.2++(aX A++aX B)).length+2*h+2)+5<=f)(hb:Bd S ((pX w.1++bj h w.2++(aX A++aX B)).length+6*h+6+m)):
    ∃n' e S',ei (bn room d f) room S1 (aY (h+1) (bN (A++w::B) (sA++sB))) (A.length:Int) depth (aY h w.2) n=some ((n',e),S')∧Er room d (c+4) (S.bt z) (pX w.1++bj h w.2++(aX A++aX B)) S' e∧
      (e=0->∃K' ss',QK room d (c+4) (S.bt z) (pX w.1++bj h w.2++(aX A++aX B)) (dE A sA++(F++kG (B.map fun u=>cC h u.2) sB)) (bO A++(E++bO B)) n' S' (h+1) (bN K' ss')∧bV ss'<=bV (sA++sB)+21):=by
  obtain⟨rfl,ob,fm,oi,en,ln⟩:=R;have eX:(bj h w.2++(pX w.1++(aX A++aX B))).Perm (pX w.1++bj h w.2++(aX A++aX B)):=by
    rw[<-List.append_assoc];exact List.Perm.append_right _ List.perm_append_comm
  have eX2:(bj h t++(pX w.1++(aX A++aX B))).Perm (pX w.1++bj h t++(aX A++aX B)):=by
    rw[<-List.append_assoc];exact List.Perm.append_right _ List.perm_append_comm
  have usY:∀p∈pX w.1++(aX A++aX B),Us (S.bt z) p:=fun p hp'=>by
    rcases List.mem_append.1 hp' with h1|h1
    · exact(Az hp p h1).bt z
    · exact(C.us p h1).bt z
  have ndY:=eX.nodup_iff.2 hnd;have Ug:∀p∈pX w.1++(aX A++aX B),p∉bj h w.2:=fun p h1 h2=>(List.nodup_append.1 ndY).2.2 p h2 p h1 rfl;have F1:=(fm.ext usY ndY).perm eX eX2;have C1:Ctx room d S1 h A sA B sB:=⟨C.hA,C.hB,C.wl,fun q hq=>(fm.Ax ((C.us q hq).bt z) (Ug q (List.mem_append_right _ hq))).1,fm.Py (C.is.bt z) (by rw[List.map_append];exact fun q hq=>(C.us q hq).bt z) (by rw[List.map_append];exact fun q hq=>Ug q (List.mem_append_right _ hq)),C.vl⟩;have hp1:P0 S1 w.1:=by
    by_cases h0:w.1=0
    · exact .inl h0
    · have hm:w.1∈pX w.1:=by simp[pX,h0]
      exact .inr (fm.Ax (usY _ (List.mem_append_left _ hm)) (Ug _ (List.mem_append_left _ hm))).1
  have hl1:(pX w.1++bj h t++(aX A++aX B)).length<=(pX w.1++bj h w.2++(aX A++aX B)).length+2*h:=by
    simp only[List.length_append]at*;omega
  obtain⟨n',e,S',q1,q2,q3⟩:=Le (m:=m) hr HJ hd C1 hp1 t ob F1.nd hk (oi _ _ hod) (by omega) hsw (f:=f) (by omega) (F1.bd (hb.bt z) (by omega));refine⟨n',e,S',q1,F1.er q2,fun he=>?_⟩;obtain⟨K',ss',P⟩:=q3 he;refine⟨K',ss',⟨P.n,⟨P.rw,P.kp,by have:=P.sz;show bV ss'<=257;omega⟩,?_,?_,?_,?_⟩,P.sz⟩
  · exact F1.trans P.fm
  · exact(oi.ctx _ _).trans P.oi
  · rw[pR,P.en,en]
  · have:=P.ln;show(aX K').length<=_;omega
theorem gh (hr:room<=16384)(EH:PJ key ed){f:Nat}(l:List En)(depth:Int)(f0:Nat)(sd:Sd room S)(od:bS (cC 0 l))(vl:∀x∈l,x.2.size<=40)(hz:cY l<=240)(hf0:0<f0):
  ∃L es R EL ER,Loc 0 l key L es R EL ER∧GG d key es f0 S (aY 0 l) depth∧∃n ch e S',bu (bn room d f) room d key ed f0 S (aY 0 l) depth=some ((n,ch,e),S')∧Er room d (4*0) (S.bt (depth+(0:Nat))) (bj 0 l) S' e∧(e=0->ch=!decide (ed es=es)∧(ch=false->S'=S.bt (depth+(0:Nat)))∧(ch=true->∃t,QK room d (4*0) (S.bt (depth+(0:Nat))) (bj 0 l) (L++(og (ed es)++R)) (EL++(ed es++ER)) n S' 0 t)):=by
 obtain⟨f0,rfl⟩:∃f',f0=f'+1:=⟨f0-1,by omega⟩;have hrg:Rg l:=bS.leaf od vl;refine⟨[],l,[],[],[],⟨?_,?_,.inl rfl,.inl rfl,(fun _ hc=>by cases hc),(fun _ hc=>by cases hc),(fun _ hc=>by cases hc),(fun _ hc=>by cases hc)⟩,rfl,?_⟩
 ·show og l=[]++(og l++[]);simp
 ·show l=[]++(l++[]);simp
 refine⟨aY 0 (ed l),!decide (ed l=l),0,S.bt depth,?_,fun hc=>absurd rfl hc,fun _=>⟨rfl,fun _=>by simp,fun _=>⟨ed l,rfl,⟨sd.bt _,?_,?_,?_⟩,?_,?_,?_,?_⟩⟩⟩
 ·rw[bu,if_neg (by rw[ll l (Nat.le_trans (show bQ 0 l<=240 from hz) (by omega))];simp)];rfl
 ·have o:bS ([]++(og l++[])):=by rw[List.nil_append,List.append_nil];exact od
  have:=ud (L:=[]) (R:=[]) (es:=l) EH o vl (.inl rfl) (.inl rfl) (fun _ hc=>by cases hc) (fun _ hc=>by cases hc);rw[List.nil_append,List.append_nil]at this;exact this
 ·exact fun x hx=>(aV.1 ((EH.rg l hrg).may x hx)).2.2
 ·have h1:=EH.sz l hrg;have h2:cY l<=240:=hz;omega
 ·simp only[Int.natCast_zero,Int.add_zero];exact Fm.refl (sd.bt _) (fun p hc=>by cases hc) List.nodup_nil
 ·show OI ([]++(og (ed l)++[])) (og (ed l));simp only[List.nil_append,List.append_nil];exact OI.refl _
 ·show ed l=[]++(ed l++[]);simp
 ·show 0<=0+_;omega
theorem uf (hr:room<=16384)(HJ:∀h,mv room d h)(EH:PJ key ed){f m:Nat}:∀(h:Nat) (b:BT h) (depth:Int) (f0:Nat),Gb room d S h b->depth+h<24->h<f0->3*((bj h b).length+2*h+2)+5<=f->Bd S ((bj h b).length+6*h+6+m)->
  ∃L es R EL ER,Loc h b key L es R EL ER∧GG d key es f0 S (aY h b) depth∧∃n ch e S',bu (bn room d f) room d key ed f0 S (aY h b) depth=some ((n,ch,e),S')∧Er room d (4*h) (S.bt (depth+h)) (bj h b) S' e∧(e=0->ch=!decide (ed es=es)∧(ch=false->S'=S.bt (depth+h))∧(ch=true->∃t,QK room d (4*h) (S.bt (depth+h)) (bj h b) (L++(og (ed es)++R)) (EL++(ed es++ER)) n S' h t))
 |0,b,depth,f0,G,hd,hf0,hf,hb=>gh hr EH b depth f0 G.sd G.od G.vl G.sz hf0
 |h+1,b,depth,f0,G,hd,hf0,hf,hb=>by
  obtain⟨f0,rfl⟩:∃f',f0=f'+1:=⟨f0-1,by omega⟩;obtain⟨K,ss,rfl⟩:=gV b;have R0:=G.rw;have hl:ss.length+1=K.length:=G.wl.1;obtain⟨sA,sB,rfl,hch,k1,k2⟩:=yh (key:=key) (lq (by omega) R0.od);obtain⟨A,w,B,rfl,hA⟩:∃A w B,K=A++w::B∧A.length=sA.length:=by
   obtain⟨w,B,r1,_⟩:=ew (l:=K.drop sA.length) (n:=K.length-sA.length-1) (by rw[List.length_drop];simp at hl;omega);exact⟨K.take sA.length,w,B,by rw[<-r1,List.take_append_drop],by rw[List.length_take];simp at hl;omega⟩
  have hB:B.length=sB.length:=by simp at hl;omega
  have hwz:=R0.wl w (by simp);have QJ:∀p∈eU w++(aX A++aX B),Us S p:=fun p hp=>R0.us p (by
   rw[bD,cd]
   simp only[List.mem_append]at hp⊢
   rcases hp with hp|hp|hp
   ·exact .inr (.inl hp)
   ·exact .inl hp
   ·exact .inr (.inr hp))
  have hperm:(eU w++(aX A++aX B)).Perm (aX (A++w::B)):=by
   rw[bD,cd,<-List.append_assoc,<-List.append_assoc];exact List.Perm.append_right _ List.perm_append_comm
  have hw0:w.1≠0:=by
   have:=(QJ w.1 (by simp[eU,rj])).lo;omega
  have QL:pX w.1=[w.1]:=by simp[pX,hw0]
  have eX:pX w.1++bj h w.2++(aX A++aX B)=eU w++(aX A++aX B):=by rw[QL,cO];rfl
  have Uh:(pX w.1++bj h w.2++(aX A++aX B)).Nodup:=by rw[eX];exact hperm.nodup_iff.2 R0.nd
  have PL:(pX w.1++bj h w.2++(aX A++aX B)).length=(bj (h+1) (bN (A++w::B) (sA++sB))).length:=by
   rw[eX];exact hperm.length_eq
  have hlw:(bj h w.2).length<=(bj (h+1) (bN (A++w::B) (sA++sB))).length:=by
   rw[<-PL];simp only[List.length_append];omega
  have Ys:bS (dE A sA++(cC h w.2++kG (B.map fun u=>cC h u.2) sB)):=by rw[<-fG hA];exact R0.od
  have Gw:Gb room d S h w.2:=⟨G.sd,hwz.1,hwz.2,fun p hp=>QJ p (by simp[cO,hp]),by
    have:=(List.nodup_append.1 (List.nodup_append.1 Uh).1).2.1
    exact this,fun x hx=>R0.is x (by rw[dP,eR];simp[rj,hx]),Ys.sub (List.Sublist.trans (List.sublist_append_left _ _) (List.sublist_append_right _ _)),fun x hx=>R0.vl x (by rw[cL,cG];simp[hx])⟩
  obtain⟨L,es,R,EL,ER,loc,lfp,n,ch,e,S1,t1,t2,t3⟩:=uf hr HJ EH (f:=f) (m:=m) h w.2 (depth+1) f0 Gw (by omega) (by omega) (by omega) (hb.mono (by omega));have loc':=Loc.up loc hA hB R0.od k1 k2;have hgd:(aY (h+1) (bN (A++w::B) (sA++sB))).ks.getD (dD (aY (h+1) (bN (A++w::B) (sA++sB))).ss key) 0=w.1:=by
   rw[bZ];simp only[hch];rw[<-hA];simp[List.getD_eq_getElem?_getD]
  have hci:((dD (aY (h+1) (bN (A++w::B) (sA++sB))).ss key:Nat):Int)=(A.length:Int):=by
   rw[bZ];simp only[hch];omega
  have hrd:S.read d w.1 (depth+1)=(aY h w.2,0):=kI R0.is (by simp) (by omega);refine⟨_,es,_,_,_,loc',?_,?_⟩
  ·rw[GG,if_neg (by rw[bZ];simp),hgd,hrd];exact fun _=>lfp
  rw[bu,if_neg (by rw[G.sm hr];simp),if_neg (by rw[bZ];simp),if_neg (by
   rw[bZ]
   simp only[hch,List.length_map,List.length_append,List.length_cons]
   omega),hgd,hrd,if_neg (by simp)]
  simp only[t1];have hde:depth+1+(h:Int)=depth+((h+1:Nat):Int):=by omega
  by_cases he:e=0
  ·subst he;obtain⟨c1,c2,c3⟩:=t3 rfl;cases ch with
   |false=>
    rw[if_pos (by simp)];exact⟨_,_,_,_,rfl,fun hc=>absurd rfl hc,fun _=>⟨c1,fun _=>by rw[c2 rfl,hde],fun hc=>by cases hc⟩⟩
   |true=>
    rw[if_neg (by simp),hci];obtain⟨t,CR⟩:=c3 rfl;have od1:bS (dE A sA++((L++(og (ed es)++R))++kG (B.map fun u=>cC h u.2) sB)):=by
     have:=ud EH (by have:=Ys;rw[loc.fl]at this;simpa using this) (fun x hx=>Gw.vl x (by rw[loc.en];simp[hx])) loc'.l1 loc'.r1 loc'.l2 loc'.r2;simpa using this
    obtain⟨n',e',S',p1,p2,p3⟩:=step_ok (m:=m) hr HJ (depth:=depth) (z:=depth+1+h) (by omega) ⟨hA,hB,fun u hu=>R0.wl u (by simp only[List.mem_append]at hu;rcases hu with hu|hu<;>simp[hu]),fun q hq=>QJ q (List.mem_append_right _ hq),fun x hx=>R0.is x (by
      rw[dP,eR]
      simp only[List.mem_append]at hx⊢
      rcases hx with hx|hx
      ·exact .inl hx
      ·exact .inr (.inr hx)),fun x hx=>R0.vl x (by
      rw[cL,cG]
      simp only[List.mem_append]at hx⊢
      rcases hx with hx|hx
      ·exact .inl hx
      ·exact .inr (.inr hx))⟩ (.inr (QJ w.1 (by simp[cO]))) Gw.us Uh G.wl.2.1 (by have:4+bV (sA++sB)<=240:=G.sz;omega) (Gw.sm hr) CR od1 (by omega) (f:=f) (by rw[PL];omega) (hb.mono (by rw[PL];omega))
    rw[p1];refine⟨_,_,_,_,rfl,by rw[<-hde];exact(p2.perm (by rw[eX];exact hperm)).mono (by omega),fun he'=>⟨c1,(fun hc=>by cases hc),fun _=>?_⟩⟩;obtain⟨K',ss',P,_⟩:=p3 he';refine⟨bN K' ss',P.n,P.ob,?_,?_,?_,?_⟩
    ·have:=P.fm;rw[hde]at this;exact(this.perm (by rw[eX];exact hperm) (List.Perm.refl _)).mono (by omega)
    ·have:=P.oi;simpa using this
    ·rw[P.en];simp
    ·have:=P.ln;rw[PL]at this;exact this
  ·rw[if_pos (.inl he)];refine⟨_,_,_,_,rfl,?_,fun h0=>absurd h0 he⟩;have qW:(bj h w.2++(pX w.1++(aX A++aX B))).Perm (pX w.1++bj h w.2++(aX A++aX B)):=by
    rw[<-List.append_assoc];exact List.Perm.append_right _ List.perm_append_comm
   rw[<-hde];refine((t2.ext (Y:=pX w.1++(aX A++aX B)) (fun q hq=>?_) (qW.nodup_iff.2 Uh)).perm (qW.trans (by rw[eX];exact hperm))).mono (by omega);exact(QJ q (by rw[<-eX];exact qW.mem_iff.1 (List.mem_append_right _ hq))).bt _
end
end P
namespace P
open N
section
variable {room:Nat}{d:Dk}{S S1 S2:Dr}{h:Nat}{key:ByteArray}{ed:List En->List En}
structure Gt (room:Nat)(d:Dk)(S:Dr)(h:Nat)(u:KT h):Prop where
 g:Gb room d S h u.2
 us:Us S u.1
 ni:u.1∉bj h u.2
 rd:S.vw d u.1=(aY h u.2,0)
theorem Gt.PM {u:KT h}(G:Gt room d S h u):(∀p∈eU u,Us S p)∧(eU u).Nodup∧pQ S d (rj u):=by
 refine⟨fun p hp=>?_,?_,fun x hx=>?_⟩
 ·rcases List.mem_cons.1 hp with rfl|hp
  ·exact G.us
  ·exact G.g.us p hp
 ·exact List.nodup_cons.2 ⟨G.ni,G.g.nd⟩
 ·rcases List.mem_cons.1 hx with rfl|hx
  ·exact G.rd
  ·exact G.g.is x hx
theorem Gt.of {u:KT h}(sd:Sd room S)(wl:Wl h u.2)(sz:bQ h u.2<=240)(us:∀p∈eU u,Us S p)(nd:(eU u).Nodup)(is:pQ S d (rj u))(od:bS (cC h u.2))(vl:∀x∈dW h u.2,x.2.size<=40):Gt room d S h u:=
 ⟨⟨sd,wl,sz,fun p hp=>us p (List.mem_cons_of_mem _ hp),(List.nodup_cons.1 nd).2,fun x hx=>is x (List.mem_cons_of_mem _ hx),od,vl⟩,us _ (List.mem_cons_self ..),(List.nodup_cons.1 nd).1,is _ (List.mem_cons_self ..)⟩
theorem vY (u:KT h)(ss:List ByteArray)(j:Nat):KP [u] ss j:=by
 rw[o8];refine⟨fun a b k h1 h2=>?_,fun i a b k e1 e2 h1 h2=>?_⟩
 ·rw[List.getElem?_eq_none (by simp)]at h2;cases h2
 ·simp at e2;omega
def W5:(h:Nat)->BT h->Prop
 |0,_=>True
 |h+1,t=>t.1.length≠1
theorem po:∀(h:Nat) (u:KT h) (S:Dr) (f:Nat) (depth:Int) (m:Nat),Gt room d S h u->S.bot=depth+h->0<=depth->depth+h<24->h<f->Bd S ((eU u).length+m)->
  ∃h' u' S',dM d f S u.1 depth=some ((u'.1,0),S')∧Gt room d S' h' u'∧W5 h' u'.2∧Fm room d 0 S (eU u) S' (eU u')∧dW h' u'.2=dW h u.2∧h'<=h
 |0,u,S,f,depth,m,G,PN,h0,hd,hf,hb=>by
  obtain⟨f,rfl⟩:∃f',f=f'+1:=⟨f-1,by omega⟩;have hr:S.read d u.1 depth=(aY 0 u.2,0):=by rw[S.jL d _ _ (by omega)];exact G.rd
  refine⟨0,u,S,?_,G,trivial,Fm.refl G.g.sd G.PM.1 G.PM.2.1,rfl,Nat.le_refl _⟩;rw[dM,if_neg (by rw[hb.ok];simp),hr,if_neg (by simp),if_neg (by simp[aY]),if_neg (by omega)]
 |h+1,u,S,f,depth,m,G,PN,h0,hd,hf,hb=>by
  obtain⟨f,rfl⟩:∃f',f=f'+1:=⟨f-1,by omega⟩;have hr:S.read d u.1 depth=(aY (h+1) u.2,0):=by rw[S.jL d _ _ (by omega)];exact G.rd
  by_cases h1:u.2.1.length=1
  ·obtain⟨p,b⟩:=u;obtain⟨K,ss,rfl⟩:=gV b;have h1:K.length=1:=h1;obtain⟨v,rfl⟩:=tV h1;have hss:ss=[]:=by have:=G.g.wl.1;simpa[bN]using this
   subst hss;have R:=G.g.rw;have hD:Fm room d 0 S [p] (S.drop p) []:=ru G.g.sd G.us;have eP:aX [v]=eU v:=by simp[aX,iz]
   have eC:iz [v]=rj v:=by simp[iz]
   have ePK:eU (p,bN [v] [])=[p]++eU v:=by
    rw[<-eP];rfl
   have usv:∀q∈eU v,Us S q:=by rw[<-eP];exact R.us
   have nv:p∉eU v:=by rw[<-eP];exact G.ni
   have E:=hD.ext (Y:=eU v) usv (by
    rw[List.singleton_append]
    exact List.nodup_cons.2 ⟨nv,by rw[<-eP];exact R.nd⟩)
   rw[List.nil_append]at E;have hwv:=R.wl v (by simp);have eF:dE [v] []=cC h v.2:=by simp[dE,jg]
   have Gv:Gt room d (S.drop p) h v:=Gt.of E.ok hwv.1 hwv.2 E.us E.nd (hD.Py (by rw[<-eC];exact R.is) usv (fun q hq hc=>nv (by rw[List.mem_singleton.1 hc]at hq;exact hq))) (by rw[<-eF];exact R.od) (fun x hx=>R.vl x (by simpa[bO]using hx));have hbv:Bd (S.drop p) ((eU v).length+m):=by
    refine E.bd hb ?_;rw[ePK];simp only[List.length_append,List.length_cons,List.length_nil];omega
   obtain⟨h',u',S',q1,q2,q3,q4,q5,q6⟩:=po h v (S.drop p) f (depth+1) m Gv (by rw[E.bot,PN];omega) (by omega) (by omega) (by omega) hbv;refine⟨h',u',S',?_,q2,q3,?_,?_,by omega⟩
   ·rw[dM,if_neg (by rw[hb.ok];simp),hr,if_neg (by simp),if_pos (by rw[bZ];simp)];rw[bZ];exact q1
   ·rw[ePK];exact E.trans q4
   ·rw[q5];show _=bO [v];simp[bO]
  ·refine⟨h+1,u,S,?_,G,h1,Fm.refl G.g.sd G.PM.1 G.PM.2.1,rfl,Nat.le_refl _⟩;rw[dM,if_neg (by rw[hb.ok];simp),hr,if_neg (by simp),if_neg (by
    obtain⟨p,b⟩:=u
    obtain⟨K,ss,rfl⟩:=gV b
    rw[bZ]
    have h1:¬K.length=1:=h1
    simpa using h1),if_neg (by omega)]
theorem GI (hr:room<=16384)(t:BT h)(ho:Ob room d S h t)(wt:Wl h t)(fi:cF (aY h t)=true)(hne:(aY h t).es≠[]∨(aY h t).ks≠[])(sm:cB (aY h t)=true)(od:bS (cC h t)){f m:Nat}(hf:3<=f)(hb:Bd S ((bj h t).length+6+m)):
  ∃n e S',ei (bn room d f) room S ⟨false,[],[0],[]⟩ 0 (-1) nd0 (aY h t)=some ((n,e),S')∧Er room d 0 S (bj h t) S' e∧
   (e=0->∃q,n=aY (h+1) (bN [(q,t)] [])∧Gt room d S' h (q,t)∧Fm room d 2 S (bj h t) S' (eU (q,t))):=by
 obtain⟨sd,us,nd,is,vl⟩:=ho.facts;have hfi:=fi;unfold cF at hfi;rw[Bool.and_eq_true,decide_eq_true_eq]at hfi;have zt:bQ h t<=240:=hfi.2;have hfit:bY (bn room d f) S (aY h t) (-1+1)=some (([aY h t],[],0),S):=by
  unfold bY;rw[if_neg (fun hc=>by rcases hne with e|e;exact e hc.1;exact e hc.2),if_neg (by rw[sm];simp),if_neg (by rw[hfi.1];simp),if_pos fi]
 have hs0:cB nd0=true:=by decide
 have hs1:cB (⟨false,[],[0],[]⟩:Nd)=true:=by decide
 obtain⟨q,e2,S2,k1,k2,k3⟩:=ye (d:=d) (p:=0) sd (.inl rfl) fi hb;unfold ei;rw[if_neg (by rw[hb.ok,hs0,hs1];simp),hfit];simp only;rw[if_neg (by simp),if_neg (by simp)];have hg:([(0:Int)]:List Int).getD (0:Int).toNat 0=0:=rfl;rw[hg];simp only[eQ,k1];by_cases he:e2=0
 ·subst he;obtain⟨F,hv⟩:=k3 rfl;rw[if_neg (by simp)];simp only;have esw:gG ⟨false,[],[0],[]⟩ 0 (0+1) ([]++[q]) []=aY (h+1) (bN [(q,t)] []):=by
   rw[bZ];simp[gG,swB,iJ,vB,vC]
  have hw:P0 S ((0,t):KT h).1:=.inl rfl;have e0:pX ((0,t):KT h).1=[]:=by simp[pX]
  have e0':pX (0:Int)=[]:=by simp[pX]
  obtain⟨R,E⟩:=vV (w:=((0,t):KT h)) (A:=[]) (B:=[]) (sA:=[]) (sB:=[]) ⟨rfl,rfl,(fun _ hc=>by cases hc),(fun _ hc=>by cases hc),(fun _ hc=>by cases hc),(fun _ hc=>by cases hc)⟩ hw t ho (by rw[e0];simpa[aX,iz]using nd) (by
   show bS ([]++(cC h t++[]))
   rw[List.nil_append,List.append_nil];exact od) (by simp[bV]) wt zt F hv
  have E':Fm room d 2 S (bj h t) S2 (eU (q,t)):=by
   have e1:aX ([]++([(q,t)]++[]))=eU (q,t):=by simp[aX,iz]
   have e2:pX ((0,t):KT h).1++bj h t++(aX ([]:List (KT h))++aX ([]:List (KT h)))=bj h t:=by rw[e0];simp[aX,iz]
   rw[e1,e2]at E;exact E
  have R':Rw room d S2 h [(q,t)] []:=R;have hst:∀(a b:Int),b<=2->0<=max a 0->max a 0<=2->bn room d f S2 (aY (h+1) (bN [(q,t)] [])) (-1) a b=some ((aY (h+1) (bN [(q,t)] []),0),S2):=fun a b hb' h1 h2=>by
   unfold bn;obtain⟨i,hi⟩:∃i:Nat,max a 0=(i:Int):=⟨(max a 0).toNat,by omega⟩;rw[hi];exact iE hr R' (vY _ _) (by omega) f i b (by omega)
  have G:Gt room d S2 h (q,t):=Gt.of R'.sd wt zt (fun p hp=>R'.us p (by simpa[aX,iz]using hp)) (by have:=R'.nd;simpa[aX,iz]using this) (fun x hx=>R'.is x (by simpa[iz]using hx)) od vl;rw[esw,if_neg (by simp)];split
  ·rw[hst _ _ (by simp) (by omega) (by omega)];exact⟨_,0,_,rfl,fun hc=>absurd rfl hc,fun _=>⟨q,rfl,G,E'⟩⟩
  ·rw[hst _ _ (by simp) (by omega) (by omega)];exact⟨_,0,_,rfl,fun hc=>absurd rfl hc,fun _=>⟨q,rfl,G,E'⟩⟩
 ·rw[if_pos he];simp only;rw[if_pos he];have e0:pX (0:Int)=[]:=by simp[pX]
  rw[e0]at k2;exact⟨_,_,_,rfl,(k2.ext (X:=[]) us nd).mono (by omega),fun h0=>absurd h0 he⟩
end
end P
namespace P
open N
section
variable {room:Nat}{d:Dk}{S S1 S2:Dr}{key:ByteArray}{ed:List En->List En}
def TS (room:Nat)(d:Dk)(S:Dr)(root:Int)(E:List En)(X:List Int)(H:Nat):Prop:=
 (root=0∧E=[]∧X=[]∧Sd room S∧H=0)∨∃h,∃u:KT h,u.1=root∧Gt room d S h u∧W5 h u.2∧dW h u.2=E∧X=eU u∧h=H
structure Ui (key:ByteArray)(ed:List En->List En)(E E' EL es ER:List En):Prop where
 was:E=EL++(es++ER)
 is:E'=EL++(ed es++ER)
 lo:∀x∈EL,bB x.1 key=true
 hi:∀x∈ER,bB key x.1=true
theorem Fm.bt {c:Nat}{S S':Dr}{X X':List Int}(F:Fm room d c S X S' X')(z:Int):Fm room d c (S.bt z) X (S'.bt z) X':=
 ⟨F.ok.bt z,fun p hp=>(F.us p hp).bt z,F.nd,fun p hp hn=>by
  obtain⟨a1,a2,a3,a4⟩:=F.keep p ⟨hp.lo,hp.hi,hp.fr,hp.sp⟩ hn
  exact⟨a1.bt z,a2,a3,a4⟩,F.tight,F.cnt,F.nY,F.Cw,F.EA,rfl,F.cap,F.mine⟩
theorem Rw.bt {h:Nat}{K:List (KT h)}{ss:List ByteArray}(R:Rw room d S h K ss)(z:Int):Rw room d (S.bt z) h K ss:=⟨R.sd.bt z,R.wl,fun p hp=>(R.us p hp).bt z,R.nd,R.is,R.od,R.vl,R.sz,R.ln⟩
theorem Uj (hr:room<=16384)(HJ:∀h,mv room d h)(EH:PJ key ed){f m h:Nat}(w:KT h)(hp:P0 S w.1)(sd:Sd room S)(us:∀p∈bj h w.2,Us S p)(nd:(pX w.1++bj h w.2).Nodup)(sm:cB (aY h w.2)=true)(rd:S.read d w.1 0=(aY h w.2,0))(od:bS (cC h w.2))(vl:∀x∈dW h w.2,x.2.size<=40)(hh:h<24)
  (hf:3*((pX w.1++bj h w.2).length+2*h+2)+5<=f)(hb:Bd S ((pX w.1++bj h w.2).length+6*h+6+m))
  {L R:List It}{es EL ER:List En}(loc:Loc h w.2 key L es R EL ER)(lfp:GG d key es 29 S (aY h w.2) 0){n:Nd}{ch:Bool}{e:Int}(t1:bu (bn room d f) room d key ed 29 S (aY h w.2) 0=some ((n,ch,e),S1))(t2:Er room d (4*h) (S.bt (0+h)) (bj h w.2) S1 e)
  (t3:e=0->ch=!decide (ed es=es)∧(ch=false->S1=S.bt (0+h))∧(ch=true->∃t,QK room d (4*h) (S.bt (0+h)) (bj h w.2) (L++(og (ed es)++R)) (EL++(ed es++ER)) n S1 h t)):
  GG d key es 30 S ⟨false,[],[w.1],[]⟩ (-1)∧∃n' ch' e' S',bu (bn room d f) room d key ed 30 S ⟨false,[],[w.1],[]⟩ (-1)=some ((n',ch',e'),S')∧Er room d (4*h+4) (S.bt h) (pX w.1++bj h w.2) S' e'∧
   (e'=0->(ch'=false->ed es=es∧S'=S.bt h)∧(ch'=true->∃K' ss',QK room d (4*h+4) (S.bt h) (pX w.1++bj h w.2) (L++(og (ed es)++R)) (EL++(ed es++ER)) n' S' (h+1) (bN K' ss')∧bV ss'<=21)):=by
 have hgd:([w.1]:List Int).getD (dD [] key) 0=w.1:=rfl;have h01:(-1:Int)+1=0:=by omega
 have hsm:cB (⟨false,[],[w.1],[]⟩:Nd)=true:=CI hr sd [w] [] (by simp) (by simp[bV]) (fun u hu=>by rw[List.mem_singleton.1 hu];exact hp);have hz:(0:Int)+(h:Int)=(h:Int):=by omega
 refine⟨?_,?_⟩
 ·rw[GG,if_neg (by simp)];simp only[hgd,h01,rd];exact fun _=>lfp
 ·rw[bu,if_neg (by rw[hsm];simp),if_neg (by simp),if_neg (by simp[dD])];simp only[hgd,h01,rd,t1];rw[if_neg (by simp)];by_cases he:e=0
  ·subst he;obtain⟨c1,c2,c3⟩:=t3 rfl;cases ch with
   |false=>
    rw[if_pos (by simp)];refine⟨_,_,_,_,rfl,fun hc=>absurd rfl hc,fun _=>⟨fun _=>⟨?_,by rw[c2 rfl,hz]⟩,fun hc=>by cases hc⟩⟩;simpa using c1.symm
   |true=>
    rw[if_neg (by simp)];obtain⟨t,CR⟩:=c3 rfl;rw[hz]at CR;have eX:pX w.1++bj h w.2++(aX ([]:List (KT h))++aX ([]:List (KT h)))=pX w.1++bj h w.2:=by simp[aX,iz]
    have od1:bS (L++(og (ed es)++R)):=ud EH (by rw[<-loc.fl];exact od) (fun x hx=>vl x (by rw[loc.en];simp[hx])) loc.l1 loc.r1 loc.l2 loc.r2;obtain⟨n',e',S',p1,p2,p3⟩:=step_ok (m:=m) (A:=[]) (B:=[]) (sA:=[]) (sB:=[]) (w:=w) (S:=S) (z:=h) hr HJ (depth:=-1) (by omega) ⟨rfl,rfl,(fun _ hc=>by cases hc),(fun _ hc=>by cases hc),(fun _ hc=>by cases hc),(fun _ hc=>by cases hc)⟩ hp us (by rw[eX];exact nd) (vY _ _) (by simp[bV]) sm CR (by
     show bS ([]++((L++(og (ed es)++R))++[]))
     rw[List.nil_append,List.append_nil];exact od1) (by omega) (f:=f) (by rw[eX];exact hf) (by rw[eX];exact hb)
    have p1':ei (bn room d f) room S1 ⟨false,[],[w.1],[]⟩ ((dD [] key:Nat):Int) (-1) (aY h w.2) n=some ((n',e'),S'):=p1;rw[p1'];refine⟨_,_,_,_,rfl,by rw[eX]at p2;exact p2,fun he'=>⟨fun hc=>(by cases hc),fun _=>?_⟩⟩;obtain⟨K',ss',P,hz'⟩:=p3 he';refine⟨K',ss',⟨P.n,P.ob,?_,?_,?_,?_⟩,by simpa[bV]using hz'⟩
    ·have:=P.fm
     rwa [eX]at this
    ·have:OI ([]++((L++(og (ed es)++R))++[])) _:=P.oi;rw[List.nil_append,List.append_nil]at this;exact this
    ·rw[P.en];simp[bO]
    ·have:=P.ln
     rwa [eX]at this
  ·rw[if_pos (.inl he)];rw[hz]at t2;have qT:(bj h w.2++pX w.1).Perm (pX w.1++bj h w.2):=List.perm_append_comm;exact⟨_,_,_,_,rfl,((t2.ext (Y:=pX w.1) (fun q hq=>(Az hp q hq).bt _) (qT.nodup_iff.2 nd)).perm qT).mono (by omega),fun h0=>absurd h0 he⟩
theorem Lh (hr:room<=16384){f m h:Nat}{n:Nd}{X:List Int}{F:List It}{E:List En}{K:List (KT h)}{ss:List ByteArray}(P:QK room d (4*h+4) (S.bt h) X F E n S1 (h+1) (bN K ss))(hz:bV ss<=21)(hh:h+1<24)(hf:3<=f)(hb:Bd S (X.length+8*h+30+m)):
  ∃n2 e2 S2,kv (bn room d f) room 10 S1 n=some ((n2,e2),S2)∧(∃z:Int,Er room d (4*h+4) (S.bt z) X S2 e2)∧(e2=0->∃r S3,(if n2.ks.length=0 then some ((0,0),S2)else if S2.bot< -1000∨1000<S2.bot∨cB n2=false then none else dM d 24 S2 (n2.ks.getD 0 0) 0)=some ((r,0),S3)∧∃z X' H,TS room d S3 r E X' H∧Fm room d (4*h+6) (S.bt z) X S3 X'∧H<=h+1):=by
 obtain⟨rfl,⟨R0,kp0,hz'⟩,fm0,oi,en0,ln0⟩:=P;have R:Rw room d S1 h K ss:=R0;have kp:∀j,KP K ss j:=kp0;have fm:Fm room d (4*h+4) (S.bt h) X S1 (aX K):=fm0;have ln:(aX K).length<=X.length+2*(h+1):=ln0;have en:bO K=E:=en0;clear R0 kp0 fm0 ln0 en0 hz';have PN:S1.bot=h:=fm.bot;have hb1:Bd S1 ((aX K).length+6+m+4):=fm.bd (hb.bt h) (by omega);have hlen:(aY (h+1) (bN K ss)).ks.length=K.length:=by rw[bZ];simp
 have ek:∀v:KT h,aX [v]=eU v:=fun v=>by simp[aX,iz]
 have ec:∀v:KT h,iz [v]=rj v:=fun v=>by simp[iz]
 rw[kv,if_neg (by rw[R.sm hr];simp),hlen];by_cases h1:1<K.length
 ·have hl:ss.length+1=K.length:=by
   rcases R.ln with e| ⟨e,_⟩
   ·exact e
   ·rw[e]at h1;simp at h1
  rw[if_pos h1,if_neg (by omega)];have hrt:=ji hr R.sd K ss hl R.us R.od;have hfi:cF (aY (h+1) (bN K ss))=true:=by
   unfold cF;rw[hrt,Bool.true_and];exact decide_eq_true (show 4+bV ss<=240 by omega)
  have wt:Wl (h+1) (bN K ss):=by rw[tX];exact⟨hl,kp,R.wl⟩
  obtain⟨n2,e2,S2,q1,q2,q3⟩:=GI (S:=S1.bt (S1.bot+1)) (d:=d) (room:=room) hr (bN K ss) ⟨R.bt _,kp,by show bV ss<=257;omega⟩ wt hfi (.inr (by rw[bZ];intro hc;simp at hc;rw[hc]at h1;simp at h1)) (R.sm hr) R.od (f:=f) (m:=m) hf ((hb1.bt _).mono (by show(aX K).length+6+m<=_;omega));have q1':ei (bn room d f) room ⟨S1.x,S1.nodes,S1.cnt,S1.taken,S1.spare,S1.bot+1⟩ ⟨false,[],[0],[]⟩ 0 (-1) nd0 (aY (h+1) (bN K ss))=some ((n2,e2),S2):=q1;rw[q1'];simp only;by_cases he:e2=0
  ·subst he;obtain⟨q,rfl,G,F2⟩:=q3 rfl;rw[if_neg (by simp)];have F2:Fm room d 2 (S1.bt (S1.bot+1)) (aX K) S2 (eU (q,bN K ss)):=F2;have hb2:S2.bot=(h:Int)+1:=by rw[F2.bot];show S1.bot+1=_;omega
   have hB2:Bd S2 ((eU (q,bN K ss)).length+m):=F2.bd (hb1.bt _) (by omega);have W6:cB (aY (h+1+1) (bN [(q,bN K ss)] []))=true:=CI hr G.g.sd [(q,bN K ss)] [] (by simp) (by simp[bV]) (fun u hu=>by rw[List.mem_singleton.1 hu];exact .inr G.us);have hl2:(aY (h+1+1) (bN [(q,bN K ss)] [])).ks.length=1:=rfl;rw[kv,if_neg (by rw[W6];simp),hl2,if_neg (by omega)];refine⟨_,0,S2,rfl,⟨0,fun hc=>absurd rfl hc⟩,fun _=>?_⟩;rw[hl2,if_neg (by omega),if_neg (by rw[W6];simp;omega)];obtain⟨h',u',S',l1,l2,l3,l4,l5,l6⟩:=po (h+1) (q,bN K ss) S2 24 0 m G (by rw[hb2];omega) (by omega) (by omega) (by omega) hB2;refine⟨u'.1,S',l1,S1.bot+1,eU u',h',.inr ⟨h',u',rfl,l2,l3,?_,rfl,rfl⟩,?_,by omega⟩
   ·rw[l5];exact en
   ·exact(((fm.bt (S1.bot+1)).trans F2).trans l4).mono (by omega)
  ·rw[if_pos he];exact⟨_,_,_,rfl,⟨S1.bot+1,((fm.bt (S1.bot+1)).er q2).mono (by omega)⟩,fun h0=>absurd h0 he⟩
 ·rw[if_neg h1];refine⟨_,0,S1,rfl,⟨0,fun hc=>absurd rfl hc⟩,fun _=>?_⟩;rw[hlen];by_cases h0:K.length=0
  ·have hK:K=[]:=List.length_eq_zero_iff.1 h0;subst hK;rw[if_pos h0];refine⟨0,S1,rfl,h,[],0,.inl ⟨rfl,?_,rfl,R.sd,rfl⟩,fm.mono (by omega),by omega⟩;rw[<-en];rfl
  ·obtain⟨v,rfl⟩:=tV (l:=K) (by omega);have hwv:=R.wl v (by simp);have hss:ss=[]:=by
    rcases R.ln with e| ⟨e,_⟩
    ·exact List.length_eq_zero_iff.1 (by simpa using e)
    ·cases e
   subst hss;have eF:dE [v] []=cC h v.2:=by simp[dE,jg]
   have G:Gt room d S1 h v:=Gt.of R.sd hwv.1 hwv.2 (by rw[<-ek];exact R.us) (by rw[<-ek];exact R.nd) (by rw[<-ec];exact R.is) (by rw[<-eF];exact R.od) (fun x hx=>R.vl x (by simpa[bO]using hx));rw[if_neg (by simp),if_neg (by rw[R.sm hr];simp;omega)];obtain⟨h',u',S',l1,l2,l3,l4,l5,l6⟩:=po h v S1 24 0 m G (by rw[PN];omega) (by omega) (by omega) (by omega) (hb1.mono (by rw[<-ek];omega));refine⟨u'.1,S',l1,h,eU u',h',.inr ⟨h',u',rfl,l2,l3,?_,rfl,rfl⟩,?_,by omega⟩
   ·have e1:bO [v]=dW h v.2:=by simp[bO]
    rw[l5,<-e1];exact en
   ·have fm':Fm room d (4*h+4) (S.bt h) X S1 (eU v):=by rw[<-ek];exact fm
    exact(fm'.trans l4).mono (by omega)
end
end P
namespace P
open N
section
variable {room:Nat}{d:Dk}{S S1 S2:Dr}{key:ByteArray}{ed:List En->List En}
theorem Gt.bt {h:Nat}{u:KT h}(G:Gt room d S h u)(z:Int):Gt room d (S.bt z) h u:=⟨⟨G.g.sd.bt z,G.g.wl,G.g.sz,fun p hp=>(G.g.us p hp).bt z,G.g.nd,G.g.is,G.g.od,G.g.vl⟩,G.us.bt z,G.ni,G.rd⟩
theorem TS.bt {root:Int}{E:List En}{X:List Int}{H:Nat}(T:TS room d S root E X H)(z:Int):TS room d (S.bt z) root E X H:=by
 rcases T with⟨a,b,c,e,f⟩| ⟨h,u,a,b,c⟩
 ·exact .inl ⟨a,b,c,e.bt z,f⟩
 ·exact .inr ⟨h,u,a,b.bt z,c⟩
theorem TS.fm {root:Int}{E:List En}{X:List Int}{H:Nat}(T:TS room d S root E X H):Fm room d 0 S X S X:=by
 rcases T with⟨a,b,rfl,e,f⟩| ⟨h,u,a,b,c,g,rfl,i⟩
 ·exact Fm.refl e (fun _ hc=>by cases hc) List.nodup_nil
 ·exact Fm.refl b.g.sd b.PM.1 b.PM.2.1
theorem AA (hr:room<=16384)(HJ:∀h,mv room d h)(EH:PJ key ed){f m h:Nat}(w:KT h)(hp:P0 S w.1)(sd:Sd room S)(us:∀p∈bj h w.2,Us S p)(nd:(pX w.1++bj h w.2).Nodup)(sm:cB (aY h w.2)=true)(rd:S.read d w.1 0=(aY h w.2,0))(od:bS (cC h w.2))(vl:∀x∈dW h w.2,x.2.size<=40)(hh:h+1<24)
  (hf:3*((pX w.1++bj h w.2).length+2*h+2)+5<=f)(hb:Bd S ((pX w.1++bj h w.2).length+8*h+30+m))(T:TS room d S w.1 (dW h w.2) (pX w.1++bj h w.2) h)
  {L R:List It}{es EL ER:List En}(loc:Loc h w.2 key L es R EL ER)(lfp:GG d key es 29 S (aY h w.2) 0){n:Nd}{ch:Bool}{e:Int}(t1:bu (bn room d f) room d key ed 29 S (aY h w.2) 0=some ((n,ch,e),S1))(t2:Er room d (4*h) (S.bt (0+h)) (bj h w.2) S1 e)
  (t3:e=0->ch=!decide (ed es=es)∧(ch=false->S1=S.bt (0+h))∧(ch=true->∃t,QK room d (4*h) (S.bt (0+h)) (bj h w.2) (L++(og (ed es)++R)) (EL++(ed es++ER)) n S1 h t)):
  GG d key es 30 S ⟨false,[],[w.1],[]⟩ (-1)∧∃r e S',kA (bn room d f) room d key ed w.1 S=some ((r,e),S')∧(∃z:Int,Er room d (4*h+4) (S.bt z) (pX w.1++bj h w.2) S' e)∧(e=0->∃z X' H' E',TS room d S' r E' X' H'∧Fm room d (4*h+6) (S.bt z) (pX w.1++bj h w.2) S' X'∧H'<=h+1∧Ui key ed (dW h w.2) E' EL es ER):=by
 have hlo:=loc.lo od;obtain⟨lf,n',ch',e',S',c1,c2,c3⟩:=Uj (m:=m) hr HJ EH w hp sd us nd sm rd od vl (by omega) hf (hb.mono (by omega)) loc lfp t1 t2 t3;refine⟨lf,?_⟩;unfold kA;rw[c1];simp only;by_cases he:e'=0
 ·subst he;obtain⟨k1,k2⟩:=c3 rfl;cases ch' with
  |false=>
   obtain⟨r1,r2⟩:=k1 rfl;rw[if_pos (by simp),r2];exact⟨_,0,_,rfl,⟨0,fun hc=>absurd rfl hc⟩,fun _=>⟨h,_,h,_,T.bt h,(T.fm.bt h).mono (by omega),by omega,loc.en,by rw[r1];exact loc.en,hlo.1,hlo.2⟩⟩
  |true=>
   obtain⟨K',ss',P,hz⟩:=k2 rfl;rw[if_neg (by simp)];obtain⟨n2,e2,S2,g1,g2,g3⟩:=Lh (m:=m) (f:=f) hr P hz hh (by omega) hb;rw[g1];simp only;by_cases he2:e2=0
   ·subst he2;rw[if_neg (by simp)];obtain⟨r,S3,q1,z,X',H',q2,q3,q4⟩:=g3 rfl;rw[q1];exact⟨r,0,S3,rfl,⟨0,fun hc=>absurd rfl hc⟩,fun _=>⟨z,X',H',_,q2,q3,q4,loc.en,rfl,hlo.1,hlo.2⟩⟩
   ·rw[if_pos he2];exact⟨_,_,_,rfl,g2,fun h0=>absurd h0 he2⟩
 ·rw[if_pos (.inl he)];exact⟨_,_,_,rfl,⟨h,c2.mono (by omega)⟩,fun h0=>absurd h0 he⟩
theorem PO (hr:room<=16384)(HJ:∀h,mv room d h)(EH:PJ key ed){f m H:Nat}{root:Int}{E:List En}{X:List Int}(hn0:S.nodes 0=none)(T:TS room d S root E X H)(hH:H+1<24)(hf:3*(X.length+2*H+2)+5<=f)(hb:Bd S (X.length+8*H+30+m)):
  ∃es r e S',GG d key es 30 S ⟨false,[],[root],[]⟩ (-1)∧kA (bn room d f) room d key ed root S=some ((r,e),S')∧(∃z:Int,Er room d (4*H+4) (S.bt z) X S' e)∧(e=0->∃z X' H' E' EL ER,TS room d S' r E' X' H'∧Fm room d (4*H+6) (S.bt z) X S' X'∧H'<=H+1∧Ui key ed E E' EL es ER)∧(∃EL ER,E=EL++(es++ER)∧(∀x∈EL,bB x.1 key=true)∧∀x∈ER,bB key x.1=true):=by
 have T0:=T;rcases T with⟨rfl,rfl,rfl,sd,rfl⟩| ⟨h,u,rfl,G,tb,rfl,rfl,rfl⟩
 ·have rd0:S.read d 0 0=(aY 0 [],0):=by
   unfold Dr.read dX;rw[hn0];simp;rfl
  obtain⟨L,es,R,EL,ER,loc,lfp,n,ch,e,S1,t1,t2,t3⟩:=gh (S:=S) (d:=d) (f:=f) hr EH [] 0 29 sd ⟨List.Pairwise.nil,fun _ hc=>by cases hc⟩ (fun _ hc=>by cases hc) (by simp[cY]) (by omega);have e0:pX ((0,[]):KT 0).1++bj 0 ((0,[]):KT 0).2=[]:=rfl;obtain⟨lf,r,e',S',g1,g2,g3⟩:=AA (m:=m) (f:=f) hr HJ EH ((0,[]):KT 0) (.inl rfl) sd (fun _ hc=>by cases hc) (by rw[e0];exact List.nodup_nil) (ll [] (by simp[bQ,aY,dZ,cY])) rd0 ⟨List.Pairwise.nil,fun _ hc=>by cases hc⟩ (fun _ hc=>by cases hc) (by omega) (by rw[e0];exact hf) (by rw[e0];exact hb) (by rw[e0];exact T0) loc lfp t1 t2 t3;refine⟨es,r,e',S',lf,g1,g2,fun he=>?_,EL,ER,loc.en,loc.lo ⟨List.Pairwise.nil,fun _ hc=>by cases hc⟩⟩;obtain⟨z,X',H',E',q1,q2,q3,q4⟩:=g3 he;exact⟨z,X',H',E',EL,ER,q1,q2,q3,q4⟩
 ·have hu0:u.1≠0:=by have:=G.us.lo;omega
  have QL:pX u.1++bj h u.2=eU u:=by simp[pX,hu0,cO]
  have hlu:(bj h u.2).length<=(eU u).length:=by rw[cO];simp
  obtain⟨L,es,R,EL,ER,loc,lfp,n,ch,e,S1,t1,t2,t3⟩:=uf (S:=S) (d:=d) (f:=f) (m:=m) hr HJ EH h u.2 0 29 G.g (by omega) (by omega) (by omega) (hb.mono (by omega));have rd0:S.read d u.1 0=(aY h u.2,0):=by rw[S.jL d _ _ (by omega)];exact G.rd
  obtain⟨lf,r,e',S',g1,g2,g3⟩:=AA (m:=m) (f:=f) hr HJ EH u (.inr G.us) G.g.sd G.g.us (by rw[QL];exact G.PM.2.1) (G.g.sm hr) rd0 G.g.od G.g.vl hH (by rw[QL];exact hf) (by rw[QL];exact hb) (by rw[QL];exact T0) loc lfp t1 t2 t3;refine⟨es,r,e',S',lf,g1,by rw[QL]at g2;exact g2,fun he=>?_,EL,ER,loc.en,loc.lo G.g.od⟩;obtain⟨z,X',H',E',q1,q2,q3,q4⟩:=g3 he;rw[QL]at q2;exact⟨z,X',H',E',EL,ER,q1,q2,q3,q4⟩
end
end P
namespace P
open N
section
variable {h:Nat}
def NP:List (KT h)->Prop
 |u::v::K=>(80<=bQ h u.2∨80<=bQ h v.2)∧NP (v::K)
 |_=>True
theorem QM:∀ {K:List (KT h)} {ss:List ByteArray},ss.length+1=K.length->(∀j,KP K ss j)->(∀s∈ss,s.size<=16)->NP K
 |[],_,_,_,_=>trivial
 |[_],_,_,_,_=>trivial
 |u::v::K,[],hl,_,_=>by simp at hl
 |u::v::K,k::ss,hl,hk,hs=>by
  refine⟨?_,QM (ss:=ss) (by simpa using hl) (fun j=>?_) (fun s hx=>hs s (by simp[hx]))⟩
  ·by_cases hc:80<=bQ h u.2
   ·exact .inl hc
   ·right;have h1:=(hk 0 [] u v K [] k ss rfl rfl rfl).1 rfl (by omega);rw[tS]at h1;have h2:=hs k (by simp);split at h1<;>omega
  ·intro A a b B sA k' sB e1 e2 e3;have:=hk (j+1) (u::A) a b B (k::sA) k' sB (by rw[e1];rfl) (by rw[e2];rfl) (by simpa using e3);exact⟨fun hj=>this.1 (by simp;omega),fun hB hj=>this.2 hB (by simp;omega)⟩
def ux (K:List (KT h)):Nat:=K.countP fun u=>decide (bQ h u.2<80)
def pq (K:List (KT h)):Nat:=K.countP fun u=>decide (80<=bQ h u.2)
theorem W7 (K:List (KT h)):ux K+pq K=K.length:=by
 induction K with
 |nil=>rfl
 |cons u K ih=>
  unfold ux pq at*;rw[List.countP_cons,List.countP_cons,List.length_cons];by_cases hc:bQ h u.2<80
  ·have:¬80<=bQ h u.2:=by omega
   simp[hc,this];omega
  ·have:80<=bQ h u.2:=by omega
   simp[hc,this];omega
theorem Li:∀ {K:List (KT h)},NP K->ux K<=pq K+1∧(∀u K',K=u::K'->80<=bQ h u.2->ux K<=pq K)
 |[],_=>⟨by simp[ux,pq],fun _ _ hc=>by cases hc⟩
 |[u],_=>by
  refine⟨?_,fun u' K' hc hz=>?_⟩
  ·unfold ux pq;rw[List.countP_cons,List.countP_cons];simp;split<;>omega
  ·cases hc;unfold ux pq;simp[hz]
 |u::v::K,hn=>by
  obtain⟨i1,i2⟩:=Li hn.2;have e1:ux (u::v::K)=ux (v::K)+(if bQ h u.2<80 then 1 else 0):=by unfold ux;rw[List.countP_cons];simp
  have e2:pq (u::v::K)=pq (v::K)+(if 80<=bQ h u.2 then 1 else 0):=by unfold pq;rw[List.countP_cons];simp
  rw[e1,e2];by_cases hc:bQ h u.2<80
  ·have hv:80<=bQ h v.2:=by rcases hn.1 with e|e<;>omega
   have:=i2 v K rfl hv;refine⟨by rw[if_pos hc,if_neg (by omega)];omega,fun u' K' he hz=>?_⟩;cases he;omega
  ·refine⟨by rw[if_neg hc,if_pos (by omega)];omega,fun u' K' he hz=>?_⟩;rw[if_neg hc,if_pos (by omega)];omega
structure W8 (h:Nat)(b:BT h):Prop where
 one:1<=(dW h b).length
 big:80<=bQ h b->2^(h+1)<=(dW h b).length
 any:(4*((bj h b).length+1:Nat):Int)<=7*(dW h b).length-3+4*h
 few:80<=bQ h b->(4*((bj h b).length+1:Nat):Int)<=7*(dW h b).length-7-12*h
theorem EJ:∀ {K:List (KT h)},(∀u∈K,W8 h u.2)->K.length<=(bO K).length∧pq K*2^(h+1)<=(bO K).length∧(4*(aX K).length:Int)<=7*(bO K).length+ux K*(4*h-3)-pq K*(12*h+7)
 |[],_=>by simp[bO,pq,ux,aX,iz]
 |u::K,hK=>by
  obtain⟨i1,i2,i3⟩:=EJ (K:=K) (fun v hv=>hK v (List.mem_cons_of_mem _ hv));have C:=hK u (List.mem_cons_self ..);have e1:ux (u::K)=ux K+(if bQ h u.2<80 then 1 else 0):=by unfold ux;rw[List.countP_cons];simp
  have e2:pq (u::K)=pq K+(if 80<=bQ h u.2 then 1 else 0):=by unfold pq;rw[List.countP_cons];simp
  have e3:(bO (u::K)).length=(dW h u.2).length+(bO K).length:=by rw[cG,List.length_append]
  have e4:(aX (u::K)).length=(bj h u.2).length+1+(aX K).length:=by rw[cd,cO,List.length_append,List.length_cons]
  have c1:=C.one;have c2:=C.any;by_cases hc:bQ h u.2<80
  ·have L8:ux (u::K)=ux K+1:=by rw[e1,if_pos hc]
   have e2':pq (u::K)=pq K:=by rw[e2,if_neg (by omega)];rfl
   rw[L8,e2',e3,e4,List.length_cons];refine⟨by omega,by omega,?_⟩
   push_cast at c2⊢
   rw[Int.add_mul];omega
  ·have hg:80<=bQ h u.2:=by omega
   have c3:=C.big hg;have c4:=C.few hg;have L8:ux (u::K)=ux K:=by rw[e1,if_neg hc];rfl
   have e2':pq (u::K)=pq K+1:=by rw[e2,if_pos hg]
   rw[L8,e2',e3,e4,List.length_cons];refine⟨by omega,by rw[Nat.add_mul];omega,?_⟩
   push_cast at c4⊢
   rw[Int.add_mul (pq K:Int)];omega
theorem Lj (l:List En)(h0:l≠[])(hx:∀x∈l,lG x<=58):W8 0 l:=by
 have h1:1<=l.length:=List.length_pos_iff.2 h0;have h2:80<=bQ 0 l->2<=l.length:=fun hz=>by
  have:=kP hx;have hz:80<=cY l:=hz;omega
 have e1:(dW 0 l).length=l.length:=rfl;have e2:(bj 0 l).length=0:=rfl;refine⟨h1,fun hz=>h2 hz,?_,fun hz=>?_⟩
 ·rw[e1,e2];push_cast;omega
 ·have:=h2 hz;rw[e1,e2];push_cast;omega
theorem vZ (K:List (KT h))(ss:List ByteArray)(hl:ss.length+1=K.length)(hk:∀j,KP K ss j)(hs:∀s∈ss,s.size<=16)(hK:∀u∈K,W8 h u.2):W8 (h+1) (bN K ss)∧(2<=K.length->2^(h+1)<=(bO K).length):=by
 obtain⟨i1,i2,i3⟩:=EJ hK;have np:=QM hl hk hs;obtain⟨c1,_⟩:=Li np;have c2:=W7 K;have e1:(dW (h+1) (bN K ss)).length=(bO K).length:=rfl;have e2:(bj (h+1) (bN K ss)).length=(aX K).length:=rfl;have hbig:80<=bQ (h+1) (bN K ss)->5<=K.length:=fun hz=>by
  have hz:80<=4+bV ss:=hz;have:=vu hs;omega
 have kk:(ux K:Int)*(4*h-3)- (pq K:Int)*(12*h+7)<=4*h-3∧(5<=K.length->(ux K:Int)*(4*h-3)- (pq K:Int)*(12*h+7)<=-(12*h)-23):=by
  by_cases h0:h=0
  ·subst h0;simp only[Int.natCast_zero,Int.mul_zero];omega
  ·have e:(12*(h:Int)+7)=(4*h-3)+(8*h+10):=by omega
   have hpos:(0:Int)<=4*h-3:=by omega
   have k1:(ux K:Int)*(4*h-3)<=((pq K:Int)+1)*(4*h-3):=Int.mul_le_mul_of_nonneg_right (by omega) hpos;rw[Int.add_mul,Int.one_mul]at k1;have g2:∀q:Nat,q<=pq K->(q:Int)*(8*h+10)<=(pq K:Int)*(8*h+10):=fun q hq=>Int.mul_le_mul_of_nonneg_right (by omega) (by omega);rw[e,Int.mul_add];refine⟨?_,fun h5=>?_⟩
   ·have:=g2 0 (by omega);simp only[Int.natCast_zero,Int.zero_mul]at this;omega
   ·have:=g2 2 (by omega);simp only[Int.cast_ofNat_Int]at this;omega
 have g2n:∀q:Nat,q<=pq K->q*2^(h+1)<=(bO K).length:=fun q hq=>Nat.le_trans (Nat.mul_le_mul_right _ hq) i2;refine⟨⟨by rw[e1];omega,fun hz=>?_,?_,fun hz=>?_⟩,fun h2=>?_⟩
 ·have:=hbig hz;have:=g2n 2 (by omega);rw[e1,Nat.pow_succ 2 (h+1)];omega
 ·have:=kk.1;rw[e1,e2]
  push_cast
  omega
 ·have:=kk.2 (hbig hz);rw[e1,e2]
  push_cast
  omega
 ·have:=g2n 1 (by omega);omega
theorem yi {room:Nat}{d:Dk}{S:Dr}:∀(h:Nat) (b:BT h),Wl h b->bS (cC h b)->(∀x∈dW h b,x.2.size<=40)->W8 h b
 |0,l,wl,od,vl=>Lj l wl (fun x hx=>oH (od.sz (false,x.1) (jl 0 l x hx)).2 (vl x hx))
 |h+1,b,wl,od,vl=>by
  obtain⟨K,ss,rfl⟩:=gV b;have od:bS (dE K ss):=od;refine(vZ K ss wl.1 wl.2.1 (fun s hs=>?_) (fun u hu=>?_)).1
  ·have h1:=od.sub (jh (K.map fun u=>cC h u.2) ss (by have:=wl.1;simp only[bN]at this;simp;omega));exact(h1.sz (true,s) (List.mem_map_of_mem (f:=fun s=>((true,s):It)) hs)).2
  ·obtain⟨A,B,rfl⟩:=List.append_of_mem hu;refine yi (room:=room) (d:=d) (S:=S) h u.2 (wl.2.2 u hu).1 ?_ (fun x hx=>vl x (by rw[pR,cL,cG];simp[hx]));have hl:=wl.1;simp only[bN]at hl;have e:ss=ss.take A.length++ss.drop A.length:=(List.take_append_drop _ _).symm;rw[e,fG (by rw[List.length_take];simp at hl;omega)]at od;exact od.sub (List.Sublist.trans (List.sublist_append_left _ _) (List.sublist_append_right _ _))
theorem TS.cnt {room:Nat}{d:Dk}{S:Dr}{root:Int}{E:List En}{X:List Int}{H:Nat}(T:TS room d S root E X H):(4*X.length:Int)<=7*E.length+4*H∧(H=0∨2^H<=E.length):=by
 rcases T with⟨rfl,rfl,rfl,sd,rfl⟩| ⟨h,u,rfl,G,tb,rfl,rfl,rfl⟩
 ·simp
 ·have C:=yi (room:=room) (d:=d) (S:=S) h u.2 G.g.wl G.g.od G.g.vl;have c1:=C.any;refine⟨?_,?_⟩
  ·rw[cO,List.length_cons];omega
  ·cases h with
   |zero=>exact .inl rfl
   |succ h=>
    right;obtain⟨p,b⟩:=u;obtain⟨K,ss,rfl⟩:=gV b;have hl:ss.length+1=K.length:=G.g.wl.1;have tb:K.length≠1:=tb;have R:=G.g.rw;have od:bS (dE K ss):=R.od;refine(vZ K ss hl G.g.wl.2.1 (fun s hs=>?_) (fun u hu=>?_)).2 (by omega)
    ·have h1:=od.sub (jh (K.map fun u=>cC h u.2) ss (by simp;omega));exact(h1.sz (true,s) (List.mem_map_of_mem (f:=fun s=>((true,s):It)) hs)).2
    ·obtain⟨A,B,rfl⟩:=List.append_of_mem hu;refine yi (room:=room) (d:=d) (S:=S) h u.2 (R.wl u hu).1 ?_ (fun x hx=>R.vl x (by rw[cL,cG];simp[hx]));have e:ss=ss.take A.length++ss.drop A.length:=(List.take_append_drop _ _).symm;rw[e,fG (by rw[List.length_take];simp at hl;omega)]at od;exact od.sub (List.Sublist.trans (List.sublist_append_left _ _) (List.sublist_append_right _ _))
end
end P
namespace P
open N
theorem yj:∀(l:List (List It)) (ss:List ByteArray),l.flatten.Sublist (jg l ss)
 |[],ss=>by rw[tR];exact List.Sublist.refl _
 |x::l,[]=>List.Sublist.refl _
 |x::l,s::ss=>by
  rw[ie,List.flatten_cons];exact List.Sublist.append (List.Sublist.refl _) (List.Sublist.trans (yj l ss) (List.sublist_cons_self _ _))
theorem AB {α β:Type}{f g:α->List β}:∀ {l:List α},(∀x∈l,(f x).Sublist (g x))->(l.map f).flatten.Sublist (l.map g).flatten
 |[],_=>List.Sublist.refl _
 |x::l,hx=>by
  rw[List.map_cons,List.map_cons,List.flatten_cons,List.flatten_cons];exact List.Sublist.append (hx x (List.mem_cons_self ..)) (AB fun y hy=>hx y (List.mem_cons_of_mem _ hy))
theorem AD:∀(h:Nat) (b:BT h),(og (dW h b)).Sublist (cC h b)
 |0,l=>List.Sublist.refl _
 |h+1,b=>by
  obtain⟨K,ss,rfl⟩:=gV b;rw[pR,KZ];have e:og (bO K)=(K.map fun u=>og (dW h u.2)).flatten:=by
   unfold og bO;rw[List.map_flatten,List.map_map];rfl
  rw[e];exact List.Sublist.trans (AB fun u hu=>AD h u.2) (yj _ _)
theorem TS.rg {room:Nat}{d:Dk}{S:Dr}{root:Int}{E:List En}{X:List Int}{H:Nat}(T:TS room d S root E X H):Rg E:=by
 rcases T with⟨rfl,rfl,rfl,sd,rfl⟩| ⟨h,u,rfl,G,tb,rfl,rfl,rfl⟩
 ·exact Rg.nil
 ·exact bS.leaf (G.g.od.sub (AD h u.2)) G.g.vl
theorem EK (x:En):∀l,cY (lT x l)=lG x+cY l
 |[]=>by simp[lT,cY]
 |y::l=>by
  unfold lT;split
  ·simp[cY]
  ·simp only[cY,EK x l];omega
theorem mE (p:En->Bool):∀l:List En,cY (l.filter p)<=cY l
 |[]=>by simp
 |x::l=>by
  rw[List.filter_cons];have:=mE p l;split<;>simp only[cY]<;>omega
def QN (key val:ByteArray):List En->List En:=fun es=>if(cJ key val&&im es)=true then jD es key val else es
def Vg (key:ByteArray):List En->List En:=fun es=>if im es=true then iv es key else es
theorem yl {key val:ByteArray}(hm:cJ key val=true){es:List En}(h:Rg es):QN key val es=jD es key val:=by
 unfold QN;rw[hm,gO h];rfl
theorem ym {key:ByteArray}{es:List En}(h:Rg es):Vg key es=iv es key:=by
 unfold Vg;rw[gO h];rfl
theorem PQ {key val:ByteArray}(hm:cJ key val=true):PJ key (QN key val):=by
 refine⟨fun es h=>by rw[yl hm h];exact lU h hm,fun es h x hx=>?_,fun es h=>?_⟩
 ·rw[yl hm h]at hx;rcases gC.1 hx with rfl|hx
  ·have h1:=aV.1 hm;exact .inl ⟨rfl,h1.1,h1.2.1⟩
  ·exact .inr hx.1
 ·rw[yl hm h];have h1:=aV.1 hm;have h2:=mE (fun x=>!decide (x.1=key)) es;unfold jD iv;rw[EK];have:lG (key,val)<=58:=oH h1.2.1 h1.2.2;omega
theorem PR (key:ByteArray):PJ key (Vg key):=by
 refine⟨fun es h=>by rw[ym h];exact j7 h key,fun es h x hx=>?_,fun es h=>?_⟩
 ·rw[ym h]at hx;exact .inr (fx.1 hx).1
 ·rw[ym h];have h2:=mE (fun x=>!decide (x.1=key)) es;unfold iv;omega
theorem px {EL es ER:List En}(h:Rg (EL++(es++ER))):Rg es:=h.sub (List.Sublist.trans (List.sublist_append_left _ _) (List.sublist_append_right _ _))
theorem Ui.put {key val:ByteArray}{E E' EL es ER:List En}(hm:cJ key val=true)(R:Ui key (QN key val) E E' EL es ER)(h:Rg E)(h':Rg E'):E'=jD E key val:=by
 obtain⟨rfl,rfl,lo,hi⟩:=R;rw[yl hm (px h)]at h'⊢;refine Rg.ext h' (lU h hm) fun x=>?_;rw[gC];simp only[List.mem_append,gC];constructor
 ·rintro(hx| (rfl|hx)|hx)
  ·exact .inr ⟨.inl hx,fW (lo x hx)⟩
  ·exact .inl rfl
  ·exact .inr ⟨.inr (.inl hx.1),hx.2⟩
  ·exact .inr ⟨.inr (.inr hx),(fW (hi x hx)).symm⟩
 ·rintro(rfl| ⟨hx|hx|hx,hn⟩)
  ·exact .inr (.inl (.inl rfl))
  ·exact .inl hx
  ·exact .inr (.inl (.inr ⟨hx,hn⟩))
  ·exact .inr (.inr hx)
theorem Ui.del {key:ByteArray}{E E' EL es ER:List En}(R:Ui key (Vg key) E E' EL es ER)(h:Rg E)(h':Rg E'):E'=iv E key:=by
 obtain⟨rfl,rfl,lo,hi⟩:=R;rw[ym (px h)]at h'⊢;refine Rg.ext h' (j7 h key) fun x=>?_;rw[fx];simp only[List.mem_append,fx];constructor
 ·rintro(hx|hx|hx)
  ·exact⟨.inl hx,fW (lo x hx)⟩
  ·exact⟨.inr (.inl hx.1),hx.2⟩
  ·exact⟨.inr (.inr hx),(fW (hi x hx)).symm⟩
 ·rintro⟨hx|hx|hx,hn⟩
  ·exact .inl hx
  ·exact .inr (.inl ⟨hx,hn⟩)
  ·exact .inr (.inr hx)
theorem AE {key:ByteArray}{EL es ER:List En}(lo:∀x∈EL,bB x.1 key=true)(hi:∀x∈ER,bB key x.1=true):gN (EL++(es++ER)) key=gN es key:=by
 rw[Bool.eq_iff_iff,eY,eY];simp only[List.mem_append];constructor
 ·rintro⟨x,hx|hx|hx,e⟩
  ·exact absurd e (fW (lo x hx))
  ·exact⟨x,hx,e⟩
  ·exact absurd e.symm (fW (hi x hx))
 ·rintro⟨x,hx,e⟩;exact⟨x,.inr (.inl hx),e⟩
theorem Uk {key:ByteArray}{EL es ER:List En}(h:Rg (EL++(es++ER)))(lo:∀x∈EL,bB x.1 key=true)(hi:∀x∈ER,bB key x.1=true):iC (EL++(es++ER)) key=iC es key:=by
 refine(MO h (px h) fun v=>?_).2;simp only[List.mem_append];constructor
 ·rintro(hx|hx|hx)
  ·exact absurd rfl (fW (lo _ hx))
  ·exact hx
  ·exact absurd rfl (fW (hi _ hx))
 ·exact fun hx=>.inr (.inl hx)
end P
namespace P
open N
section
variable {room:Nat}{d:Dk}
theorem PS {free:List Pr}{id:Int}(hc:Cn free)(h0:0<=id∧id<=4294967295)(hn:¬dm free id):jA (Di free [(id,id)])=jA free+1:=by
 have h1:=Ff free [(id,id)];have c1:Cn [(id,id)]:=⟨fun r hr=>by rw[List.mem_singleton.1 hr];exact⟨h0.1,Int.le_refl _,h0.2⟩,by simp⟩;have e1:uY free [(id,id)]=[]:=rL _ _ (oz _ _) Cn.nil fun n=>by
  rw[oC];constructor
  ·rintro⟨h2,h3⟩;have:=(eW _ _).1 h3;have e:n=id:=by have:=this.2.2;omega
   exact absurd (e▸h2) hn
  ·exact fun h2=>absurd h2 (dz n)
 rw[e1,uZ hc,uZ c1,qD]at h1;have e2:jA [(id,id)]=1:=by simp[jA]
 omega
theorem ug:∀(l:List Int) (x:TX),room<=4294967295->x.Ok room->(∀q∈l,(x.fresh q).isSome=true)->l.Nodup->
  (aJ x l).Ok room∧(aJ x l).pages=x.pages∧(aJ x l).cnt=x.cnt∧(∀q,(aJ x l).fresh q=if q∈l then none else x.fresh q)∧(∀q,dm (aJ x l).free q↔dm x.free q∨q∈l)∧(aJ x l).cap room=x.cap room+l.length
 |[],x,_,ok,_,_=>⟨ok,rfl,rfl,by simp[aJ],by simp[aJ],by simp[aJ]⟩
 |id::l,x,hr,ok,hf,nd=>by
  have hid:=hf id (by simp);have k:=ok.fs id hid;have hpr:=ok.pr;obtain⟨n1,n2⟩:=List.nodup_cons.1 nd;have e0:x.drop id=⟨Di x.free [(id,id)],x.pages,tC x.fresh id,x.cnt⟩:=by unfold TX.drop;rw[if_pos hid]
  have hnf:¬dm x.free id:=fun c=>by rw[ok.dj id c]at hid;cases hid
  obtain⟨r1,r2,r3,r4,r5,r6⟩:=ug l (x.drop id) hr (TX.DX ok id) (fun q hq=>by
   rw[e0]
   simp only
   rw[oQ,hf q (by simp[hq])]
   have:q≠id:=fun e=>n1 (e▸hq)
   simp[this]) n2
  have e1:aJ x (id::l)=aJ (x.drop id) l:=rfl;rw[e1];refine⟨r1,by rw[r2,e0],by rw[r3,e0],fun q=>?_,fun q=>?_,?_⟩
  ·rw[r4 q,e0];simp only[tC,List.mem_cons];by_cases h1:q=id
   ·subst h1;simp
   ·simp[h1]
  ·rw[r5 q,e0];simp only;rw[wN,eW,List.mem_cons];constructor
   ·rintro((h1|h1)|h1)
    ·exact .inl h1
    ·exact .inr (.inl (by omega))
    ·exact .inr (.inr h1)
   ·rintro(h1|rfl|h1)
    ·exact .inl (.inl h1)
    ·exact .inl (.inr ⟨by omega,by omega,by simp,by simp⟩)
    ·exact .inr h1
  ·rw[r6,e0];unfold TX.cap;simp only;rw[PS ok.cn (by omega) hnf,List.length_cons]
   push_cast
   omega
def Lk (n:Nd):C3:=⟨true,(ov n).toNat.toUInt8,kX n⟩
theorem nR {n:Nd}(hf:cF n=true):(kX n).size<=240:=by
 have h1:=hf;unfold cF at h1;rw[Bool.and_eq_true,decide_eq_true_eq]at h1;unfold kX;rw[if_pos hf];show(yw n).toArray.size<=240;rw[List.size_toArray,iq h1.1];exact h1.2
theorem AG (nodes:Int->Option Nd):∀(L:List Int) (x:TX),x.Ok room->(∀q∈L,(x.fresh q).isSome=true∧∃n,nodes q=some n∧cF n=true)->
  (cQ nodes x L).Ok room∧(cQ nodes x L).pages=x.pages∧(cQ nodes x L).free=x.free∧(cQ nodes x L).cnt=x.cnt+L.length∧(∀q,(cQ nodes x L).fresh q=if q∈L then(nodes q).map Lk else x.fresh q)
 |[],x,ok,_=>⟨ok,rfl,rfl,rfl,by simp[cQ]⟩
 |id::L,x,ok,hL=>by
  obtain⟨hf,n,hn,hfi⟩:=hL id (by simp);have hs:=nR hfi;have e0:(x.put id (ov ((nodes id).getD nd0)).toNat.toUInt8 (kX ((nodes id).getD nd0))).2=⟨x.free,x.pages,gY x.fresh id (Lk n),x.cnt+1⟩:=by
   rw[hn];unfold TX.put;rw[if_pos hf,if_neg (by simp only[Option.getD_some];omega)];rfl
  have ok':=TX.SJ ok id (ov ((nodes id).getD nd0)).toNat.toUInt8 (kX ((nodes id).getD nd0));rw[e0]at ok';obtain⟨r1,r2,r3,r4,r5⟩:=AG nodes L _ ok' (fun q hq=>⟨by simp only;rw[dI,(hL q (by simp[hq])).1,Bool.or_true],(hL q (by simp[hq])).2⟩);have e1:cQ nodes x (id::L)=cQ nodes ⟨x.free,x.pages,gY x.fresh id (Lk n),x.cnt+1⟩ L:=by rw[cQ,e0]
  rw[e1];refine⟨r1,r2,r3,by rw[r4,List.length_cons];simp only;omega,fun q=>?_⟩;rw[r5 q];by_cases h1:q∈L
  ·simp[h1]
  ·by_cases h2:q=id
   ·subst h2;simp[h1,hn,gY]
   ·simp[h1,h2,gY]
theorem W9 {y:TX}{p:Int}{n:Nd}(hp:2<=p)(hf:cF n=true)(hc:y.fresh p=some (Lk n)):(gi y).vw d p=(n,0):=by
 have h1:=hf;unfold cF at h1;rw[Bool.and_eq_true,decide_eq_true_eq]at h1;have hd:=zB h1.1 h1.2;have hb:(kX n).data.toList=yw n:=by unfold kX;rw[if_pos hf]
 have hk:ov n=yx n:=by unfold ov;rw[if_pos hf]
 unfold Dr.vw Dr.read dX;have e0:¬(((gi y).nodes p).isSome=true∧(0:Int)<24):=by simp[gi]
 rw[if_neg e0,if_neg (by omega),if_neg (by omega)];have ex:(gi y).x=y:=rfl;rw[ex];unfold bX TX.get;rw[hc];by_cases hl:n.leaf=true
 ·have e1:yx n=1:=by unfold yx;rw[if_pos hl]
  have e2:(Lk n).kind=1:=by show(ov n).toNat.toUInt8=1;rw[hk,e1];rfl
  have e3:(Lk n).there=true:=rfl;have e4:(Lk n).body=kX n:=rfl;simp only[e2,e3,e4,and_self,if_true];unfold uS uD vA;rw[hb];rw[e1]at hd;rw[hd];simp[lr]
 ·have e1:yx n=2:=by unfold yx;rw[if_neg hl]
  have e2:(Lk n).kind=2:=by show(ov n).toNat.toUInt8=2;rw[hk,e1];rfl
  have e3:(Lk n).there=true:=rfl;have e4:(Lk n).body=kX n:=rfl;have e5:¬((2:UInt8)=1):=by decide
  simp only[e2,e3,e4,e5,and_self,and_false,if_false,if_true];unfold uS uD vA;rw[hb];rw[e1]at hd;rw[hd];simp[lr]
end
end P
namespace P
open N
section
variable {room:Nat}{d:Dk}{x:TX}{root:Int}{E:List En}{X:List Int}{H:Nat}{key:ByteArray}{ed:List En->List En}
theorem sd0 (ok:x.Ok room)(bz:∀q c,x.fresh q=some c->c.body.size<=240):Sd room (gi x):=⟨ok,(fun _ hc=>by cases hc),(fun _ hc=>by cases hc),List.nodup_nil,(fun _ _ hc=>by cases hc),bz,(fun _ hc=>by cases hc)⟩
theorem TS.move {S S2:Dr}(T:TS room d S root E X H)(sd:Sd room S2)(us:∀p∈X,Us S2 p)(vw:∀p∈X,S2.vw d p=S.vw d p):TS room d S2 root E X H:=by
 rcases T with⟨a,b,c,_,f⟩| ⟨h,u,a,G,tb,e,rfl,f⟩
 ·exact .inl ⟨a,b,c,sd,f⟩
 ·refine .inr ⟨h,u,a,Gt.of sd G.g.wl G.g.sz us G.PM.2.1 (fun y hy=>?_) G.g.od G.g.vl,tb,e,rfl,f⟩;have hm:y.1∈eU u:=List.mem_map_of_mem (f:=Prod.fst) hy;rw[vw y.1 hm];exact G.PM.2.2 y hy
theorem TS.us {S:Dr}(T:TS room d S root E X H):∀p∈X,Us S p:=T.fm.us
theorem TS.sd {S:Dr}(T:TS room d S root E X H):Sd room S:=T.fm.ok
structure Tx (room:Nat)(d:Dk)(x:TX)(root:Int)(E:List En)(X:List Int)(H:Nat):Prop where
 ts:TS room d (gi x) root E X H
 own:∀p,(x.fresh p).isSome=true->p∈X
structure Mn (room:Nat)(x:TX)(X:List Int):Prop where
 all:∀p∈X,(x.fresh p).isSome=true
 cap:x.cap room+X.length=(room:Int)-2
theorem Ll {z:Int}{c:Nat}{S':Dr}{r:Int}{E':List En}{X':List Int}{H':Nat}(hr:room<=16384)(T:Tx room d x root E X H)(T':TS room d S' r E' X' H')(F:Fm room d c ((gi x).bt z) X S' X')(L:List Int)(hL:∀k,k∈L↔(S'.nodes k).isSome=true):
  Tx room d (cQ S'.nodes (aJ S'.x S'.spare) L) r E' X' H'∧(Mn room x X->Mn room (cQ S'.nodes (aJ S'.x S'.spare) L) X')∧(cQ S'.nodes (aJ S'.x S'.spare) L).cnt=S'.x.cnt+L.length∧∀k∈L,k∈X':=by
 have sd:=F.ok;obtain⟨a1,a2,a3,a4,a5,a6⟩:=ug S'.spare S'.x (by omega) sd.x sd.sp sd.sn;obtain⟨b1,b2,b3,b4,b5⟩:=AG S'.nodes L (aJ S'.x S'.spare) a1 (fun q hq=>by
  have h1:=(hL q).1 hq
  have h2:=sd.nf q h1
  obtain⟨n,hn⟩:=Option.isSome_iff_exists.1 h1
  exact⟨by rw[a4 q,if_neg h2.2];exact h2.1,n,hn,sd.fi q n hn⟩)
 generalize hy:cQ S'.nodes (aJ S'.x S'.spare) L=y at*;have fr:∀q,y.fresh q=if q∈L then(S'.nodes q).map Lk else if q∈S'.spare then none else S'.x.fresh q:=fun q=>by rw[b5 q,a4 q]
 have fs:∀q,(y.fresh q).isSome=true↔(S'.x.fresh q).isSome=true∧q∉S'.spare:=fun q=>by
  rw[fr q];by_cases h1:q∈L
  ·have h2:=(hL q).1 h1;have h3:=sd.nf q h2;rw[if_pos h1];simp[h2,h3]
  ·rw[if_neg h1];by_cases h2:q∈S'.spare
   ·rw[if_pos h2];simp[h2]
   ·rw[if_neg h2];simp[h2]
 have bz:∀q c,y.fresh q=some c->c.body.size<=240:=fun q c hc=>by
  rw[fr q]at hc;split at hc
  ·obtain⟨n,hn,rfl⟩:=Option.map_eq_some_iff.1 hc;exact nR (sd.fi q n hn)
  ·split at hc
   ·cases hc
   ·exact sd.bz q c hc
 have inf:∀q,dm y.free q↔dm S'.x.free q∨q∈S'.spare:=fun q=>by rw[b3];exact a5 q
 have us:∀p∈X',Us (gi y) p:=fun p hp=>by
  have h1:=T'.us p hp;refine⟨h1.lo,?_,fun hc=>?_,by simp[gi]⟩
  ·show p< (y.pages:Int);rw[b2,a2];exact h1.hi
  ·rcases(inf p).1 hc with h2|h2
   ·exact h1.fr h2
   ·exact h1.sp h2
 have vw:∀p∈X',(gi y).vw d p=S'.vw d p:=fun p hp=>by
  have h1:=T'.us p hp;by_cases h2:p∈L
  ·obtain⟨n,hn⟩:=Option.isSome_iff_exists.1 ((hL p).1 h2);rw[W9 h1.lo (sd.fi p n hn) (by rw[fr p,if_pos h2,hn];rfl)];simp[Dr.vw,Dr.read,hn]
  ·have hn:S'.nodes p=none:=by
    cases hc:S'.nodes p with
    |none=>rfl
    |some n=>exact absurd ((hL p).2 (by rw[hc];rfl)) h2
   have hf:y.fresh p=S'.x.fresh p:=by rw[fr p,if_neg h2,if_neg h1.sp]
   have hg:∀k,bX y d p k=bX S'.x d p k:=fun k=>by
    unfold bX TX.get;rw[hf,b2,a2,jx (show¬dm y.free p from(us p hp).fr),jx h1.fr]
   exact nZ (S':=gi y) (hg 1) (hg 2) (by rw[hn];rfl)
 refine⟨⟨T'.move (sd0 b1 bz) us vw,fun p hp=>?_⟩,fun M=>⟨fun p hp=>?_,?_⟩,by rw[b4,a3],fun k hk=>?_⟩
 ·have h1:=(fs p).1 hp;rcases F.tight p h1.1 h1.2 with h2| ⟨h2,_,h3⟩
  ·exact h2
  ·exact absurd (T.own p h2) h3
 ·have hm:=(F.mine (fun q hq=>(dQ _ q).2 ⟨M.all q hq,by simp[gi,Dr.bt]⟩)).1 p hp;exact(fs p).2 ((dQ _ p).1 hm)
 ·have hm:=(F.mine (fun q hq=>(dQ _ q).2 ⟨M.all q hq,by simp[gi,Dr.bt]⟩)).2.2;have h1:=F.cap;have h2:=M.cap;have h3:y.cap room=S'.x.cap room+S'.spare.length:=by
   have:y.cap room=(aJ S'.x S'.spare).cap room:=by unfold TX.cap;rw[b3,b2]
   rw[this,a6]
  have e1:((gi x).bt z).taken.length=0:=rfl;have e2:((gi x).bt z).spare.length=0:=rfl;have e3:((gi x).bt z).x=x:=rfl;rw[e1,e2]at hm;rw[e1,e3]at h1;rw[h3];omega
 ·have h1:=sd.nf k ((hL k).1 hk);rcases F.tight k h1.1 h1.2 with h2| ⟨h2,_,h3⟩
  ·exact h2
  ·exact absurd (T.own k h2) h3
theorem QO (hr:room<=16384)(EH:PJ key ed){f m:Nat}(T:Tx room d x root E X H)(hH:H+1<24)(hf:3*(X.length+2*H+2)+5<=f)(hb:Bd (gi x) (X.length+8*H+30+m)):
  ∃es r e S',GG d key es 30 (gi x) ⟨false,[],[root],[]⟩ (-1)∧kA (bn room d f) room d key ed root (gi x)=some ((r,e),S')∧Sd room S'∧(S'.cnt<=X.length+4*H+6∧S'.x.cnt<=x.cnt+X.length+4*H+6∧S'.taken.length<=X.length+4*H+6∧S'.spare.length<=X.length+4*H+6)∧
   (e≠0->e=2∧(Mn room x X->x.cap room<=4*H+4))∧
   (∃EL ER,E=EL++(es++ER)∧(∀x∈EL,bB x.1 key=true)∧∀x∈ER,bB key x.1=true)∧
   (e=0->∃X' H' E' EL ER,Ui key ed E E' EL es ER∧H'<=H+1∧∀L,(∀k,k∈L↔(S'.nodes k).isSome=true)->Tx room d (cQ S'.nodes (aJ S'.x S'.spare) L) r E' X' H'∧(Mn room x X->Mn room (cQ S'.nodes (aJ S'.x S'.spare) L) X')∧(cQ S'.nodes (aJ S'.x S'.spare) L).cnt=S'.x.cnt+L.length∧∀k∈L,k∈X'):=by
 obtain⟨es,r,e,S',lf,h1,⟨z,h2⟩,h3,h4⟩:=PO (m:=m) (f:=f) (S:=gi x) hr (fun h=>Lc hr h) EH rfl T.ts hH hf hb;have bnd:∀(z':Int) (X':List Int),Fm room d (4*H+6) ((gi x).bt z') X S' X'->S'.cnt<=X.length+4*H+6∧S'.x.cnt<=x.cnt+X.length+4*H+6∧S'.taken.length<=X.length+4*H+6∧S'.spare.length<=X.length+4*H+6:=fun z' X' F=>by
  have k1:=F.cnt;have k2:=F.nY;have k3:=F.Cw;have k4:=F.EA;have e1:((gi x).bt z').taken.length=0:=rfl;have e2:((gi x).bt z').spare.length=0:=rfl;have e3:((gi x).bt z').x.cnt=x.cnt:=rfl;have e4:((gi x).bt z').cnt=0:=rfl;omega
 by_cases he:e=0
 ·subst he;obtain⟨z',X',H',E',EL,ER,q1,q2,q3,q4⟩:=h3 rfl;exact⟨es,r,0,S',lf,h1,q2.ok,bnd z' X' q2,fun hc=>absurd rfl hc,h4,fun _=>⟨X',H',E',EL,ER,q4,q3,fun L hL=>Ll hr T q1 q2 L hL⟩⟩
 ·obtain⟨g1,Xm,F,g2,g3⟩:=h2 he;refine⟨es,r,e,S',lf,h1,F.ok,bnd z Xm (F.mono (by omega)),fun _=>⟨g1,fun M=>?_⟩,h4,fun hc=>absurd hc he⟩;have hm:=(F.mine (fun q hq=>(dQ _ q).2 ⟨M.all q hq,by simp[gi,Dr.bt]⟩)).2.1;have k1:=F.cap;have e1:((gi x).bt z).taken.length=0:=rfl;have e3:((gi x).bt z).x=x:=rfl;have k2:S'.x.cap room<=0:=by
   unfold TX.cap;rw[g2,qD];omega
  rw[e1]at hm;rw[e1,e3]at k1;omega
end
end P
end Go.Proofs.YtcenfooehjcddaaGreatDoor
namespace Go.Proofs.YtcenfooehjcddaaGreatDoor
open Go.Shelf Go.RowKit Go.Lib Go.Sort
section
open N (Nd nd0 cF dF dZ jo gG Sm dD En)
theorem Ul (w:World):(Instr.makeMap 138 none).run Tryz.prog w=.ok (.map (some w.heap.size)) (w.alloc (.map #[] 0)):=by kernel_rfl
def Cx.He (C:Cx)(q:Nat):Cx:=⟨q,C.tq,C.t,C.f,C.b,C.root,C.err⟩
def Cx.eV (C:Cx)(r:Int):Cx:=⟨C.q,C.tq,C.t,C.f,C.b,r,C.err⟩
def Cx.AH (C:Cx)(e:Int):Cx:=⟨C.q,C.tq,C.t,C.f,C.b,C.root,e⟩
structure Fin (S:Dr):Prop where
 tl:S.taken.length<=100000
 tw:∀k∈S.taken,Wf k
 sl:S.spare.length<=100000
 sw:∀k∈S.spare,Wf k
 cn:S.cnt<=100000
 xc:S.x.cnt+S.cnt<1000000
 kw:∀k,(S.nodes k).isSome=true->Wf k
section
variable {B:Nat}{w0 w w':World}{l:List aM}{P:List NV}{C:Cx}{S S':Dr}{x:TX}{d d1:Dk}{r er Nb:Int}{cq:qV}{c1 c2:Value}{ed:List En->List En}{U U':aM}{key:ByteArray}{es0:List En}
theorem TL.draft (h:Sep B w0 w (TL C x d1 P l)):Sep B w0 ((w.alloc (.map #[] 0)).alloc (.cells #[ptr C.tq,.map (some w.heap.size),.slice none 0 0,.slice none 0 0,.int .i64 0] 140)) (DL (C.He (w.heap.size+1)) (gi x) d1 P l):=by
 have h1:=Sep.aZ (Sep.DW h) (.cells #[ptr C.tq,.map (some w.heap.size),.slice none 0 0,.slice none 0 0,.int .i64 0] 140) (w.heap.size+1) (by simp);have h2:Sep B w0 ((w.alloc (.map #[] 0)).alloc (.cells #[ptr C.tq,.map (some w.heap.size),.slice none 0 0,.slice none 0 0,.int .i64 0] 140)) (aF (w.heap.size+1) (mH C.tq w.heap.size (.slice none 0 0) (.slice none 0 0) 0)::dh w.heap.size (fun _=>none) 0::aR 3 (.slice none 0 0) []::aR 3 (.slice none 0 0) []::TL C x d1 P l):=Sep.pb [_,_] (Sep.sS (Sep.pb [_,_] (Sep.sS h1 3)) 3);have h3:=Sep.oV (C:=(C.He (w.heap.size+1))) (S:=gi x) (P:=P) (g:=fun _=>none) (fun k=>.inl ⟨rfl,rfl⟩) h2;exact Sep.pb [_,_,_,_] h3
theorem Sep.Um (h:Sep B w0 w (TL C x d1 P l))(r:Int):Sep B w0 (w.setCell ⟨C.tq,1,none⟩ (.int .i64 r)) (TL (C.eV r) x d1 P l):=Sep.pb [_,_] (Sep.ml (x:=.int .i64 r) (Sep.pk [_,_] h) 1)
theorem Sep.Xa (h:Sep B w0 w (TL C x d1 P l))(e:Int):Sep B w0 (w.setCell ⟨C.tq,2,none⟩ (.int .i64 e)) (TL (C.AH e) x d1 P l):=Sep.pb [_,_] (Sep.ml (x:=.int .i64 e) (Sep.pk [_,_] h) 2)
def GH (B:Nat)(w0:World)(C:Cx)(S:Dr)(d:Dk)(P:List NV)(l:List aM)(U U':aM)(r er:Int)(e:Ending)(w':World):Prop:=
 e=.returned (.int .i64 er)∧∃P' d' V,(∀x∈P,x∈P')∧(V=U∨V=U')∧(er=0->V=U')∧bH d d'∧
  ((er≠0∧Sep B w0 w' (TL (C.AH er) (aJ S.x S.taken) d' P' (V::l)))∨(er=0∧∃L,(L.Pairwise (· < ·)∧∀k,k∈L↔(S.nodes k).isSome=true)∧Sep B w0 w' (TL (C.eV r) (cQ S.nodes (aJ S.x S.spare) L) d' P' (V::l))))
theorem wh:(∀(T:bW B w0) (hst:∀C:Cx,aW B w0 C d Nb cq) (dY:∀ {S S':Dr} {n:Nd} {depth i tt:Int} {r:Nd×Int},DI S d.room->cq S n depth i tt=some (r,S')->DI S' d.room) (fc:∀ {S9 S8:Dr} {n9:Nd} {i9 j9 k9:Int} {r9:Nd×Int},cq S9 n9 i9 j9 k9=some (r9,S8)->cB n9=true) (tO:∀C:Cx,nN B w0 C 46 c1 c2 ed es0 U U') (hlf:uu d key es0 30 (gi x) ⟨false,[],[C.root],[]⟩ (-1)) (hel:∀es,(ed es).length<=es.length+1) (hr:d.room<=16384) (hNb:Nb<=1000000) (hN0:29<=Nb) (hd:bH d d1) (h:Sep B w0 w (TL C x d1 P (U::l))) (I:DI (gi x) d.room) (Mf:DI S' d.room) (hF:Fin S') (he:kA cq d.room d key ed C.root (gi x)=some ((r,er),S')),Calls Tryz.prog 45 #[ptr C.tq,.string key,.func (.func 46) #[] #[c1,c2]] w (GH B w0 C S' d P l U U' r er))∧
  (∀(T:bW B w0) (hst:∀C:Cx,aW B w0 C d Nb cq) (dY:∀ {S S':Dr} {n:Nd} {depth i tt:Int} {r:Nd×Int},DI S d.room->cq S n depth i tt=some (r,S')->DI S' d.room) (fc:∀ {S9 S8:Dr} {n9:Nd} {i9 j9 k9:Int} {r9:Nd×Int},cq S9 n9 i9 j9 k9=some (r9,S8)->cB n9=true) (tO:∀C:Cx,nN B w0 C 62 c1 c2 ed es0 U U') (hlf:uu d key es0 30 (gi x) ⟨false,[],[C.root],[]⟩ (-1)) (hel:∀es,(ed es).length<=es.length+1) (hr:d.room<=16384) (hNb:Nb<=1000000) (hN0:29<=Nb) (hd:bH d d1) (h:Sep B w0 w (TL C x d1 P (U::l))) (I:DI (gi x) d.room) (Mf:DI S' d.room) (hF:Fin S') (he:kA cq d.room d key ed C.root (gi x)=some ((r,er),S')),Calls Tryz.prog 45 #[ptr C.tq,.string key,.func (.func 62) #[] #[c1,c2]] w (GH B w0 C S' d P l U U' r er)):=by
 refine⟨have jq:=trivial; ?_,have fC:=trivial; ?_⟩
 all_goals
  intro T hst dY fc tO hlf hel hr hNb hN0 hd h I Mf hF he;have S1:Hid (Sep B w0 ((w.alloc (.map #[] 0)).alloc (.cells #[ptr C.tq,.map (some w.heap.size),.slice none 0 0,.slice none 0 0,.int .i64 0] 140)) (DL (C.He (w.heap.size+1)) (gi x) d1 P (U::l))):=TL.draft h
  first
   |have zz:=jq
    have KR:Hid (Calls Tryz.prog 65 #[ptr (w.heap.size+1),.string key,.func (.func 46) #[] #[c1,c2]] ((w.alloc (.map #[] 0)).alloc (.cells #[ptr C.tq,.map (some w.heap.size),.slice none 0 0,.slice none 0 0,.int .i64 0] 140)) (GT B w0 (C.He (w.heap.size+1)) S' d P l U U' r er)):=Ez.1 T (hst _) (fun h1 h2=>dY h1 h2) (fun h=>fc h) (tO _) hlf hel hr hNb hN0 hd S1.out I he
   |have KR:Hid (Calls Tryz.prog 65 #[ptr (w.heap.size+1),.string key,.func (.func 62) #[] #[c1,c2]] ((w.alloc (.map #[] 0)).alloc (.cells #[ptr C.tq,.map (some w.heap.size),.slice none 0 0,.slice none 0 0,.int .i64 0] 140)) (GT B w0 (C.He (w.heap.size+1)) S' d P l U U' r er)):=Ez.2 T (hst _) (fun h1 h2=>dY h1 h2) (fun h=>fc h) (tO _) hlf hel hr hNb hN0 hd S1.out I he
  have IS:Hid (DI S' d.room):=Mf;have HF:Hid (Fin S'):=hF;have HX:Hid (d.room<=16384):=hr;clear hlf h hd I he hst dY fc tO hel hr hNb hN0 S1 Mf hF;have hmk:=Ul w;go_enter Tryz.func45,Tryz.ntmps45
  go_wp2_with fail
  clear hmk;generalize(w.alloc (.map #[] 0)).alloc (.cells #[ptr C.tq,.map (some w.heap.size),.slice none 0 0,.slice none 0 0,.int .i64 0] 140)=v1 at*;generalize w.heap.size+1=q at*;refine Calls.mono KR.out ?_;rintro e v2 ⟨P1,d2,V,hs,hV,QE,rfl,hd2,s2⟩;have HV:Hid ((V=U∨V=U')∧(er=0->V=U')):=⟨hV,QE⟩;have M1:Hid (∀x∈P,x∈P1):=hs;have D2:Hid (bH d d2):=hd2;have S2:Hid (Sep B w0 v2 (DL (C.He q) S' d2 P1 (V::l))):=s2;clear KR hs hV QE hd2 s2;by_cases e0:er≠0
  ·have hne:(er != 0)=true:=bne_iff_ne.2 e0;have Md:Hid (er≠0):=e0;have KU:Hid (Calls Tryz.prog 66 #[ptr q] v2 fun e w'=>e=.returned (.tuple #[])∧Sep B w0 w' (DL (C.He q) (S'.wx (aJ S'.x S'.taken)) d2 P1 (V::l))):=TZ (room:=d.room) S2.out IS.out.ok HX.out HF.out.tl HF.out.tw;clear e0 S2
   go_wp2_with fail
   refine Calls.mono KU.out ?_;rintro e v3 ⟨rfl,s3⟩;have S3:Hid (Sep B w0 v3 (TL (C.He q) (aJ S'.x S'.taken) d2 P1 (V::l))):=Sep.drop (Sep.pk [_,_,_,_] (s3));obtain⟨ts,⟨t0,t1,t2⟩,tf⟩:=Sep.Co (Sep.pk [_,_] (S3.out));have f2:=tf 2;have ts':C.tq<v3.heap.size:=ts;have t2':v3.cell? ⟨C.tq,2,none⟩=some (.int .i64 C.err):=t2;have f2':v3.frozen? ⟨C.tq,2,none⟩=false:=f2;have SF:Hid (Sep B w0 (v3.setCell ⟨C.tq,2,none⟩ (.int .i64 er)) (TL (C.AH er) (aJ S'.x S'.taken) d2 P1 (V::l))):=Sep.Xa (C:=C.He q) S3.out er;clear KU s3 S3 tf f2 t0 t1 t2 ts;go_wp2;go_ret;exact⟨rfl,P1,d2,V,M1.out,HV.out.1,HV.out.2,D2.out,.inl ⟨Md.out,SF.out⟩⟩
  ·have ez:er=0:=by simpa using e0
   subst ez;have yE:Hid (V=U'):=HV.out.2 rfl;have KW:Hid (Calls Tryz.prog 67 #[ptr q] v2 fun e w'=>e=.returned (.tuple #[])∧∃L,(L.Pairwise (· < ·)∧∀k,k∈L↔(S'.nodes k).isSome=true)∧Sep B w0 w' (DL (C.He q) (S'.wx (cQ S'.nodes (aJ S'.x S'.spare) L)) d2 P1 (V::l))):=Pt (room:=d.room) S2.out IS.out HX.out HF.out.sl HF.out.sw HF.out.cn HF.out.xc HF.out.kw;clear e0 S2 HV
   go_wp2_with fail
   refine Calls.mono KW.out ?_;rintro e v3 ⟨rfl,L,hL,s3⟩;have HL:Hid (L.Pairwise (· < ·)∧∀k,k∈L↔(S'.nodes k).isSome=true):=hL;have S3:Hid (Sep B w0 v3 (TL (C.He q) (cQ S'.nodes (aJ S'.x S'.spare) L) d2 P1 (V::l))):=Sep.drop (Sep.pk [_,_,_,_] (s3));obtain⟨ts,⟨t0,t1,t2⟩,tf⟩:=Sep.Co (Sep.pk [_,_] (S3.out));have f1:=tf 1;have ts':C.tq<v3.heap.size:=ts;have t1':v3.cell? ⟨C.tq,1,none⟩=some (.int .i64 C.root):=t1;have f1':v3.frozen? ⟨C.tq,1,none⟩=false:=f1;have SF:Hid (Sep B w0 (v3.setCell ⟨C.tq,1,none⟩ (.int .i64 r)) (TL (C.eV r) (cQ S'.nodes (aJ S'.x S'.spare) L) d2 P1 (V::l))):=Sep.Um (C:=C.He q) S3.out r;clear KW s3 S3 tf f1 t0 t1 t2 ts hL;go_wp2;go_ret;exact⟨rfl,P1,d2,V,M1.out,.inr yE.out,fun _=>yE.out,D2.out,.inr ⟨rfl,L,HL.out,SF.out⟩⟩
end
end
section
open N (Nd nd0 cF dF dZ jo gG Sm dD En Bn zj lI qF iF)
section
variable {B:Nat}{w0 w w':World}{l:List aM}{P:List NV}{C:Cx}{S S':Dr}{x:TX}{d d1:Dk}{r er Nb:Int}{cq:qV}{key val:ByteArray}{es0:List En}{qk qv:Nat}
theorem Sep.fq {q1 q2:Nat}{o1 o2:Obj}(h:Sep B w0 w (Both (aF q1 o1) (aF q2 o2)::l)):Sep B w0 w (aF q1 o1::aF q2 o2::l):=h.map fun _=>Hp.part (aU _ _) (aU _ _)
theorem Sep.c1 {q:Nat}{a:Value}{ty:TypeId}(h:Sep B w0 w (aF q (.cells #[a] ty)::l)):q<w.heap.size∧w.cell? ⟨q,0,none⟩=some a∧w.frozen? ⟨q,0,none⟩=false:=by
 have hb:=h.blk;exact⟨(Array.getElem?_eq_some_iff.1 hb).1,by simp[World.cell?,hb],by simp[World.frozen?,hb]⟩
theorem DL.Xb {v:Value}{es:List En}(h:Sep B w0 w (DL C S d P l))(ho:Own N.ax 2 w.heap.size w' v es)(hb:Below w.heap.size w w'):∃ao cc,v=.slice ao es.length cc∧Sep B w0 w' (DL C S d ((⟨ao,cc,none,0,none,0,⟨true,es,[],[]⟩⟩:NV)::P) l):=by
 obtain⟨ao,cc,rfl,hr⟩:=id ho;exact⟨ao,cc,rfl,DL.add (p:=⟨ao,cc,none,0,none,0,⟨true,es,[],[]⟩⟩) h hb ⟨ho,Own.nil,Own.nil⟩⟩
theorem Un:nN B w0 C 46 (.pointer (some ⟨qk,0,none⟩)) (.pointer (some ⟨qv,0,none⟩)) (fun es=>Bn es key val) es0 (Both (aF qk (.cells #[.string key] 9)) (aF qv (.cells #[.string val] 9))) (Both (aF qk (.cells #[.string key] 9)) (aF qv (.cells #[.string val] 9))):=by
 intro w S d P l p h hp hl he0;have h2:=Sep.fq (Sep.pk [_,_,_,_,_] (h));obtain⟨ks,k0,_⟩:=Sep.c1 h2;obtain⟨vs,v0,_⟩:=Sep.c1 (Sep.pk [_] h2);have K:Hid _:=N.IL (.slice p.ae p.n.es.length p.ce) p.n.es key val w (DL.nd h hp).e (by omega);have HS:Hid (Sep B w0 w (DL C S d P ((Both (aF qk (.cells #[.string key] 9)) (aF qv (.cells #[.string val] 9)))::l))):=h;clear h h2 hp hl he0;go_enter Tryz.func46,Tryz.ntmps46
 go_wp2_with fail
 refine Calls.mono K.out ?_;rintro e w1 ⟨v,rfl,ho,hb⟩;obtain⟨ao,cc,rfl,s1⟩:=DL.Xb HS.out ho hb;have SF:Hid _:=s1;clear K HS ho hb s1;go_wp2;go_ret;exact⟨ao,cc,rfl,SF.out⟩
theorem Uo:nN B w0 C 62 (.pointer (some ⟨qk,0,none⟩)) (.pointer (some ⟨qv,0,none⟩)) (fun es=>zj es key) es0 (Both (aF qk (.cells #[.string key] 9)) (aF qv (.cells #[.bool false] 4))) (Both (aF qk (.cells #[.string key] 9)) (aF qv (.cells #[.bool (lI es0 key)] 4))):=by
 intro w S d P l p h hp hl he0;have h2:=Sep.fq (Sep.pk [_,_,_,_,_] (h));obtain⟨ks,k0,_⟩:=Sep.c1 h2;have KG:Hid _:=N.Du (.slice p.ae p.n.es.length p.ce) p.n.es key w (DL.nd h hp).e (by omega);have hg1:lI p.n.es key=lI es0 key:=by rw[he0]
 rw[hg1]at KG;clear hg1;have HP:Hid (p∈P∧p.n.es.length<=500∧p.n.es=es0):=⟨hp,hl,he0⟩;have HS:Hid (Sep B w0 w (DL C S d P ((Both (aF qk (.cells #[.string key] 9)) (aF qv (.cells #[.bool false] 4)))::l))):=h;clear h h2 hp hl he0;generalize lI es0 key=gb at*;generalize qF p.n.es key=gv at*;go_enter Tryz.func62,Tryz.ntmps62
 go_wp2_with fail
 refine Calls.mono KG.out ?_;rintro e w1 ⟨rfl,b1⟩;have h3:=Sep.fq (Sep.pk [_,_,_,_,_] ((HS.out.below b1)));obtain⟨iK,k1,_⟩:=Sep.c1 h3;obtain⟨vs1,v1,f1⟩:=Sep.c1 (Sep.pk [_] h3);have hne:qk≠qv:=Sep.ne h3;have hne':=hne.symm;have S2:Hid (Sep B w0 (w1.setCell ⟨qv,0,none⟩ (.bool gb)) (DL C S d P ((Both (aF qk (.cells #[.string key] 9)) (aF qv (.cells #[.bool gb] 4)))::l))):=by
  have h4:=Sep.ml (x:=.bool gb) (Sep.pk [_] h3) 0;exact Sep.pb [_,_,_,_,_] (Sep.join (Sep.pk [_] h4))
 have h5:=Sep.fq (Sep.pk [_,_,_,_,_] (S2.out));obtain⟨iZ,k2,_⟩:=Sep.c1 h5;have KE:Hid _:=N.Bo (.slice p.ae p.n.es.length p.ce) p.n.es key _ (DL.nd S2.out HP.out.1).e (by have:=HP.out;omega);clear h3 h5 KG HS b1
 go_wp2_with fail
 refine Calls.mono KE.out ?_;rintro e w3 ⟨v,rfl,ho,hb⟩;obtain⟨ao,cc,rfl,s3⟩:=DL.Xb S2.out ho hb;have SF:Hid _:=s3;clear KE S2 ho hb s3;go_wp2;go_ret;exact⟨ao,cc,rfl,SF.out⟩
def GK (B:Nat)(w0:World)(C:Cx)(S:Dr)(d:Dk)(P:List NV)(l:List aM)(r er:Int)(w':World):Prop:=
 ∃P' d',(∀x∈P,x∈P')∧bH d d'∧((er≠0∧Sep B w0 w' (TL (C.AH er) (aJ S.x S.taken) d' P' l))∨(er=0∧∃L,(L.Pairwise (· < ·)∧∀k,k∈L↔(S.nodes k).isSome=true)∧Sep B w0 w' (TL (C.eV r) (cQ S.nodes (aJ S.x S.spare) L) d' P' l)))
theorem rz (w:World)(q:Nat):Calls Tryz.prog 43 #[ptr q] w fun e w'=>e=.returned (ptr q)∧w=w':=by
 unfold ptr;go_enter Tryz.func43,Tryz.ntmps43;go_wp2;go_ret;exact⟨rfl,rfl⟩
theorem Uq (T:bW B w0)(hst:∀C:Cx,aW B w0 C d Nb cq)(dY:∀ {S S':Dr} {n:Nd} {depth i tt:Int} {r:Nd×Int},DI S d.room->cq S n depth i tt=some (r,S')->DI S' d.room)(fc:∀ {S9 S8:Dr} {n9:Nd} {i9 j9 k9:Int} {r9:Nd×Int},cq S9 n9 i9 j9 k9=some (r9,S8)->cB n9=true)(hel:∀es,((fun es=>Bn es key val) es).length<=es.length+1)(hr:d.room<=16384)(hNb:Nb<=1000000)(hN0:29<=Nb)(hd:bH d d1)(h:Sep B w0 w (TL C x d1 P l))(I:DI (gi x) d.room)(Mf:DI S' d.room)(hF:Fin S')(hlf:uu d key es0 30 (gi x) ⟨false,[],[C.root],[]⟩ (-1))(he:kA cq d.room d key (fun es=>Bn es key val) C.root (gi x)=some ((r,er),S'))(h0:C.err=0)(h1:iF key val=0):Calls Tryz.prog 18 #[ptr C.tq,.string key,.string val] w fun e w'=>e=.returned (.int .i64 er)∧GK B w0 C S' d P l r er w':=by
 have S1:Hid (Sep B w0 ((w.alloc (.cells #[.string key] 9)).alloc (.cells #[.string val] 9)) (TL C x d1 P ((Both (aF w.heap.size (.cells #[.string key] 9)) (aF (w.heap.size+1) (.cells #[.string val] 9)))::l))):=Sep.pb [_,_,_,_] (Sep.join (Sep.sR (Sep.aZ (Sep.aO h _) _ (w.heap.size+1) (by simp))));have KG:Hid _:=rz ((w.alloc (.cells #[.string key] 9)).alloc (.cells #[.string val] 9)) C.tq;have KK:Hid _:=N.iT key val ((w.alloc (.cells #[.string key] 9)).alloc (.cells #[.string val] 9));rw[h1]at KK;have KC:Hid (Calls Tryz.prog 45 #[ptr C.tq,.string key,.func (.func 46) #[] #[.pointer (some ⟨w.heap.size,0,none⟩),.pointer (some ⟨w.heap.size+1,0,none⟩)]] ((w.alloc (.cells #[.string key] 9)).alloc (.cells #[.string val] 9)) (GH B w0 C S' d P l (Both (aF w.heap.size (.cells #[.string key] 9)) (aF (w.heap.size+1) (.cells #[.string val] 9))) (Both (aF w.heap.size (.cells #[.string key] 9)) (aF (w.heap.size+1) (.cells #[.string val] 9))) r er)):=wh.1 T hst (fun h1 h2=>dY h1 h2) (fun h=>fc h) (fun C=>Un) hlf hel hr hNb hN0 hd S1.out I Mf hF he;obtain⟨ts,⟨t0,t1,t2⟩,_⟩:=Sep.Co (Sep.pk [_,_] (h));rw[h0]at t2;clear h h0 h1 hst dY fc hel hr hNb hN0 hd I Mf hF hlf he S1;go_enter Tryz.func18,Tryz.ntmps18
 go_wp2_with fail
 refine Calls.mono KG.out ?_;rintro e w1 ⟨rfl,rfl⟩;clear KG
 go_wp2_with fail
 refine Calls.mono KK.out ?_;rintro e w1 ⟨rfl,rfl⟩;clear KK
 go_wp2_with fail
 refine Calls.mono KC.out ?_;rintro e w2 ⟨rfl,P',d',V,a1,a2,a3,a4,a5⟩;have HG:Hid (GK B w0 C S' d P l r er w2):=by
  refine⟨P',d',a1,a4,?_⟩;rcases a5 with⟨b1,b2⟩| ⟨b1,L,b2,b3⟩
  ·exact .inl ⟨b1,Sep.drop (Sep.pk [_,_,_,_] (b2))⟩
  ·exact .inr ⟨b1,L,b2,Sep.drop (Sep.pk [_,_,_,_] (b3))⟩
 clear KC a1 a2 a3 a4 a5;go_wp2;go_ret;exact⟨rfl,HG.out⟩
end
end
section
open N (Nd nd0 cF dF dZ jo gG Sm dD En Bn zj lI qF iF)
section
variable {B:Nat}{w0 w w':World}{l:List aM}{P:List NV}{C:Cx}{S S':Dr}{x:TX}{d d1:Dk}{r er Nb:Int}{cq:qV}{key val:ByteArray}{es0:List En}{qk qv:Nat}
theorem Ur (T:bW B w0)(hst:∀C:Cx,aW B w0 C d Nb cq)(dY:∀ {S S':Dr} {n:Nd} {depth i tt:Int} {r:Nd×Int},DI S d.room->cq S n depth i tt=some (r,S')->DI S' d.room)(fc:∀ {S9 S8:Dr} {n9:Nd} {i9 j9 k9:Int} {r9:Nd×Int},cq S9 n9 i9 j9 k9=some (r9,S8)->cB n9=true)(hel:∀es,((fun es=>zj es key) es).length<=es.length+1)(hr:d.room<=16384)(hNb:Nb<=1000000)(hN0:29<=Nb)(hd:bH d d1)(h:Sep B w0 w (TL C x d1 P l))(I:DI (gi x) d.room)(Mf:DI S' d.room)(hF:Fin S')(hlf:uu d key es0 30 (gi x) ⟨false,[],[C.root],[]⟩ (-1))(he:kA cq d.room d key (fun es=>zj es key) C.root (gi x)=some ((r,er),S'))(h0:C.err=0):Calls Tryz.prog 39 #[ptr C.tq,.string key] w fun e w'=>e=.returned (.tuple #[.bool (lI es0 key&&decide (er=0)),.int .i64 er])∧GK B w0 C S' d P l r er w':=by
 have S1:Hid (Sep B w0 ((w.alloc (.cells #[.string key] 9)).alloc (.cells #[.bool false] 4)) (TL C x d1 P ((Both (aF w.heap.size (.cells #[.string key] 9)) (aF (w.heap.size+1) (.cells #[.bool false] 4)))::l))):=Sep.pb [_,_,_,_] (Sep.join (Sep.sR (Sep.aZ (Sep.aO h _) _ (w.heap.size+1) (by simp))));have KG:Hid _:=rz (w.alloc (.cells #[.string key] 9)) C.tq;have KC:Hid (Calls Tryz.prog 45 #[ptr C.tq,.string key,.func (.func 62) #[] #[.pointer (some ⟨w.heap.size,0,none⟩),.pointer (some ⟨w.heap.size+1,0,none⟩)]] ((w.alloc (.cells #[.string key] 9)).alloc (.cells #[.bool false] 4)) (GH B w0 C S' d P l (Both (aF w.heap.size (.cells #[.string key] 9)) (aF (w.heap.size+1) (.cells #[.bool false] 4))) (Both (aF w.heap.size (.cells #[.string key] 9)) (aF (w.heap.size+1) (.cells #[.bool (lI es0 key)] 4))) r er)):=wh.2 T hst (fun h1 h2=>dY h1 h2) (fun h=>fc h) (fun C=>Uo) hlf hel hr hNb hN0 hd S1.out I Mf hF he;obtain⟨ts,⟨t0,t1,t2⟩,_⟩:=Sep.Co (Sep.pk [_,_] (h));rw[h0]at t2;generalize lI es0 key=gb at*;clear h h0 hst dY fc hel hr hNb hN0 hd I Mf hF hlf he S1;go_enter Tryz.func39,Tryz.ntmps39
 go_wp2_with fail
 refine Calls.mono KG.out ?_;rintro e w1 ⟨rfl,rfl⟩;clear KG
 go_wp2_with fail
 generalize(w.alloc (.cells #[.string key] 9)).alloc (.cells #[.bool false] 4)=w2 at*;generalize w.heap.size+1=q1 at*;generalize w.heap.size=q0 at*;refine Calls.mono KC.out ?_;rintro e w3 ⟨rfl,P',d',V,a1,a2,a3,a4,a5⟩;have FI:Hid (GK B w0 C S' d P l r er w3):=by
  refine⟨P',d',a1,a4,?_⟩;rcases a5 with⟨b1,b2⟩| ⟨b1,L,b2,b3⟩
  ·exact .inl ⟨b1,Sep.drop (Sep.pk [_,_,_,_] (b2))⟩
  ·exact .inr ⟨b1,L,b2,Sep.drop (Sep.pk [_,_,_,_] (b3))⟩
 obtain⟨C2,x2,hS⟩:∃C2 x2,Sep B w0 w3 (TL C2 x2 d' P' (V::l)):=by
  rcases a5 with⟨b1,b2⟩| ⟨b1,L,b2,b3⟩
  ·exact⟨_,_,b2⟩
  ·exact⟨_,_,b3⟩
 have HA:Hid (er=0->V=(Both (aF q0 (.cells #[.string key] 9)) (aF q1 (.cells #[.bool gb] 4)))):=a3;clear KC a1 a4 a5 a3 t0 t1 t2 ts;by_cases e0:er=0
 ·subst e0;have hV:=HA.out rfl;subst hV;have S3:Hid (Sep B w0 w3 (TL C2 x2 d' P' ((Both (aF q0 (.cells #[.string key] 9)) (aF q1 (.cells #[.bool gb] 4)))::l))):=hS;clear hS a2 HA;cases gb with
  |false=>
   obtain⟨vs,v1,_⟩:=Sep.c1 (Sep.pk [_] (Sep.fq (Sep.pk [_,_,_,_] (S3.out))));have HG:Hid (GK B w0 C S' d P l r 0 w3):=FI.out;clear S3 FI;go_wp2;go_ret2;exact⟨rfl,HG.out⟩
  |true=>
   obtain⟨vs,v1,_⟩:=Sep.c1 (Sep.pk [_] (Sep.fq (Sep.pk [_,_,_,_] (S3.out))));have HG:Hid (GK B w0 C S' d P l r 0 w3):=FI.out;clear S3 FI;go_wp2;go_ret2;exact⟨rfl,HG.out⟩
 ·have hne:(er==0)=false:=beq_eq_false_iff_ne.2 e0;have HN:Hid (er≠0):=e0;rcases a2 with rfl|rfl
  ·have S3:Hid (Sep B w0 w3 (TL C2 x2 d' P' ((Both (aF q0 (.cells #[.string key] 9)) (aF q1 (.cells #[.bool false] 4)))::l))):=hS;clear hS HA e0;obtain⟨vs,v1,_⟩:=Sep.c1 (Sep.pk [_] (Sep.fq (Sep.pk [_,_,_,_] (S3.out))));have HG:Hid (GK B w0 C S' d P l r er w3):=FI.out;clear S3 FI;go_wp2;go_ret2;exact⟨by simp[HN.out],HG.out⟩
  ·have S3:Hid (Sep B w0 w3 (TL C2 x2 d' P' ((Both (aF q0 (.cells #[.string key] 9)) (aF q1 (.cells #[.bool gb] 4)))::l))):=hS;clear hS HA e0;cases gb with
   |false=>
    obtain⟨vs,v1,_⟩:=Sep.c1 (Sep.pk [_] (Sep.fq (Sep.pk [_,_,_,_] (S3.out))));have HG:Hid (GK B w0 C S' d P l r er w3):=FI.out;clear S3 FI;go_wp2;go_ret2;exact⟨by simp[HN.out],HG.out⟩
   |true=>
    obtain⟨vs,v1,_⟩:=Sep.c1 (Sep.pk [_] (Sep.fq (Sep.pk [_,_,_,_] (S3.out))));have HG:Hid (GK B w0 C S' d P l r er w3):=FI.out;clear S3 FI;go_wp2;go_ret2;exact⟨by simp[HN.out],HG.out⟩
end
end
namespace P
open N (Nd nd0 cF dF dZ jo gG Sm dD En Bn zj lI qF iF cJ im jD iv lT gN iC Rg bB aV)
theorem CM {d:Dk}{key:ByteArray}{es:List En}:∀(f:Nat) (S:Dr) (n:Nd) (depth:Int),GG d key es f S n depth->uu d key es f S n depth
 |0,_,_,_,_=>trivial
 |f+1,S,n,depth,h=>by
  rw[GG]at h;rw[uu];split
  ·rename_i hl
   rw[if_pos hl]at h;exact h
  ·rename_i hl
   rw[if_neg hl]at h;exact fun h0=>CM f S _ _ (h h0)
theorem EM {α:Type}[DecidableEq α]:∀ {l m:List α},l.Nodup->(∀a∈l,a∈m)->l.length<=m.length
 |[],_,_,_=>Nat.zero_le _
 |x::l,m,nd,hs=>by
  obtain⟨n1,n2⟩:=List.nodup_cons.1 nd;have h1:=EM (l:=l) (m:=m.erase x) n2 (fun a ha=>(List.mem_erase_of_ne (fun e=>n1 (by rw[<-e];exact ha))).2 (hs a (List.mem_cons_of_mem _ ha)));have h2:=List.length_erase_of_mem (hs x (List.mem_cons_self ..));have h3:0<m.length:=List.length_pos_of_mem (hs x (List.mem_cons_self ..));rw[List.length_cons];omega
theorem yn (x:En):∀l,(lT x l).length=l.length+1
 |[]=>rfl
 |y::l=>by
  unfold lT;split
  ·simp
  ·simp[yn x l]
theorem EN (key val:ByteArray)(es:List En):(QN key val es).length<=es.length+1:=by
 unfold QN jD iv;split
 ·rw[yn];have:=List.length_filter_le (fun x:En=>!decide (x.1=key)) es;omega
 ·omega
theorem PT (key:ByteArray)(es:List En):(Vg key es).length<=es.length+1:=by
 unfold Vg iv;split
 ·have:=List.length_filter_le (fun x:En=>!decide (x.1=key)) es;omega
 ·omega
section
variable {B:Nat}{w0 w:World}{C:Cx}{x:TX}{d d1:Dk}{P:List NV}{l:List aM}{key val:ByteArray}{E:List En}{X:List Int}{H:Nat}
theorem Sd.di {room:Nat}{S:Dr}(h:Sd room S):DI S room:=⟨h.x,h.bz,h.fi⟩
theorem Sd.fin {room:Nat}{S:Dr}(hr:room<=16384)(h:Sd room S)(h1:S.taken.length<=100000)(h2:S.spare.length<=100000)(h3:S.cnt<=100000)(h4:S.x.cnt+S.cnt<1000000):Fin S:=by
 have key:∀k,(S.x.fresh k).isSome=true->Wf k:=fun k hk=>by
  have:=h.x.fs k hk;have:=h.x.pr;exact⟨by omega,by omega⟩
 exact⟨h1,fun k hk=>key k (h.tk k hk),h2,fun k hk=>key k (h.sp k hk),h3,h4,fun k hk=>key k (h.nf k hk).1⟩
theorem QP (room:Nat)(d:Dk)(f:Nat):∀ {S S':Dr} {n:Nd} {depth i tt:Int} {r:Nd×Int},DI S room->bn room d f S n depth i tt=some (r,S')->DI S' room:=fun h he=>DI.settle f h he
theorem QQ (room:Nat)(d:Dk)(f:Nat):∀ {S9 S8:Dr} {n9:Nd} {i9 j9 k9:Int} {r9:Nd×Int},bn room d (f+1) S9 n9 i9 j9 k9=some (r9,S8)->cB n9=true:=fun {S9 S8 n9 i9 j9 k9 r9} he=>by
 unfold bn at he;rw[bf]at he;cases hs:cB n9 with
 |true=>rfl
 |false=>rw[if_pos (.inl hs)]at he;cases he
def GX (B:Nat)(w0:World)(C:Cx)(x:TX)(d:Dk)(P:List NV)(l:List aM)(X:List Int)(H:Nat)(E':List En)(er:Int)(w':World):Prop:=
 ∃P' d',(∀y∈P,y∈P')∧bH d d'∧((er=2∧(Mn d.room x X->x.cap d.room<=4*H+4)∧∃x',Sep B w0 w' (TL (C.AH 2) x' d' P' l))∨
  (er=0∧∃x' r X' H',Tx d.room d x' r E' X' H'∧(Mn d.room x X->Mn d.room x' X')∧x'.cnt<=x.cnt+X.length+4*H+6+X'.length∧Sep B w0 w' (TL (C.eV r) x' d' P' l)))
theorem QR {S':Dr}{r er:Int}{E':List En}{w':World}(g:GK B w0 C S' d P l r er w')(h1:er≠0->er=2∧(Mn d.room x X->x.cap d.room<=4*H+4))(h2:S'.x.cnt<=x.cnt+X.length+4*H+6)
  (h3:er=0->∃X' H',∀L,(∀k,k∈L↔(S'.nodes k).isSome=true)->Tx d.room d (cQ S'.nodes (aJ S'.x S'.spare) L) r E' X' H'∧(Mn d.room x X->Mn d.room (cQ S'.nodes (aJ S'.x S'.spare) L) X')∧(cQ S'.nodes (aJ S'.x S'.spare) L).cnt=S'.x.cnt+L.length∧∀k∈L,k∈X'):GX B w0 C x d P l X H E' er w':=by
 obtain⟨P',d',m1,m2,m3⟩:=g;refine⟨P',d',m1,m2,?_⟩;rcases m3 with⟨he,s⟩| ⟨he,L,⟨lp,lm⟩,s⟩
 ·obtain⟨e2,hc⟩:=h1 he;subst e2;exact .inl ⟨rfl,hc,_,s⟩
 ·obtain⟨X',H',q⟩:=h3 he;obtain⟨q1,q2,q3,q4⟩:=q L lm;have nd:L.Nodup:=lp.imp fun hab e=>by omega
  have hl:=EM nd q4;exact .inr ⟨he,_,r,X',H',q1,q2,by omega,s⟩
theorem Ut (T:bW B w0)(hr:d.room<=16384)(hd:bH d d1)(h:Sep B w0 w (TL C x d1 P l))(h0:C.err=0)(hm:cJ key val=true)(TT:Tx d.room d x C.root E X H)(hX:X.length<=3000)(hH:H<=20)(hc:x.cnt<=800000):
  Calls Tryz.prog 18 #[ptr C.tq,.string key,.string val] w fun e w'=>∃er,e=.returned (.int .i64 er)∧GX B w0 C x d P l X H (jD E key val) er w':=by
 obtain⟨es,r,er,S',lf,g1,g2,⟨b1,b2,b3,b4⟩,g3,g4,g5⟩:=QO (f:=10000) (m:=0) hr (PQ hm) TT (by omega) (by omega) ⟨by show 0+_<_;omega,by show x.cnt+_<_;omega,by show 0+_<_;omega,by show 0+_<_;omega⟩;have hE:=TT.ts.rg;refine(Uq (es0:=es) (cq:=bn d.room d 10000) (Nb:=90000) T (fun C=>tM T hr 10000) (QP d.room d 10000) (QQ d.room d 9999) (EN key val) hr (by omega) (by omega) hd h TT.ts.sd.di g2.di (g2.fin hr (by omega) (by omega) (by omega) (by omega)) (CM _ _ _ _ lf) g1 h0 (by unfold iF;rw[if_pos hm])).mono fun e w' hh=>?_;obtain⟨he,gk⟩:=hh;refine⟨er,he,QR gk g3 b2 fun h00=>?_⟩;obtain⟨X',H',E',EL,ER,q1,q2,q3⟩:=g5 h00;refine⟨X',H',fun L hL=>?_⟩;obtain⟨t1,t2,t3,t4⟩:=q3 L hL;have eE:=q1.put hm hE t1.ts.rg;rw[eE]at t1;exact⟨t1,t2,t3,t4⟩
theorem Uu (T:bW B w0)(hr:d.room<=16384)(hd:bH d d1)(h:Sep B w0 w (TL C x d1 P l))(h0:C.err=0)(TT:Tx d.room d x C.root E X H)(hX:X.length<=3000)(hH:H<=20)(hc:x.cnt<=800000):
  Calls Tryz.prog 39 #[ptr C.tq,.string key] w fun e w'=>∃er,e=.returned (.tuple #[.bool (gN E key&&decide (er=0)),.int .i64 er])∧GX B w0 C x d P l X H (iv E key) er w':=by
 obtain⟨es,r,er,S',lf,g1,g2,⟨b1,b2,b3,b4⟩,g3,⟨EL,ER,rfl,lo,hi⟩,g5⟩:=QO (f:=10000) (m:=0) hr (PR key) TT (by omega) (by omega) ⟨by show 0+_<_;omega,by show x.cnt+_<_;omega,by show 0+_<_;omega,by show 0+_<_;omega⟩;have hE:=TT.ts.rg;have hg:lI es key=gN (EL++(es++ER)) key:=by
  unfold lI;rw[N.gO (px hE),Bool.true_and,AE lo hi]
 refine(Ur (es0:=es) (cq:=bn d.room d 10000) (Nb:=90000) T (fun C=>tM T hr 10000) (QP d.room d 10000) (QQ d.room d 9999) (PT key) hr (by omega) (by omega) hd h TT.ts.sd.di g2.di (g2.fin hr (by omega) (by omega) (by omega) (by omega)) (CM _ _ _ _ lf) g1 h0).mono fun e w' hh=>?_;obtain⟨he,gk⟩:=hh;refine⟨er,by rw[<-hg];exact he,QR gk g3 b2 fun h00=>?_⟩;obtain⟨X',H',E',EL',ER',q1,q2,q3⟩:=g5 h00;refine⟨X',H',fun L hL=>?_⟩;obtain⟨t1,t2,t3,t4⟩:=q3 L hL;have eE:=q1.del hE t1.ts.rg;rw[eE]at t1;exact⟨t1,t2,t3,t4⟩
end
end P
section
open N (Nd nd0 cF dF dZ jo gG Sm dD En Bn zj lI qF iF bc hidR ar ai Ch aP ah waits)
def Lm (B:Nat)(w0:World)(C:Cx)(x:TX)(c1 c2 c3:Value)(es0:List En)(U U':aM):Prop:=
 ∀ {w:World} {d:Dk} {P:List NV} {l:List aM} {p:NV},Sep B w0 w (TL C x d P (U::l))->p∈P->p.n.es=es0->p.n.es.length<=500->
  Calls Tryz.prog 87 #[.slice p.ae p.n.es.length p.ce,c1,c2,c3] w fun e w'=>e=.returned (.tuple #[])∧Sep B w0 w' (TL C x d P (U'::l))
def JL (B:Nat)(w0:World)(C:Cx)(x:TX)(d:Dk)(P:List NV)(U:aM)(l:List aM)(q7:Nat)(cs:Array Value)(nn:Nd)(er:Int)(f9 f13:Bool)(v:Value)(w:World):Prop:=
 (f9=false->Sep B w0 w (TL C x d P (U::aF q7 (.cells cs 170)::l)))∧(f9=true->∃p d',p.n=nn∧v=.tuple #[.agg (cN p),.int .i64 er]∧gT d d' 2∧(f13=false->Sep B w0 w (TL C x d' (p::P) (U::aF q7 (.cells cs 170)::l)))∧(f13=true->Sep B w0 w (TL C x d' (p::P) (U::aF q7 (.cells (cN p) 170)::l))))∧(f13=true->f9=true)
section
variable {B:Nat}{w0 w:World}{l:List aM}{P:List NV}{C:Cx}{x:TX}{d d1:Dk}{key:ByteArray}{c1 c2 c3:Value}{es0:List En}{U U':aM}{m:Nd}{er:Int}
def GLf (B:Nat)(w0:World)(C:Cx)(x:TX)(d:Dk)(P:List NV)(U U':aM)(l:List aM)(er:Int)(e:Ending)(w':World):Prop:=
 e=.returned (.int .i64 er)∧∃P' d' V,(∀y∈P,y∈P')∧bH d d'∧(er=0->V=U')∧(er≠0->V=U)∧Sep B w0 w' (TL C x d' P' (V::l))
def JLr (B:Nat)(w0:World)(CC:Cx)(x:TX)(d:Dk)(P:List NV)(U:aM)(l:List aM)(nn:Nd)(er:Int)(q7 r ro Ve ck t:Nat)(kid dp:Int)(key:ByteArray)(cs:Array Value){y2 y3 y4 y5 y6 xC tF tG y13 uK qi qj tH xD xE y20 y21 y22 y23 y24 y25 zV y27 y28 y29 zW y31 y32 xI y34 uO uP BM BN BO BP BQ BR Jx:Value}(C:List Bool->Act->Prop)(w:World):Prop:=∀{f0 f1 f2 f3 f4 f5 f6 f7 f8 f9 f10 f11 f12 f13 f14:Bool}{x8 NK x38 x39 x40 x41 Yt x43 Yu Yv Yw Vh Yx Yy:Value},f14=false->JL B w0 CC x d P U l q7 cs nn er f9 f13 Vh w->Hid (f0=true->x38=ptr CC.tq)->Hid (f1=true->x39=.pointer (some ⟨q7,2,none⟩))->Hid (f2=true->x40=.slice (some ⟨r,ro,none⟩) Ve ck)->Hid (f3=true->x41=.agg cs)->Hid (f4=true->Yt=.string key)->Hid (f5=true->f3=true∧x43=.int .i64 (t:Int))->Hid (f6=true->f2=true∧f5=true∧Yu=.pointer (some ⟨r,ro+t,none⟩))->Hid (f7=true->f6=true∧Yv=.int .i64 kid)->Hid (f8=true->Yw=.int .i64 dp)->Hid (f9=true->f2=true∧f3=true∧f5=true∧f6=true∧f7=true∧True)->Hid (f10=true->f9=true∧NK=Vh)->Hid (f11=true->f9=true∧Vh=.tuple #[Yx,.int .i64 er])->Hid (f12=true->f9=true∧Yy=.int .i64 er)->Hid (f13=true->True)->C [f0,f1,f2,f3,f4,f5,f6,f7,f8,f9,f10,f11,f12,f13,f14] {tmps:=#[ptr CC.tq,.string key,y2,y3,y4,y5,y6,.pointer (some ⟨q7,0,none⟩),x8,.int .i64 dp,xC,tF,tG,y13,uK,qi,qj,tH,xD,xE,y20,y21,y22,y23,y24,y25,zV,y27,y28,y29,zW,y31,y32,xI,y34,uO,uP,NK,x38,x39,x40,x41,Yt,x43,Yu,Yv,Yw,Vh,Yx,Yy,BM,BN,BO,BP,BQ,BR,Jx],defers:=[]}
theorem Uv {f:Nat}(T:bW B w0)(hr:d.room<=16384)(ok:x.Ok d.room)(hz:x.Sz)(h0:C.err=0)(hu:Lm B w0 C x c1 c2 c3 es0 U U')(hw:Wf C.root)(hd:bH d d1)(h:Sep B w0 w (TL C x d1 P (U::l)))(he:Gu x d key f (dX x d C.root 0).1 (dX x d C.root 0).2 1=some (m,er))(hes:er=0->m.es=es0∧m.es.length<=500):
  Calls Tryz.prog 86 #[ptr C.tq,.string key,.func (.func 87) #[] #[c1,c2,c3]] w (GLf B w0 C x d P U U' l er):=by
 have Yz:Hid _:=xP (id:=C.root) (depth:=0) T h hw (by rw[hd.room];exact ok) (by rw[hd.room];exact hr) hz;rw[hd.dX]at Yz;have HU:Hid (Lm B w0 C x c1 c2 c3 es0 U U'):=hu;have HES:Hid (er=0->m.es=es0∧m.es.length<=500):=hes;have HX:Hid (d.room<=16384∧x.Ok d.room∧x.Sz):=⟨hr,ok,hz⟩;have HD0:Hid (bH d d1):=hd;have Md:Hid (Gu x d key f (dX x d C.root 0).1 (dX x d C.root 0).2 1=some (m,er)):=he;obtain⟨ts,⟨t0,t1,t2⟩,_⟩:=Sep.Co (Sep.pk [_,_] h);rw[h0]at t2;clear h hu hes hr ok hz hd he;generalize dX x d C.root 0=rr at*;obtain⟨n0,e0⟩:=rr;simp only at Yz Md;go_enter Tryz.func86,Tryz.ntmps86
 go_wp2_with fail
 refine Calls.mono Yz.out ?_;rintro e v1 ⟨p0,d2,hn0,rfl,hd2,s1⟩;subst hn0;unfold NV.v;have D2:Hid (bH d d2):=HD0.out.trans ⟨_,hd2⟩;have S1:Hid (Sep B w0 (v1.alloc (.cells (cN p0) 170)) (TL C x d2 (p0::P) (U::aF v1.heap.size (.cells (cN p0) 170)::l))):=Sep.pb [_,_,_,_,_] (Sep.aZ s1 _ _ rfl);clear Yz hd2 s1 t0 t1 t2 ts HD0;go_wp2;generalize v1.heap.size=q7 at*;generalize World.alloc _ _=v2 at*
 go_loopg [8,9] f (fun kx s8 s9 wr=>∃(g:Nat) (pc:NV) (Pc:List NV) (dc:Dk) (ec dp:Int),s8=.int .i64 ec∧s9=.int .i64 dp∧g<=kx∧Hid (1<=dp)∧Hid (Gu x d key g pc.n ec dp=some (m,er))∧Hid (pc∈Pc∧∀y∈P,y∈Pc)∧Hid (bH d dc)∧Hid (Sep B w0 wr (TL C x dc Pc (U::aF q7 (.cells (cN pc) 170)::l))))
 case atStart=>exact⟨f,p0,p0::P,d2,e0,1,rfl,rfl,Nat.le_refl _,(by show(1:Int)<=1;omega),Md.out,⟨List.mem_cons_self ..,fun _ h=>List.mem_cons_of_mem _ h⟩,D2.out,S1.out⟩
 case round=>
  clear S1 D2 Md;obtain⟨g,pc,Pc,dc,ec,dp,rfl,rfl,WL,HDP,HE,HP,HD,HS⟩:=hrel;cases g with
  |zero=>
   have:=HE.out;cases this
  |succ g=>
   have hE:=HE.out;unfold Gu at hE;obtain⟨_,⟨c0,c1',c2',c3'⟩,g0,g1,g2,g3⟩:=Sep.c4 (Sep.pk [_,_,_,_,_] HS.out);clear HE;by_cases hc:ec=0∧pc.n.leaf=false
   ·rw[if_pos hc]at hE;obtain⟨rfl,hlf⟩:=hc;by_cases hn:cB pc.n=false∨pc.n.ks.length<=dD pc.n.ss key∨1000<dp
    ·rw[if_pos hn]at hE;cases hE
    rw[if_neg hn]at hE;have hnn:cB pc.n=true∧dD pc.n.ss key<pc.n.ks.length∧dp<=1000:=by
     refine⟨?_,by omega,by omega⟩;cases hx:cB pc.n
     ·exact absurd (.inl hx) hn
     ·rfl
    obtain⟨hsm,hkl,hdp⟩:=hnn;obtain⟨lF,_,_,_,hwk⟩:=fe hsm;obtain⟨ae,ce,ak,ck,az,cz,n⟩:=pc;simp only at*;obtain⟨r,ro,rfl,_,_⟩:=NV.kid (p:=⟨ae,ce,ak,ck,az,cz,n⟩) (Sep.pool (Sep.pk [_,_,_] HS.out) _ HP.out.1) (i:=dD n.ss key) hkl;have HKW:Hid (Wf (n.ks.getD (dD n.ss key) 0)):=by
     refine hwk _ ?_;rw[List.getD_eq_getElem?_getD,List.getElem?_eq_getElem hkl];exact List.getElem_mem _
    have KC:Hid (∀u,Sep B w0 u (TL C x dc Pc (U::aF q7 (.cells #[.bool n.leaf,.slice ae n.es.length ce,.slice (some ⟨r,ro,none⟩) n.ks.length ck,.slice az n.ss.length cz] 170)::l))->Calls Tryz.prog 103 #[.agg #[.bool n.leaf,.slice ae n.es.length ce,.slice (some ⟨r,ro,none⟩) n.ks.length ck,.slice az n.ss.length cz],.string key] u fun e w'=>e=.returned (.int .i64 (dD n.ss key))∧Sep B w0 w' (TL C x dc Pc (U::aF q7 (.cells #[.bool n.leaf,.slice ae n.es.length ce,.slice (some ⟨r,ro,none⟩) n.ks.length ck,.slice az n.ss.length cz] 170)::l))):=fun u hu=>(N.oU n key _ _ _ u (Sep.pool (Sep.pk [_,_,_] hu) _ HP.out.1) lF).mono fun _ _ ⟨h1,h2⟩=>⟨h1,hu.below h2⟩;have hE2:Hid (Gu x d key g (dX x d (n.ks.getD (dD n.ss key) 0) dp).1 (dX x d (n.ks.getD (dD n.ss key) 0) dp).2 (dp+1)=some (m,er)):=hE;have MX:Hid ((⟨ae,ce,some ⟨r,ro,none⟩,ck,az,cz,n⟩:NV)∈Pc):=HP.out.1;have HTL:Hid (dD n.ss key<n.ks.length):=hkl;have Xc:Hid (1<=dp∧dp<=1000):=⟨HDP.out,hdp⟩;generalize xT:n.ks.getD (dD n.ss key) 0=kid at*;have HKD:Hid (n.ks.getD (dD n.ss key) 0=kid):=xT;have KR:Hid (∀u,Sep B w0 u (TL C x dc Pc (U::aF q7 (.cells #[.bool n.leaf,.slice ae n.es.length ce,.slice (some ⟨r,ro,none⟩) n.ks.length ck,.slice az n.ss.length cz] 170)::l))->Calls Tryz.prog 101 #[ptr C.tq,.int .i64 kid,.int .i64 dp] u (GN B w0 C x dc Pc (U::aF q7 (.cells #[.bool n.leaf,.slice ae n.es.length ce,.slice (some ⟨r,ro,none⟩) n.ks.length ck,.slice az n.ss.length cz] 170)::l) 2 (dX x d kid dp).1 (dX x d kid dp).2)):=fun u hu=>by
     have:=xP (id:=kid) (depth:=dp) T hu HKW.out (by rw[HD.out.room];exact HX.out.2.1) (by rw[HD.out.room];exact HX.out.1) HX.out.2.2
     rwa [HD.out.dX]at this
    rw[hlf]at c0;have HLF:Hid (n.leaf=false):=hlf;clear hE hn hsm lF hwk hkl hdp xT HDP
    go_wp2_with fail
    clear hlf c0 c1' c2' c3' g0 g1 g2 g3;refine bc 14 (JLr B w0 C x dc Pc U l (dX x d kid dp).1 (dX x d kid dp).2 q7 r ro n.ks.length ck (dD n.ss key) kid dp key #[.bool n.leaf,.slice ae n.es.length ce,.slice (some ⟨r,ro,none⟩) n.ks.length ck,.slice az n.ss.length cz]) (by kernel_rfl) (by kernel_rfl) (by kernel_rfl) (fun _ k=>k rfl ⟨fun _=>HS.out.drew,(fun h=>by cases h),fun h=>by cases h⟩ ar ar ar ar ar ar ar ar ar ar ar ar ar ar) ?_ ?_ ?_
    ·intro i w' hne f0 f1 f2 f3 f4 f5 f6 f7 f8 f9 f10 f11 f12 f13 f14 x8 NK x38 x39 x40 x41 Yt x43 Yu Yv Yw Vh Yx Yy e14 hB h0 h1 h2 h3 h4 h5 h6 h7 h8 h9 h10 h11 h12 dN hi;obtain⟨hlt,hun,_⟩:=aP hi;have hlt':i<15:=hlt;clear hlt;rcases(by omega:i=0∨i=1∨i=2∨i=3∨i=4∨i=5∨i=6∨i=7∨i=8∨i=9∨i=10∨i=11∨i=12∨i=13)with rfl|rfl|rfl|rfl|rfl|rfl|rfl|rfl|rfl|rfl|rfl|rfl|rfl|rfl
     ·refine ai rfl fun K HK=>?_;go_simp;exact HK.out _ _ fun _ k=>k e14 hB hidR h1 h2 h3 h4 h5 h6 h7 h8 h9 h10 h11 h12 dN
     ·refine ai rfl fun K HK=>?_;go_simp;exact HK.out _ _ fun _ k=>k e14 hB h0 hidR h2 h3 h4 h5 h6 h7 h8 h9 h10 h11 h12 dN
     ·have un:f2=false:=hun;cases h1 (ah 1 hi (by kernel_rfl));have n9:f9=false:=by
       cases hf:f9
       ·rfl
       ·exact absurd (h9.out hf).1 (by rw[un];simp)
      obtain⟨_,⟨y0,y1,y2,y3⟩,_⟩:=Sep.c4 (Sep.pk [_,_,_,_,_] (hB.1 n9));refine ai rfl fun K HK=>?_;go_simp;exact HK.out _ _ fun _ k=>k e14 hB h0 h1 hidR h3 h4 h5 (fun d=>by have e:=(h6.out d).1;rw[un]at e;cases e) h7 h8 (fun d=>by have e:=(h9.out d).1;rw[un]at e;cases e) h10 h11 h12 dN
     ·have un:f3=false:=hun;have n9:f9=false:=by
       cases hf:f9
       ·rfl
       ·exact absurd (h9.out hf).2.1 (by rw[un];simp)
      obtain⟨_,⟨y0,y1,y2,y3⟩,_⟩:=Sep.c4 (Sep.pk [_,_,_,_,_] (hB.1 n9));refine ai rfl fun K HK=>?_;go_simp;exact HK.out _ _ fun _ k=>k e14 hB h0 h1 h2 hidR h4 (fun d=>by have e:=(h5.out d).1;rw[un]at e;cases e) h6 h7 h8 (fun d=>by have e:=(h9.out d).2.1;rw[un]at e;cases e) h10 h11 h12 dN
     ·refine ai rfl fun K HK=>?_;go_simp;exact HK.out _ _ fun _ k=>k e14 hB h0 h1 h2 h3 hidR h5 h6 h7 h8 h9 h10 h11 h12 dN
     ·have un:f5=false:=hun;have d3:f3=true:=ah 3 hi (by kernel_rfl);cases h3 d3;cases h4 (ah 4 hi (by kernel_rfl));have n9:f9=false:=by
       cases hf:f9
       ·rfl
       ·exact absurd (h9.out hf).2.2.1 (by rw[un];simp)
      refine ai rfl fun K HK=>?_;go_simp;refine Calls.mono (KC.out _ (hB.1 n9)) ?_;rintro e u4 ⟨rfl,s4⟩;exact HK.out _ _ fun _ k=>k e14 ⟨fun _=>s4,(fun h=>by rw[n9]at h;cases h),hB.2.2⟩ h0 h1 h2 h3 h4 (fun _=>⟨d3,rfl⟩) (fun d=>by have e:=(h6.out d).2.1;rw[un]at e;cases e) h7 h8 (fun d=>by have e:=(h9.out d).2.2.1;rw[un]at e;cases e) h10 h11 h12 dN
     ·have un:f6=false:=hun;have d2:f2=true:=ah 2 hi (by kernel_rfl);cases h2 d2;have d5:f5=true:=ah 5 hi (by kernel_rfl);obtain⟨u3,rfl⟩:=h5.out d5;have htl:((dD n.ss key:Nat):Int)< (n.ks.length:Int):=by have:=HTL.out;omega
      refine ai rfl fun K HK=>?_;go_simp;exact HK.out _ _ fun _ k=>k e14 hB h0 h1 h2 h3 h4 h5 (fun _=>⟨d2,d5,rfl⟩) (fun d=>by have e:=(h7.out d).1;rw[un]at e;cases e) h8 (fun d=>by have e:=(h9.out d).2.2.2.1;rw[un]at e;cases e) h10 h11 h12 dN
     ·have un:f7=false:=hun;have d6:f6=true:=ah 6 hi (by kernel_rfl);obtain⟨_,_,rfl⟩:=h6.out d6;have n9:f9=false:=by
       cases hf:f9
       ·rfl
       ·exact absurd (h9.out hf).2.2.2.2.1 (by rw[un];simp)
      have hzc:=NV.kid (p:=(⟨ae,ce,some ⟨r,ro,none⟩,ck,az,cz,n⟩:NV)) (Sep.pool (Sep.pk [_,_,_] (hB.1 n9)) _ MX.out) (i:=dD n.ss key) HTL.out;obtain⟨z1,z2,hz3,hzs,hzc⟩:=hzc;cases hz3;simp only at hzc;rw[HKD.out]at hzc;refine ai rfl fun K HK=>?_;go_simp;exact HK.out _ _ fun _ k=>k e14 hB h0 h1 h2 h3 h4 h5 h6 (fun _=>⟨d6,rfl⟩) h8 (fun d=>by have e:=(h9.out d).2.2.2.2.1;rw[un]at e;cases e) h10 h11 h12 dN
     ·refine ai rfl fun K HK=>?_;go_simp;exact HK.out _ _ fun _ k=>k e14 hB h0 h1 h2 h3 h4 h5 h6 h7 hidR h9 h10 h11 h12 dN
     ·have un:f9=false:=hun;cases h0 (ah 0 hi (by kernel_rfl));have d7:f7=true:=ah 7 hi (by kernel_rfl);obtain⟨_,rfl⟩:=h7.out d7;cases h8 (ah 8 hi (by kernel_rfl));have d6:f6=true:=(h7.out d7).1;refine ai rfl fun K HK=>?_;go_simp;refine Calls.mono (KR.out _ (hB.1 un)) ?_;rintro e u4 ⟨p9,d9,GQ,rfl,Uw,s4⟩;exact HK.out _ _ fun _ k=>k e14 ⟨(fun h=>by cases h),(fun _=>⟨p9,d9,GQ,rfl,Uw,fun _=>s4,fun h=>by have:=hB.2.2 h;rw[un]at this;cases this⟩),fun _=>rfl⟩ h0 h1 h2 h3 h4 h5 h6 h7 h8 (fun _=>⟨(h6.out d6).1,(h5.out (h6.out d6).2.1).1,(h6.out d6).2.1,d6,d7,trivial⟩) (fun d=>by have e:=(h10.out d).1;rw[un]at e;cases e) (fun d=>by have e:=(h11.out d).1;rw[un]at e;cases e) (fun d=>by have e:=(h12.out d).1;rw[un]at e;cases e) dN
     ·have d9:f9=true:=ah 9 hi (by kernel_rfl);obtain⟨u2,u3,u5,u6,u7,_⟩:=h9.out d9;refine ai rfl fun K HK=>?_;go_simp;exact HK.out _ _ fun _ k=>k e14 hB h0 h1 h2 h3 h4 h5 h6 h7 h8 h9 (fun _=>⟨d9,rfl⟩) h11 h12 dN
     ·have d10:f10=true:=ah 10 hi (by kernel_rfl);obtain⟨_,rfl⟩:=h10.out d10;have u9:f9=true:=(h10.out d10).1;obtain⟨p9,d9,GQ,e47,Uw,s9⟩:=hB.2.1 u9;have Xd:Hid _:=GQ;clear GQ;subst e47;refine ai rfl fun K HK=>?_;go_simp;exact HK.out _ _ fun _ k=>k e14 hB h0 h1 h2 h3 h4 h5 h6 h7 h8 h9 h10 (fun _=>⟨u9,rfl⟩) h12 dN
     ·have d10:f10=true:=ah 10 hi (by kernel_rfl);obtain⟨_,rfl⟩:=h10.out d10;have u9:f9=true:=(h10.out d10).1;obtain⟨p9,d9,GQ,e47,Uw,s9⟩:=hB.2.1 u9;have Xd:Hid _:=GQ;clear GQ;subst e47;refine ai rfl fun K HK=>?_;go_simp;exact HK.out _ _ fun _ k=>k e14 hB h0 h1 h2 h3 h4 h5 h6 h7 h8 h9 h10 h11 (fun _=>⟨u9,rfl⟩) dN
     ·have un:f13=false:=hun;obtain⟨u9,tF⟩:=h11.out (ah 11 hi (by kernel_rfl));obtain⟨p9,d9,GQ,e47,Uw,s9,s9'⟩:=hB.2.1 u9;have Xd:Hid _:=GQ;clear GQ;subst e47;cases tF;obtain⟨_,⟨y0,y1,y2,y3⟩,g0,g1,g2,g3⟩:=Sep.c4 (Sep.pk [_,_,_,_,_] (s9 un));refine ai rfl fun K HK=>?_;go_simp;exact HK.out _ _ fun _ k=>k e14 ⟨(fun h=>by rw[u9]at h;cases h),(fun _=>⟨p9,d9,Xd.out,rfl,Uw,(fun h=>by cases h),fun _=>Sep.pb [_,_,_,_,_] (Sep.s4 (Sep.pk [_,_,_,_,_] (s9 un)) _ _ _ _)⟩),fun _=>u9⟩ h0 h1 h2 h3 h4 h5 h6 h7 h8 h9 h10 h11 h12 (fun _=>trivial)
    ·intro w' f0 f1 f2 f3 f4 f5 f6 f7 f8 f9 f10 f11 f12 f13 f14 x8 NK x38 x39 x40 x41 Yt x43 Yu Yv Yw Vh Yx Yy e14 hB h0 h1 h2 h3 h4 h5 h6 h7 h8 h9 h10 h11 h12 dN hi;have d12:f12=true:=ah 12 hi (by kernel_rfl);obtain⟨u9,tG⟩:=h12.out d12;have d13:f13=true:=ah 13 hi (by kernel_rfl);clear hi;obtain⟨p9,d9,GQ,e47,Uw,s9,s9'⟩:=hB.2.1 u9;have Xd:Hid _:=GQ;clear GQ;subst tG;refine ai rfl fun K HK=>?_;go_simp;refine HK.out _ _ ?_;have S5:Hid (Sep B w0 w' (TL C x d9 (p9::Pc) (U::aF q7 (.cells (cN p9) 170)::l))):=s9' d13;have hw1:wrap64 (dp+1)=dp+1:=by have:=Xc.out;unfold wrap64;omega
     clear s9 s9' e47 h0 h1 h2 h3 h4 h5 h6 h7 h8 h9 h10 h11 h12 dN hB;have HN:Hid (Gu x d key g p9.n (dX x d kid dp).2 (dp+1)=some (m,er)):=by rw[show p9.n=(dX x d kid dp).1 from Xd.out];exact hE2.out
     generalize(dX x d kid dp).2=ek at*;go_wp2
     go_roundg g
     case measure=>omega
     case rel=>exact⟨g,p9,p9::Pc,d9,ek,dp+1,rfl,by simp[hw1],Nat.le_refl _,(by have:=Xc.out;show(1:Int)<=dp+1;omega),HN.out,⟨List.mem_cons_self ..,fun y hy=>List.mem_cons_of_mem _ (HP.out.2 y hy)⟩,HD.out.trans ⟨_,Uw⟩,S5.out⟩
    ·intro _ _;intros;assumption
   ·rw[if_neg hc]at hE;obtain⟨rfl,rfl⟩:pc.n=m∧ec=er:=by
     cases hE;exact⟨rfl,rfl⟩
    clear hE;by_cases h1:ec=0
    ·subst h1;have hlf:pc.n.leaf=true:=by
      cases hx:pc.n.leaf
      ·exact absurd ⟨rfl,hx⟩ hc
      ·rfl
     have KU:Hid _:=HU.out HS.out HP.out.1 (HES.out rfl).1 (HES.out rfl).2;rw[hlf]at c0;clear hc
     go_wp2_with fail
     refine Calls.mono KU.out ?_;rintro e v5 ⟨rfl,s5⟩;have S5:Hid _:=s5;clear c0 c1' c2' c3' g0 g1 g2 g3 KU s5;go_wp2;go_ret;exact⟨rfl,Pc,dc,U',HP.out.2,HD.out,fun _=>rfl,fun h=>absurd rfl h,Sep.drop (Sep.pk [_,_,_,_,_] S5.out)⟩
    ·have hne:(ec==0)=false:=by simpa using h1
     clear hc;go_wp2;go_ret;exact⟨rfl,Pc,dc,U,HP.out.2,HD.out,fun h=>absurd h h1,fun _=>rfl,Sep.drop (Sep.pk [_,_,_,_,_] HS.out)⟩
end
end
section
open N (Nd nd0 cF dF dZ jo gG Sm dD En Bn zj lI qF iF bc hidR ar ai Ch aP ah waits)
section
variable {B:Nat}{w0 w:World}{l:List aM}{P:List NV}{C:Cx}{x:TX}{d d1:Dk}{key:ByteArray}{es0:List En}{qk qv qf:Nat}{m:Nd}{er:Int}
abbrev U3 (qk qv qf:Nat)(key v:ByteArray)(b:Bool):aM:=Both (aF qk (.cells #[.string key] 9)) (Both (aF qv (.cells #[.string v] 9)) (aF qf (.cells #[.bool b] 4)))
theorem Sep.AJ {v:ByteArray}{b:Bool}(h:Sep B w0 w (U3 qk qv qf key v b::l)):Sep B w0 w (aF qk (.cells #[.string key] 9)::aF qv (.cells #[.string v] 9)::aF qf (.cells #[.bool b] 4)::l):=by
 have h1:Sep B w0 w (aF qk (.cells #[.string key] 9)::Both (aF qv (.cells #[.string v] 9)) (aF qf (.cells #[.bool b] 4))::l):=h.map fun _=>Hp.part (aU _ _) (aQ (aU _ _) (aU _ _));exact Sep.El (Sep.fq (Sep.ku h1))
theorem Sep.QS {v:ByteArray} {b:Bool} (h:Sep B w0 w (aF qk (.cells #[.string key] 9)::aF qv (.cells #[.string v] 9)::aF qf (.cells #[.bool b] 4)::l)):Sep B w0 w (U3 qk qv qf key v b::l):=
  Sep.join (Sep.ku (Sep.join (Sep.pk [_,_] (Sep.pk [_,_] h))))
theorem PU:Lm B w0 C x (.pointer (some ⟨qk,0,none⟩)) (.pointer (some ⟨qv,0,none⟩)) (.pointer (some ⟨qf,0,none⟩)) es0 (U3 qk qv qf key ⟨#[]⟩ false) (U3 qk qv qf key (qF es0 key) (lI es0 key)):=by
 intro w d P l p h hp he0 hl;have h2:=Sep.AJ (Sep.qu h);obtain⟨ks,k0,_⟩:=Sep.c1 h2;have KG:Hid _:=N.Du (.slice p.ae p.n.es.length p.ce) p.n.es key w (Sep.pool (Sep.Ck h) _ hp).e (by omega);rw[he0]at KG;have HS:Hid (Sep B w0 w (TL C x d P (U3 qk qv qf key ⟨#[]⟩ false::l))):=h;rw[<-he0];have hln:p.n.es.length=es0.length:=by rw[he0]
 rw[he0];clear h h2 hp hl;generalize lI es0 key=gb at*;generalize qF es0 key=gv at*;rw[hln]at*;clear he0 hln;go_enter Tryz.func87,Tryz.ntmps87
 go_wp2_with fail
 refine Calls.mono KG.out ?_;rintro e w1 ⟨rfl,b1⟩;have h3:=Sep.AJ (Sep.qu (HS.out.below b1));obtain⟨iK,k1,f0⟩:=Sep.c1 h3;obtain⟨vs1,v1,f1⟩:=Sep.c1 (Sep.ku h3);obtain⟨fs1,g1,f2⟩:=Sep.c1 (Sep.El h3);have hne:qv≠qf:=Sep.ne (Sep.drop h3);have hne':=hne.symm;have S2:Hid (Sep B w0 ((w1.setCell ⟨qv,0,none⟩ (.string gv)).setCell ⟨qf,0,none⟩ (.bool gb)) (TL C x d P (U3 qk qv qf key gv gb::l))):=by
  have h4:=Sep.ml (x:=.string gv) (Sep.ku h3) 0;have h5:=Sep.ml (x:=.bool gb) (Sep.El h4) 0;exact Sep.WC (Sep.QS (Sep.El (Sep.ku h5)))
 clear h3 KG HS b1;go_wp2
 go_end0
 exact⟨rfl,S2.out⟩
def GGt (B:Nat)(w0:World)(C:Cx)(x:TX)(d:Dk)(P:List NV)(l:List aM)(v:ByteArray)(b:Bool)(er:Int)(e:Ending)(w':World):Prop:=e=.returned (.tuple #[.string v,.bool b,.int .i64 er])∧∃P' d',(∀y∈P,y∈P')∧bH d d'∧Sep B w0 w' (TL C x d' P' l)
def JG (B:Nat)(w0:World)(C:Cx)(x:TX)(d d1:Dk)(P:List NV)(U U2:aM)(l:List aM)(er:Int)(f4:Bool)(w:World):Prop:=
 (f4=false->Sep B w0 w (TL C x d1 P (U::l)))∧(f4=true->∃P' d' V,(∀y∈P,y∈P')∧bH d d'∧(er=0->V=U2)∧(er≠0->V=U)∧Sep B w0 w (TL C x d' P' (V::l)))
def JGr (B:Nat)(w0:World)(CC:Cx)(x:TX)(d d1:Dk)(P:List NV)(U U2:aM)(l:List aM)(er:Int)(qk qv qf:Nat)(key:ByteArray){y2 y4 y5 y6 qi qj tH:Value}(C:List Bool->Act->Prop)(w:World):Prop:=∀{f0 f1 f2 f3 f4 f5:Bool}{x9 oK uo qI uq uE:Value},f5=false->JG B w0 CC x d d1 P U U2 l er f4 w->Hid (f0=true->oK=ptr CC.tq)->Hid (f1=true->uo=ptr CC.tq)->Hid (f2=true->qI=.string key)->Hid (f3=true->uq=.func (.func 87) #[] #[.pointer (some ⟨qk,0,none⟩),.pointer (some ⟨qv,0,none⟩),.pointer (some ⟨qf,0,none⟩)])->Hid (f4=true->f2=true∧uE=.int .i64 er)->C [f0,f1,f2,f3,f4,f5] {tmps:=#[ptr CC.tq,.string key,y2,.pointer (some ⟨qk,0,none⟩),y4,y5,y6,.pointer (some ⟨qv,0,none⟩),.pointer (some ⟨qf,0,none⟩),x9,oK,uo,qI,uq,uE,qi,qj,tH],defers:=[]}
theorem Xe {f:Nat}{gv:ByteArray}{gb:Bool}(hv1:er=0->gv=qF es0 key∧gb=lI es0 key)(hv2:er≠0->gv=⟨#[]⟩∧gb=false)(T:bW B w0)(hr:d.room<=16384)(ok:x.Ok d.room)(hz:x.Sz)(h0:C.err=0)(hw:Wf C.root)(hd:bH d d1)(h:Sep B w0 w (TL C x d1 P l))(he:Gu x d key f (dX x d C.root 0).1 (dX x d C.root 0).2 1=some (m,er))(hes:er=0->m.es=es0∧m.es.length<=500):
  Calls Tryz.prog 60 #[ptr C.tq,.string key] w (GGt B w0 C x d P l gv gb er):=by
 have HG:Hid ((er=0->gv=qF es0 key∧gb=lI es0 key)∧(er≠0->gv=⟨#[]⟩∧gb=false)):=⟨hv1,hv2⟩;clear hv1 hv2;have S1:Hid (Sep B w0 (((w.alloc (.cells #[.string key] 9)).alloc (.cells #[.string ⟨#[]⟩] 9)).alloc (.cells #[.bool false] 4)) (TL C x d1 P (U3 w.heap.size (w.heap.size+1) (w.heap.size+2) key ⟨#[]⟩ false::l))):=by
  have h3:=Sep.aZ (Sep.aZ (Sep.aO h (.cells #[.string key] 9)) (.cells #[.string ⟨#[]⟩] 9) (w.heap.size+1) (by simp)) (.cells #[.bool false] 4) (w.heap.size+2) (by simp);exact Sep.WC (Sep.QS (Sep.El (Sep.ku h3)))
 have KL:Hid (∀u,Sep B w0 u (TL C x d1 P (U3 w.heap.size (w.heap.size+1) (w.heap.size+2) key ⟨#[]⟩ false::l))->Calls Tryz.prog 86 #[ptr C.tq,.string key,.func (.func 87) #[] #[.pointer (some ⟨w.heap.size,0,none⟩),.pointer (some ⟨w.heap.size+1,0,none⟩),.pointer (some ⟨w.heap.size+2,0,none⟩)]] u (GLf B w0 C x d P (U3 w.heap.size (w.heap.size+1) (w.heap.size+2) key ⟨#[]⟩ false) (U3 w.heap.size (w.heap.size+1) (w.heap.size+2) key (qF es0 key) (lI es0 key)) l er)):=fun u hu=>Uv T hr ok hz h0 PU hw hd hu he hes;clear h hr ok hz hw hd he hes T;go_enter Tryz.func60,Tryz.ntmps60
 go_wp2_with fail
 generalize World.alloc _ _=w1 at*;generalize w.heap.size+2=qf at*;generalize w.heap.size+1=qv at*;generalize w.heap.size=qk at*;refine bc 5 (JGr B w0 C x d d1 P (U3 qk qv qf key ⟨#[]⟩ false) (U3 qk qv qf key (qF es0 key) (lI es0 key)) l er qk qv qf key) (by kernel_rfl) (by kernel_rfl) (by kernel_rfl) (fun _ k=>k rfl ⟨fun _=>S1.out.drew,fun h=>by cases h⟩ ar ar ar ar ar) ?_ ?_ ?_
 ·intro i w' hne f0 f1 f2 f3 f4 f5 x9 oK uo qI uq uE e5 hB h0 h1 h2 h3 h4 hi;obtain⟨hlt,hun,_⟩:=aP hi;have hlt':i<6:=hlt;clear hlt;rcases(by omega:i=0∨i=1∨i=2∨i=3∨i=4)with rfl|rfl|rfl|rfl|rfl
  ·refine ai rfl fun K HK=>?_;go_simp;exact HK.out _ _ fun _ k=>k e5 hB hidR h1 h2 h3 h4
  ·cases h0 (ah 0 hi (by kernel_rfl));refine ai rfl fun K HK=>?_;go_simp;refine Calls.mono (rz _ C.tq) ?_;rintro e u4 ⟨rfl,rfl⟩;exact HK.out _ _ fun _ k=>k e5 hB h0 hidR h2 h3 h4
  ·have un:f2=false:=hun;have n4:f4=false:=by
    cases hf:f4
    ·rfl
    ·exact absurd (h4.out hf).1 (by rw[un];simp)
   obtain⟨_,y0,_⟩:=Sep.c1 (Sep.AJ (Sep.qu (hB.1 n4)));refine ai rfl fun K HK=>?_;go_simp;exact HK.out _ _ fun _ k=>k e5 hB h0 h1 hidR h3 (fun d=>by have e:=(h4.out d).1;rw[un]at e;cases e)
  ·refine ai rfl fun K HK=>?_;go_simp;exact HK.out _ _ fun _ k=>k e5 hB h0 h1 h2 hidR h4
  ·have un:f4=false:=hun;cases h1 (ah 1 hi (by kernel_rfl));have d2:f2=true:=ah 2 hi (by kernel_rfl);cases h2 d2;cases h3 (ah 3 hi (by kernel_rfl));refine ai rfl fun K HK=>?_;go_simp;refine Calls.mono (KL.out _ (hB.1 un)) ?_;rintro e u4 ⟨rfl,s4⟩;exact HK.out _ _ fun _ k=>k e5 ⟨(fun h=>by cases h),fun _=>s4⟩ h0 h1 h2 h3 (fun _=>⟨d2,rfl⟩)
 ·intro w' f0 f1 f2 f3 f4 f5 x9 oK uo qI uq uE e5 hB h0 h1 h2 h3 h4 hi;have d4:f4=true:=ah 4 hi (by kernel_rfl);obtain⟨u2,rfl⟩:=h4.out d4;clear hi;refine ai rfl fun K HK=>?_;go_simp;refine HK.out _ _ ?_;obtain⟨P',d',V,m1,m2,m3,m4,s5⟩:=hB.2 d4;have S5:Hid (Sep B w0 w' (TL C x d' P' (V::l))):=s5;have HM:Hid ((∀y∈P,y∈P')∧bH d d'):=⟨m1,m2⟩;have HV:Hid ((er=0->V=U3 qk qv qf key (qF es0 key) (lI es0 key))∧(er≠0->V=U3 qk qv qf key ⟨#[]⟩ false)):=⟨m3,m4⟩;clear m1 m2 m3 m4 s5 h0 h1 h2 h3 h4 hB;by_cases he0:er=0
  ·subst he0;obtain rfl:=HV.out.1 rfl;obtain⟨rfl,rfl⟩:=HG.out.1 rfl;have h6:=Sep.AJ (Sep.qu S5.out);obtain⟨_,y1,_⟩:=Sep.c1 (Sep.ku h6);obtain⟨_,y2,_⟩:=Sep.c1 (Sep.El h6);clear h6 HV
   go_wp2_with fail
   go_quiet (fail)
   go_wp2
   go_ret3
   exact⟨rfl,P',d',HM.out.1,HM.out.2,(Sep.drop (Sep.qu S5.out)).drewN _⟩
  ·obtain rfl:=HV.out.2 he0;obtain⟨rfl,rfl⟩:=HG.out.2 he0;have h6:=Sep.AJ (Sep.qu S5.out);obtain⟨_,y1,_⟩:=Sep.c1 (Sep.ku h6);obtain⟨_,y2,_⟩:=Sep.c1 (Sep.El h6);clear h6 HV
   go_wp2_with fail
   go_quiet (fail)
   go_wp2
   go_ret3
   exact⟨rfl,P',d',HM.out.1,HM.out.2,(Sep.drop (Sep.qu S5.out)).drewN _⟩
 ·intro _ _;intros;assumption
end
end
namespace P
open N (Nd nd0 cF dF dZ cY bV jo gG Sm dD En Bn zj lI qF iF cJ im jD iv lT gN iC Rg bB aV gO lG)
section
variable {B:Nat}{w0 w:World}{C:Cx}{x:TX}{d d1:Dk}{P:List NV}{l:List aM}{key:ByteArray}{E:List En}{X:List Int}{H:Nat}{room:Nat}
theorem Ln (x:TX)(d:Dk)(id depth:Int):(gi x).read d id depth=dX x d id depth:=by
 unfold Dr.read;rw[if_neg (by simp[gi])];rfl
theorem Ux {l:List En}(h:cY l<=240):l.length<=500:=by
 have:2*l.length<=cY l:=kY;omega
theorem ES (hr:room<=16384):∀(h:Nat) (b:BT h) (depth:Int) (f:Nat),Gb room d (gi x) h b->depth+h<=24->h<f->
  ∃L es R EL ER,Loc h b key L es R EL ER∧Gu x d key f (aY h b) 0 depth=some (⟨true,es,[],[]⟩,0)∧es.length<=500
 |0,b,depth,f,G,hd,hf=>by
  obtain⟨f,rfl⟩:∃f',f=f'+1:=⟨f-1,by omega⟩;refine⟨[],b,[],[],[],⟨?_,?_,.inl rfl,.inl rfl,(fun _ hc=>by cases hc),(fun _ hc=>by cases hc),(fun _ hc=>by cases hc),(fun _ hc=>by cases hc)⟩,?_,Ux G.sz⟩
  ·show og b=[]++(og b++[]);rw[List.nil_append,List.append_nil]
  ·show dW 0 b=[]++(dW 0 b++[]);rw[List.nil_append,List.append_nil]
  ·rw[Gu,if_neg (by simp[aY])];rfl
 |h+1,b,depth,f,G,hd,hf=>by
  obtain⟨f,rfl⟩:∃f',f=f'+1:=⟨f-1,by omega⟩;obtain⟨K,ss,rfl⟩:=gV b;have R0:=G.rw;have hl:ss.length+1=K.length:=G.wl.1;obtain⟨sA,sB,rfl,hch,k1,k2⟩:=yh (key:=key) (lq (by omega) R0.od);obtain⟨A,w,B,rfl,hA⟩:∃A w B,K=A++w::B∧A.length=sA.length:=by
   obtain⟨w,B,r1,_⟩:=ew (l:=K.drop sA.length) (n:=K.length-sA.length-1) (by rw[List.length_drop];simp at hl;omega);exact⟨K.take sA.length,w,B,by rw[<-r1,List.take_append_drop],by rw[List.length_take];simp at hl;omega⟩
  have hB:B.length=sB.length:=by simp at hl;omega
  have hwz:=R0.wl w (by simp);have Ys:bS (dE A sA++(cC h w.2++kG (B.map fun u=>cC h u.2) sB)):=by rw[<-fG hA];exact R0.od
  have hsub:(bj h w.2).Sublist (aX (A++w::B)):=by
   rw[bD,cd,cO];exact List.Sublist.trans (List.sublist_cons_self _ _) (List.Sublist.trans (List.sublist_append_left _ _) (List.sublist_append_right _ _))
  have Gw:Gb room d (gi x) h w.2:=⟨G.sd,hwz.1,hwz.2,fun p hp=>R0.us p (hsub.subset hp),R0.nd.sublist hsub,fun y hy=>R0.is y (by rw[dP,eR];simp[rj,hy]),Ys.sub (List.Sublist.trans (List.sublist_append_left _ _) (List.sublist_append_right _ _)),fun y hy=>R0.vl y (by rw[cL,cG];simp[hy])⟩;obtain⟨L,es,R,EL,ER,loc,q1,q2⟩:=ES hr h w.2 (depth+1) f Gw (by omega) (by omega);refine⟨_,es,_,_,_,Loc.up loc hA hB R0.od k1 k2,?_,q2⟩;have hgd:(aY (h+1) (bN (A++w::B) (sA++sB))).ks.getD (dD (aY (h+1) (bN (A++w::B) (sA++sB))).ss key) 0=w.1:=by
   rw[bZ];simp only[hch];rw[<-hA];simp[List.getD_eq_getElem?_getD]
  have hrd:dX x d w.1 depth=(aY h w.2,0):=by rw[<-Ln];exact kI R0.is (by simp) (by omega)
  rw[Gu,if_pos ⟨rfl,by rw[bZ]⟩,if_neg (by
   rw[G.sm hr,bZ]
   simp only[hch,List.length_map,List.length_append,List.length_cons]
   simp
   omega),hgd,hrd]
  exact q1
theorem Xf (hr:room<=16384){root:Int}(T:TS room d (gi x) root E X H)(hH:H+1<24):∃es EL ER,Gu x d key 30 (dX x d root 0).1 (dX x d root 0).2 1=some (⟨true,es,[],[]⟩,0)∧E=EL++(es++ER)∧(∀y∈EL,bB y.1 key=true)∧(∀y∈ER,bB key y.1=true)∧es.length<=500:=by
 rcases T with⟨rfl,rfl,rfl,sd,rfl⟩| ⟨h,u,rfl,G,tb,rfl,rfl,rfl⟩
 ·refine⟨[],[],[],?_,rfl,(fun _ hc=>by cases hc),(fun _ hc=>by cases hc),by simp⟩;unfold dX;rw[if_pos rfl,Gu,if_neg (by simp[lf0])];rfl
 ·have hrd:dX x d u.1 0=(aY h u.2,0):=by rw[<-Ln,(gi x).jL d _ _ (by omega)];exact G.rd
  obtain⟨L,es,R,EL,ER,loc,q1,q2⟩:=ES (key:=key) hr h u.2 1 30 G.g (by omega) (by omega);rw[hrd];exact⟨es,EL,ER,q1,loc.en,(loc.lo G.g.od).1,(loc.lo G.g.od).2,q2⟩
theorem TS.wf (hr:room<=16384){root:Int}(T:TS room d (gi x) root E X H):Wf root:=by
 rcases T with⟨rfl,_⟩| ⟨h,u,rfl,G,_⟩
 ·exact⟨by omega,by omega⟩
 ·have h1:=G.us.lo;have h2:=G.us.hi;have h3:=G.g.sd.x.pr;exact⟨by omega,by omega⟩
theorem Uy (T:bW B w0)(hr:d.room<=16384)(hd:bH d d1)(h:Sep B w0 w (TL C x d1 P l))(h0:C.err=0)(TT:Tx d.room d x C.root E X H)(hH:H+1<24):
  Calls Tryz.prog 60 #[ptr C.tq,.string key] w (GGt B w0 C x d P l (iC E key) (gN E key) 0):=by
 have hE:=TT.ts.rg;obtain⟨es,EL,ER,q1,rfl,lo,hi,q2⟩:=Xf (key:=key) hr TT.ts hH;refine Xe (es0:=es) (fun _=>⟨?_,?_⟩) (fun hc=>absurd rfl hc) T hr TT.ts.sd.x TT.ts.sd.bz h0 (TT.ts.wf hr) hd h q1 (fun _=>⟨rfl,q2⟩)
 ·unfold qF;rw[gO (px hE),if_pos rfl,Uk hE lo hi]
 ·unfold lI;rw[gO (px hE),Bool.true_and,AE lo hi]
end
end P
section
section
variable {B:Nat}{w0 w w':World}{l:List aM}{P:List NV}{C:Cx}{x:TX}{d:Dk}{t f b:Nat}{root:Int}
theorem Xg (h:Sep B w0 w (Tx t f x::File f b d::l)):Calls Tryz.prog 27 #[ptr t,.int .i64 root] w fun e w'=>∃tq,e=.returned (ptr tq)∧Sep B w0 w' (TL ⟨0,tq,t,f,b,root,0⟩ x d [] l):=by
 have SF:Hid (Sep B w0 (w.alloc (.cells #[ptr t,.int .i64 root,.int .i64 0] 91)) (TL ⟨0,w.heap.size,t,f,b,root,0⟩ x d [] l)):=Sep.pb [_,_,_] (Sep.Wz (Sep.pb [_,_] (h.aO _)));clear h;unfold ptr at*;go_enter Tryz.func27,Tryz.ntmps27;go_wp2;go_ret;exact⟨w.heap.size,rfl,SF.out⟩
end
end
section
open N (bB)
theorem Xh (x y:ByteArray):Builtin.max_ #[9,9] 9 #[.string x,.string y]=pure (.string (if bB x y=true then y else x)):=by
 cases h:bB x y
 ·have h2:Op.bytesLess x.toList y.toList=false:=h;simp[Builtin.max_,Builtin.max2,Op.stringOp,asBool,h2]
 ·have h2:Op.bytesLess x.toList y.toList=true:=h;simp[Builtin.max_,Builtin.max2,Op.stringOp,asBool,h2]
section
variable {B:Nat}{w0 w w':World}{l:List aM}{fr tt k:ByteArray}
theorem rA (h:Sep B w0 w l):Calls Tryz.prog 102 #[.agg #[.string fr,.string tt],.string k] w fun e w'=>e=.returned (.bool (bG tt k))∧Sep B w0 w' l:=by
 have SF:Hid (Sep B w0 (w.alloc (.cells #[.string fr,.string tt] 99)) l):=h.alloc _;clear h;by_cases h0:tt=⟨#[]⟩
 ·have HE:Hid (bG tt k=true):=by show _=true;simp[bG,h0]
  subst h0;go_enter Tryz.func102,Tryz.ntmps102;go_wp2;go_ret;exact⟨by rw[HE.out];rfl,SF.out⟩
 ·have HE:Hid (bG tt k=bB k tt):=by show _=_;simp[bG,h0]
  have he:tt.toList≠[]:=fun e=>h0 (N.jC (e.trans (by simp)));have he2:tt.toList.isEmpty=false:=by simpa using he
  clear h0;go_enter Tryz.func102,Tryz.ntmps102;go_wp2;go_ret;exact⟨by rw[HE.out];rfl,SF.out⟩
theorem Sep.c2 {q:Nat}{a0 a1:Value}{ty:TypeId}(h:Sep B w0 w (aF q (.cells #[a0,a1] ty)::l)):q<w.heap.size∧(w.cell? ⟨q,0,none⟩=some a0∧w.cell? ⟨q,1,none⟩=some a1)∧w.frozen? ⟨q,0,none⟩=false∧w.frozen? ⟨q,1,none⟩=false:=by
 have hb:=h.blk;refine⟨(Array.getElem?_eq_some_iff.1 hb).1,⟨?_,?_⟩,?_,?_⟩<;>simp[World.cell?,World.frozen?,hb]
end
end
end Go.Proofs.YtcenfooehjcddaaGreatDoor
