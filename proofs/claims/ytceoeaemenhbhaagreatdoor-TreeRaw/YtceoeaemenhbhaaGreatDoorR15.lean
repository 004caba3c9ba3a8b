/- Walks of the package cowtree and of what it stands on: lemmas, made short. -/
import Derived.Test.YtceoeaemenhbhaaGreatDoorR14
import Derived.Test.YtceoeaemenhbhaaGreatDoorR13
import Derived.Test.YtceoeaemenhbhaaGreatDoorR10
import Derived.Deep.QuietTactic
import Derived.BigQuiet
import Derived.Test.YtceoeaemenhbhaaGreatDoorR12
import Derived.Maps.OwnIn
import Derived.Maps.AppendAt
import Derived.Deep.AppendLies
import Derived.Test.YtceoeaemenhbhaaGreatDoorR11
set_option maxHeartbeats 16000000
set_option maxRecDepth 100000
set_option linter.unusedVariables false
set_option linter.unusedSimpArgs false
namespace Go.Proofs.YtceoeaemenhbhaaGreatDoor
namespace P
open N
section
variable {σ:Type}{st:σ->En->σ×Bool}{fr tt:ByteArray}{h:Nat}
theorem IX:∀(l m:List En) (s:σ),kL st (l++m) s=if(kL st l s).2=false then kL st l s else kL st m (kL st l s).1
 |[],m,s=>rfl
 |e::l,m,s=>by
  rw[List.cons_append,kL,kL];by_cases hb:(st s e).2=false
  ·rw[if_pos hb,if_pos hb];simp
  ·rw[if_neg hb,if_neg hb];exact IX l m _
theorem Ct (l m:List En):iv fr tt (l++m)=iv fr tt l++iv fr tt m:=List.filter_append ..
theorem Cu {l:List En}(h:∀e∈l,bD e.1 fr=true∨bF tt e.1=false):iv fr tt l=[]:=by
 unfold iv;rw[List.filter_eq_nil_iff];intro e he hc;simp only[Bool.and_eq_true,Bool.not_eq_true']at hc;rcases h e he with h1|h1
 ·rw[hc.1]at h1;cases h1
 ·rw[hc.2]at h1;cases h1
theorem IY {fr' Oz:ByteArray}{l:List En}(h:∀e∈l,bD e.1 fr'=bD e.1 fr∧bF Oz e.1=bF tt e.1):iv fr' Oz l=iv fr tt l:=by
 unfold iv;refine List.filter_congr fun e he=>?_;rw[(h e he).1,(h e he).2]
theorem pQ {k:ByteArray}:bF tt k=true↔tt=⟨#[]⟩∨bD k tt=true:=by simp[bF]
theorem AG {k:ByteArray}:bF tt k=false↔tt≠⟨#[]⟩∧bD k tt=false:=by simp[bF]
theorem Rh {k k':ByteArray}(h:bF tt k'=true)(hk:bD k k'=true):bF tt k=true:=by
 rcases pQ.1 h with h|h
 ·exact pQ.2 (.inl h)
 ·exact pQ.2 (.inr (cL hk h))
theorem IZ {k k':ByteArray}(h:bF tt k=false)(hk:bD k' k=false):bF tt k'=false:=by
 obtain⟨h1,h2⟩:=AG.1 h;refine AG.2 ⟨h1,?_⟩;cases hc:bD k' tt with
 |false=>rfl
 |true=>
  have:=gu h2 hc;rw[hk]at this;cases this
theorem OC:∀(l:List En) (s:σ),l.Pairwise (fun x y=>bD x.1 y.1=true)->
  (vT st tt l s).1=(kL st (l.filter fun e=>bF tt e.1) s).1∧((vT st tt l s).2=none->(kL st (l.filter fun e=>bF tt e.1) s).2=true)∧∀b,(vT st tt l s).2=some b->(kL st (l.filter fun e=>bF tt e.1) s).2=b
 |[],s,_=>⟨rfl,fun _=>rfl,fun b hb=>by cases hb⟩
 |e::l,s,hp=>by
  obtain⟨p1,p2⟩:=List.pairwise_cons.1 hp;rw[vT];by_cases hh:bF tt e.1=false
  ·rw[if_pos hh];have:(e::l).filter (fun e=>bF tt e.1)=[]:=by
    rw[List.filter_eq_nil_iff];intro x hx hc;rcases List.mem_cons.1 hx with rfl|hx
    ·rw[hh]at hc;cases hc
    ·rw[IZ hh (gF (p1 x hx))]at hc;cases hc
   rw[this];exact⟨rfl,fun hc=>by simp at hc,fun b hb=>by cases hb;rfl⟩
  ·rw[if_neg hh];have ht:bF tt e.1=true:=by simpa using hh
   have:(e::l).filter (fun e=>bF tt e.1)=e::l.filter (fun e=>bF tt e.1):=by rw[List.filter_cons_of_pos (by simpa using ht)]
   rw[this,kL];by_cases hb:(st s e).2=false
   ·rw[if_pos hb,if_pos hb];exact⟨rfl,fun hc=>by simp at hc,fun b hb'=>by simp at hb';rw[<-hb']⟩
   ·rw[if_neg hb,if_neg hb];exact OC l _ p2
theorem yB {l:List En}(hp:l.Pairwise (fun x y=>bD x.1 y.1=true)):l.drop (iQ l fr)=l.filter fun e=>!bD e.1 fr:=by
 induction l with
 |nil=>rfl
 |cons e l ih=>
  obtain⟨p1,p2⟩:=List.pairwise_cons.1 hp;have ih:=ih p2;unfold iQ at ih⊢;by_cases he:bD e.1 fr=true
  ·rw[List.countP_cons_of_pos (by simpa using he),List.drop_succ_cons,ih,List.filter_cons_of_neg (by simp[he])]
  ·have hall:∀x∈e::l,bD x.1 fr=false:=fun x hx=>by
    rcases List.mem_cons.1 hx with rfl|hx
    ·simpa using he
    ·cases hc:bD x.1 fr with
     |false=>rfl
     |true=>exact absurd (cL (p1 x hx) hc) he
   rw[List.countP_eq_zero.2 (fun x hx=>by simp[hall x hx]),List.drop_zero];exact(List.filter_eq_self.2 fun x hx=>by simp[hall x hx]).symm
theorem Ri (l:List En):iv fr tt l=(l.filter fun e=>!bD e.1 fr).filter fun e=>bF tt e.1:=by
 unfold iv;rw[List.filter_filter];exact List.filter_congr fun e _=>Bool.and_comm _ _
theorem I0 {A B:List (KT h)}{u:KT h}{sA sB:List ByteArray}{s:ByteArray}(hA:A.length=sA.length)(ho:bP (dh (A++u::B) (sA++sB)))(hs:s∈sA){x:En}(hx:x∈bM (u::B)):bD x.1 s=false:=by
 have e1:dh (A++u::B) (sA++sB)=dh A sA++dh (u::B) sB:=by
  unfold dh;rw[List.map_append,mF _ _ (by simpa using hA)]
 rw[e1]at ho;have h1:(true,s)∈dh A sA:=by
  have:=(gT (A.map fun u=>cd h u.2) sA (by simp;omega)).subset (List.mem_map_of_mem (f:=fun s=>((true,s):It)) hs);exact this
 have h2:(false,x.1)∈dh (u::B) sB:=rW hx _ (fun _ h=>h) sB;have:=(List.pairwise_append.1 ho.up).2.2 _ h1 _ h2;simpa[RI]using this
theorem Rj {A B:List (KT h)}{u:KT h}{sA sB:List ByteArray}{s:ByteArray}(hA:A.length=sA.length)(ho:bP (dh (A++u::B) (sA++s::sB)))(hB:B≠[]){x:En}(hx:x∈dR h u.2):bD x.1 s=true:=by
 rw[eQ hA]at ho;obtain⟨v,B,rfl⟩:∃v B',B=v::B':=by
  cases B with
  |nil=>exact absurd rfl hB
  |cons v B=>exact⟨v,B,rfl⟩
 rw[List.map_cons,iL]at ho;have h1:=(List.pairwise_append.1 (List.pairwise_append.1 ho.up).2.1).2.2 _ (iO h u.2 x hx) (true,s) (by simp);simpa[RI]using h1
theorem ahead:∀(A:List (KT h)) (sA:List ByteArray),A.length=sA.length->bP (dh A sA)->∀x∈bM A,∃s∈sA,bD x.1 s=true
 |[],_,_,_,x,hx=>by cases hx
 |u::A,[],hl,_,_,_=>by simp at hl
 |u::A,s::sA,hl,ho,x,hx=>by
  have e1:dh (u::A) (s::sA)=cd h u.2++(true,s)::dh A sA:=rfl;rw[e1]at ho;rw[bT]at hx;rcases List.mem_append.1 hx with hx|hx
  ·have h1:=(List.pairwise_append.1 ho.up).2.2 _ (iO h u.2 x hx) (true,s) (by simp);exact⟨s,by simp,by simpa[RI]using h1⟩
  ·obtain⟨s1,h1,h2⟩:=ahead A sA (by simpa using hl) (ho.sub (List.Sublist.trans (List.sublist_cons_self _ _) (List.sublist_append_right _ _))) x hx;exact⟨s1,by simp[h1],h2⟩
theorem yC (sA:List ByteArray)(s:ByteArray)(sB:List ByteArray):(sA++s::sB).getD sA.length ⟨#[]⟩=s:=by simp[List.getD_eq_getElem?_getD]
theorem Ew {A B:List (KT h)}{u:KT h}:((A++u::B).map Prod.fst).getD A.length (0:Int)=u.1:=by simp[List.getD_eq_getElem?_getD]
theorem Cv {rec:σ->Int->ByteArray->ByteArray->Option (σ×(Bool×Int))}:∀(B A:List (KT h)) (sA sB:List ByteArray) (s:σ),A.length=sA.length->sB.length+1=B.length->bP (dh (A++B) (sA++sB))->(∀s∈sB,bD fr s=true)->
  (∀u∈B,∀s fr' Oz,rec s u.1 fr' Oz=some ((kL st (iv fr' Oz (dR h u.2)) s).1,((kL st (iv fr' Oz (dR h u.2)) s).2,0)))->
  gU rec (aT (h+1) (bG (A++B) (sA++sB))) fr tt B.length A.length s=some ((kL st (iv fr tt (bM B)) s).1,((kL st (iv fr tt (bM B)) s).2,0))
 |[],_,_,_,_,_,hl,_,_,_=>by simp at hl
 |u::B,A,sA,sB,s,hA,hl,ho,hfr,hrec=>by
  have hlB:sB.length=B.length:=by simpa using hl
  rw[List.length_cons,gU,bR];simp only;rw[if_neg (by simp;omega),Ew];have Uv:∀x∈bM (u::B),bD x.1 (ju (sA++sB) A.length fr)=bD x.1 fr:=fun x hx=>by
   unfold ju;split
   ·rename_i hc
    have hm:(sA++sB).getD (A.length-1) ⟨#[]⟩∈sA:=by
     rw[hA,List.getD_eq_getElem?_getD,List.getElem?_append_left (by omega),List.getElem?_eq_getElem (by omega)];exact List.getElem_mem _
    rw[I0 hA ho hm hx];cases hx2:bD x.1 fr with
    |false=>rfl
    |true=>have:=cL hx2 hc.2;rw[I0 hA ho hm hx]at this;cases this
   ·rfl
  have key:(bF (gA (sA++sB) A.length tt) (ju (sA++sB) A.length fr)=false->iv fr tt (bM (u::B))=[])∧∀x∈dR h u.2,bF (gA (sA++sB) A.length tt) x.1=bF tt x.1:=by
   have plain:gA (sA++sB) A.length tt=tt->(bF (gA (sA++sB) A.length tt) (ju (sA++sB) A.length fr)=false->iv fr tt (bM (u::B))=[])∧∀x∈dR h u.2,bF (gA (sA++sB) A.length tt) x.1=bF tt x.1:=fun e=>by
    rw[e];refine⟨fun hc=>Cu fun x hx=>?_,fun _ _=>rfl⟩;cases h1:bD x.1 fr with
    |true=>exact .inl rfl
    |false=>exact .inr (IZ hc (by rw[Uv x hx,h1]))
   cases sB with
   |nil=>
    apply plain;unfold gA;rw[if_neg (by simp;omega)]
   |cons s1 sB=>
    by_cases hs:bF tt s1=true
    ·have e:gA (sA++s1::sB) A.length tt=s1:=by
      unfold gA;rw[hA,yC,if_pos ⟨by simp,hs⟩]
     have XB:B≠[]:=by intro e;rw[e]at hlB;simp at hlB
     rw[e];refine⟨fun hc=>?_,fun x hx=>?_⟩
     ·exfalso;have h1:bD (ju (sA++s1::sB) A.length fr) s1=true:=by
       unfold ju;split
       ·rename_i hc2
        have hp:=kt (h:=h) (K:=A++u::B) (ss:=sA++s1::sB) (by simp at hl⊢;omega) ho;have h2:sA.length-1<sA.length:=by omega
        rw[hA,List.getD_eq_getElem?_getD,List.getElem?_append_left (by omega),List.getElem?_eq_getElem h2];exact(List.pairwise_append.1 hp).2.2 _ (List.getElem_mem h2) s1 (by simp)
       ·exact hfr s1 (by simp)
      rw[AG]at hc;rw[h1]at hc;cases hc.2
     ·have h1:=Rj hA ho XB hx;rw[Rh hs h1];exact pQ.2 (.inr h1)
    ·apply plain;unfold gA;rw[hA,yC,if_neg (fun hc=>hs hc.2)]
  by_cases hh:bF (gA (sA++sB) A.length tt) (ju (sA++sB) A.length fr)=false
  ·rw[if_pos hh,key.1 hh];rfl
  ·rw[if_neg hh,hrec u (by simp)];have e1:iv (ju (sA++sB) A.length fr) (gA (sA++sB) A.length tt) (dR h u.2)=iv fr tt (dR h u.2):=IY fun x hx=>⟨Uv x (by rw[bT];exact List.mem_append_left _ hx),key.2 x hx⟩;rw[e1,bT,Ct,IX];simp only;cases hb:(kL st (iv fr tt (dR h u.2)) s).2 with
   |false=>
    rw[if_pos (.inr rfl),if_pos rfl,hb]
   |true=>
    rw[if_neg (by simp),if_neg (by simp)];cases sB with
    |nil=>
     have:B=[]:=List.length_eq_zero_iff.1 (by simpa using hlB.symm);subst this;rw[show([]:List (KT h)).length=0 from rfl,gU];rfl
    |cons s1 sB=>
     have:=Cv B (A++[u]) (sA++[s1]) sB (kL st (iv fr tt (dR h u.2)) s).1 (by simp;omega) (by simpa using hlB) (by simpa using ho) (fun s hs=>hfr s (by simp[hs])) (fun v hv=>hrec v (by simp[hv]));rw[bR]at this;simpa using this
variable {room:Nat}{d:Dk}{S:Dr}{x:TX}
theorem ur {id depth:Int}{f:Nat}{s:σ}{l:List En}(hrd:cM x d id depth=(⟨true,l,[],[]⟩,0))(hsm:bS ⟨true,l,[],[]⟩=true)(hrt:cQ ⟨true,l,[],[]⟩=true)(hdp:depth<=1000)(hp:l.Pairwise (fun x y=>bD x.1 y.1=true)):
  eZ x d st (f+1) s id depth fr tt=some ((kL st (iv fr tt l) s).1,((kL st (iv fr tt l) s).2,0)):=by
 rw[eZ,hrd,if_neg (by simp),if_neg (by rw[hsm,hrt];simp;omega)];obtain⟨a1,a2,a3⟩:=OC (st:=st) (tt:=tt) (l.filter fun e=>!bD e.1 fr) s (hp.sublist (List.filter_sublist ..));simp only;rw[Ri,yB hp];cases hc:(vT st tt (l.filter fun e=>!bD e.1 fr) s).2 with
 |none=>
  have:=a2 hc;simp only;rw[<-a1];simp only[List.length_nil,Nat.zero_sub];rw[gU,this]
 |some b=>
  simp only;rw[a3 b hc,<-a1]
theorem Cw (hr:room<=16384):∀(h:Nat) (u:KT h) (depth:Int) (f:Nat) (fr tt:ByteArray) (s:σ),Gb room d (eR x) h u.2->(eR x).vw d u.1=(aT h u.2,0)->depth+h<24->h<f->
  eZ x d st f s u.1 depth fr tt=some ((kL st (iv fr tt (dR h u.2)) s).1,((kL st (iv fr tt (dR h u.2)) s).2,0))
 |h,_,_,0,_,_,_,_,_,_,hf=>absurd hf (by omega)
 |0,u,depth,f+1,fr,tt,s,G,rd,hd,hf=>by
  have hrd:cM x d u.1 depth=(aT 0 u.2,0):=by
   have h1:=(eR x).gy d u.1 depth (by omega);rw[rd]at h1;rw[<-h1];unfold Dr.read;rw[if_neg (by simp[eR])];rfl
  exact ur (l:=u.2) hrd (G.sm hr) (Ci hr G.sd _ G.wl G.us G.od G.vl) (by omega) (bP.leaf G.od G.vl:Rg (show List En from u.2)).1
 |h+1,u,depth,f+1,fr,tt,s,G,rd,hd,hf=>by
  obtain⟨p,b⟩:=u;obtain⟨K,ss,rfl⟩:=fq b;have hrd:cM x d p depth=(aT (h+1) (bG K ss),0):=by
   have h1:=(eR x).gy d p depth (by omega);rw[rd]at h1;rw[<-h1];unfold Dr.read;rw[if_neg (by simp[eR])];rfl
  have R0:=G.rw;have hl:ss.length+1=K.length:=G.wl.1;obtain⟨sA,sB,rfl,hch,k1,k2⟩:=vP (key:=fr) (kt (by omega) R0.od);obtain⟨A,B,rfl,hA⟩:∃A B,K=A++B∧A.length=sA.length:=⟨K.take sA.length,K.drop sA.length,(List.take_append_drop _ _).symm,by rw[List.length_take];simp at hl;omega⟩;have hB:sB.length+1=B.length:=by simp at hl;omega
  rw[eZ,hrd,if_neg (by simp),if_neg (by rw[G.sm hr,Ci hr G.sd _ G.wl G.us G.od G.vl];simp;omega)];have e1:(aT (h+1) (bG (A++B) (sA++sB))).es=[]:=rfl;have e2:(aT (h+1) (bG (A++B) (sA++sB))).ks.length=A.length+B.length:=by rw[bR];simp
  have e3:(aT (h+1) (bG (A++B) (sA++sB))).ss=sA++sB:=rfl;simp only[e1,e2,e3,hch,List.drop_nil,vT];rw[<-hA,Nat.add_sub_cancel_left];have:=Cv (st:=st) (fr:=fr) (tt:=tt) (rec:=fun s id fr tt=>eZ x d st f s id (depth+1) fr tt) B A sA sB s hA hB R0.od k2 fun v hv s' fr' Oz=>by
   obtain⟨B1,B2,rfl⟩:=List.append_of_mem hv;have hwz:=R0.wl v (by simp);have hsub:(bh h v.2).Sublist (aU (A++(B1++v::B2))):=by
    rw[a8,a8,bA,bV];exact List.Sublist.trans (List.sublist_cons_self _ _) (List.Sublist.trans (List.sublist_append_left _ _) (List.Sublist.trans (List.sublist_append_right _ _) (List.sublist_append_right _ _)))
   have XC:bP (cd h v.2):=by
    have:(cd h v.2).Sublist (dh (A++(B1++v::B2)) (sA++sB)):=by
     exact List.Sublist.trans (List.sublist_flatten_of_mem (List.mem_map_of_mem (f:=fun u:KT h=>cd h u.2) (by simp))) (pO _ _)
    exact R0.od.sub this
   have Gw:Gb room d (eR x) h v.2:=⟨G.sd,hwz.1,hwz.2,fun p hp=>R0.us p (hsub.subset hp),R0.nd.sublist hsub,fun y hy=>R0.is y (by rw[cT,cT,dC];simp[nK,hy]),XC,fun y hy=>R0.vl y (by rw[cf,cf,bT];simp[hy])⟩;exact Cw hr h v (depth+1) f fr' Oz s' Gw (R0.is (v.1,aT h v.2) (by rw[cT,cT,dC];simp[nK])) (by omega) (by omega)
  rw[this,oz,cf,Ct];have eA:iv fr tt (bM A)=[]:=by
   refine Cu fun y hy=>.inl ?_;have hoA:bP (dh A sA):=by
    have:=R0.od;unfold dh at this⊢;rw[List.map_append,mF _ _ (by simpa using hA)]at this;exact this.sub (List.sublist_append_left _ _)
   obtain⟨s1,h1,h2⟩:=ahead A sA hA hoA y hy;exact gu (k1 s1 h1) h2
  rw[eA,List.nil_append]
end
end P
namespace P
open N
def EK:(h:Nat)->Int->KT h->List Pg
 |0,dp,u=>[(u.1,dp,aT 0 u.2)]
 |h+1,dp,u=>(u.1,dp,aT (h+1) u.2)::((show List (KT h)from u.2.1).map (EK h (dp+1))).flatten
theorem yD {h:Nat}(dp p:Int)(K:List (KT h))(ss:List ByteArray):EK (h+1) dp (p,bG K ss)=(p,dp,⟨false,[],K.map Prod.fst,ss⟩)::(K.map (EK h (dp+1))).flatten:=rfl
theorem vU:∀(h:Nat) (dp:Int) (u:KT h),(EK h dp u).map Prod.fst=dL u
 |0,dp,u=>rfl
 |h+1,dp,(p,b)=>by
  obtain⟨K,ss,rfl⟩:=fq b;have e:∀K:List (KT h),((K.map (EK h (dp+1))).flatten).map Prod.fst=aU K:=fun K=>by
   induction K with
   |nil=>rfl
   |cons v K ih=>rw[List.map_cons,List.flatten_cons,List.map_append,ih,vU h (dp+1) v,bA]
  rw[yD,List.map_cons,e K];rfl
section
variable {room:Nat}{d:Dk}{x:TX}
theorem Cy (h:Nat)(dp:Int)(u:KT h):(EK h dp u).length=(dL u).length:=by rw[<-vU h dp u,List.length_map]
theorem I3 {h:Nat}{rec:List Pg->Int->Option (List Pg×Int)}{dp:Int}:∀(K:List (KT h)) (s:List Pg),(aU K).Nodup->(∀k∈aU K,∀p∈s,p.1≠k)->s.length+(aU K).length<=100000->
  (∀u∈K,∀s:List Pg,(∀k∈dL u,∀p∈s,p.1≠k)->s.length+(dL u).length<=100000->rec s u.1=some (s++EK h dp u,0))->
  tj rec (K.map Prod.fst) s=some (s++(K.map (EK h dp)).flatten,0)
 |[],s,_,_,_,_=>by simp[tj]
 |u::K,s,nd,hn,hl,hrec=>by
  rw[bA]at nd hn hl;obtain⟨n1,n2,n3⟩:=List.nodup_append.1 nd;rw[List.length_append]at hl;have r1:=hrec u (by simp) s (fun k hk=>hn k (List.mem_append_left _ hk)) (by omega);have q1:=I3 (dp:=dp) K (s++EK h dp u) n2 (fun k hk p hp=>by
   rcases List.mem_append.1 hp with hp|hp
   ·exact hn k (List.mem_append_right _ hk) p hp
   ·have h1:p.1∈dL u:=by rw[<-vU h dp u];exact List.mem_map_of_mem hp
    exact fun e=>n3 p.1 h1 k hk e) (by rw[List.length_append,Cy];omega) (fun v hv=>hrec v (by simp[hv]))
  rw[List.map_cons,tj,r1];simp only;rw[if_neg (by simp),q1];simp
theorem Cz (hr:room<=16384):∀(h:Nat) (u:KT h) (depth:Int) (f:Nat) (s:List Pg),Gb room d (eR x) h u.2->(eR x).vw d u.1=(aT h u.2,0)->(dL u).Nodup->(∀k∈dL u,∀p∈s,p.1≠k)->s.length+(dL u).length<=100000->0<=depth->depth+h<24->h<f->
  fG x d f s u.1 depth=some (s++EK h depth u,0)
 |h,_,_,0,_,_,_,_,_,_,_,_,hf=>absurd hf (by omega)
 |0,u,depth,f+1,s,G,rd,nd,hn,hl,h0,hd,hf=>by
  have hrd:cM x d u.1 depth=(aT 0 u.2,0):=by
   have h1:=(eR x).gy d u.1 depth (by omega);rw[rd]at h1;rw[<-h1];unfold Dr.read;rw[if_neg (by simp[eR])];rfl
  have e0:dL u=[u.1]:=rfl;have h1:(s.any fun p=>decide (p.1=u.1))=false:=by
   rw[List.any_eq_false];intro p hp;simpa using hn u.1 (by rw[e0];simp) p hp
  rw[fG,hrd,if_neg (by simp),if_neg (by rw[G.sm hr,h1];simp;omega)];rfl
 |h+1,(p,b),depth,f+1,s,G,rd,nd,hn,hl,h0,hd,hf=>by
  obtain⟨K,ss,rfl⟩:=fq b;have hrd:cM x d p depth=(aT (h+1) (bG K ss),0):=by
   have h1:=(eR x).gy d p depth (by omega);rw[rd]at h1;rw[<-h1];unfold Dr.read;rw[if_neg (by simp[eR])];rfl
  have R0:=G.rw;have e0:dL ((p,bG K ss):KT (h+1))=p::aU K:=rfl;rw[e0]at nd hn hl;obtain⟨n1,n2⟩:=List.nodup_cons.1 nd;have h1:(s.any fun q=>decide (q.1=p))=false:=by
   rw[List.any_eq_false];intro q hq;simpa using hn p (by simp) q hq
  rw[List.length_cons]at hl;rw[fG,hrd,if_neg (by simp),if_neg (by rw[G.sm hr,h1];simp;omega)];have:=I3 (h:=h) (rec:=fun s k=>fG x d f s k (depth+1)) (dp:=depth+1) K (s++[(p,depth,aT (h+1) (bG K ss))]) n2 (fun k hk q hq=>by
   rcases List.mem_append.1 hq with hq|hq
   ·exact hn k (List.mem_cons_of_mem _ hk) q hq
   ·rw[List.mem_singleton.1 hq];exact fun e=>n1 (by rw[show p=k from e];exact hk)) (by rw[List.length_append,List.length_singleton];omega) (fun v hv s' hs' hl'=>by
   obtain⟨B1,B2,rfl⟩:=List.append_of_mem hv
   have hwz:=R0.wl v (by simp)
   have hsub:(bh h v.2).Sublist (aU (B1++v::B2)):=by
    rw[a8,bA,bV]
    exact List.Sublist.trans (List.sublist_cons_self _ _) (List.Sublist.trans (List.sublist_append_left _ _) (List.sublist_append_right _ _))
   have XC:bP (cd h v.2):=R0.od.sub (List.Sublist.trans (List.sublist_flatten_of_mem (List.mem_map_of_mem (f:=fun u:KT h=>cd h u.2) (by simp))) (pO _ _))
   have Gw:Gb room d (eR x) h v.2:=⟨G.sd,hwz.1,hwz.2,fun p hp=>R0.us p (hsub.subset hp),R0.nd.sublist hsub,fun y hy=>R0.is y (by rw[cT,dC];simp[nK,hy]),XC,fun y hy=>R0.vl y (by rw[cf,bT];simp[hy])⟩
   exact Cz hr h v (depth+1) f s' Gw (R0.is (v.1,aT h v.2) (by rw[cT,dC];simp[nK])) (R0.nd.sublist (by rw[a8,bA];exact List.Sublist.trans (List.sublist_append_left _ _) (List.sublist_append_right _ _))) hs' hl' (by omega) (by omega) (by omega))
  rw[yD];show tj (fun s k=>fG x d f s k (depth+1)) (K.map Prod.fst) _=_;rw[this];simp[bR]
end
end P
namespace P
open N
def uu (sA:List ByteArray)(lo:ByteArray):ByteArray:=sA.getLast?.getD lo
def CG (sB:List ByteArray)(hi:ByteArray):ByteArray:=sB.head?.getD hi
def Zm (lo hi:ByteArray)(l:List It):Prop:=∀x∈l,bD x.2 lo=false∧(hi=⟨#[]⟩∨bD x.2 hi=true)
def WB:(h:Nat)->BT h->ByteArray->ByteArray->Prop
 |0,l,lo,hi=>cQ (aT 0 l)=true∧bS (aT 0 l)=true∧dM (aT 0 l)<=240∧(show List En from l)≠[]∧∀x∈(show List En from l),bD x.1 lo=false∧(hi=⟨#[]⟩∨bD x.1 hi=true)
 |h+1,t,lo,hi=>cQ (aT (h+1) t)=true∧bS (aT (h+1) t)=true∧dM (aT (h+1) t)<=240∧t.2.length+1=t.1.length∧∀(A:List (KT h)) (u:KT h) (B:List (KT h)) (sA sB:List ByteArray),t.1=A++u::B->t.2=sA++sB->A.length=sA.length->
   bD (uu sA lo) lo=false∧(hi=⟨#[]⟩∨bD hi (CG sB hi)=false)∧WB h u.2 (uu sA lo) (CG sB hi)
theorem I4 (k:ByteArray):bD k ⟨#[]⟩=false:=by
 unfold bD;rw[show(⟨#[]⟩:ByteArray).toList=[]from by simp];cases k.toList<;>rfl
section
variable {room:Nat}{d:Dk}{S:Dr}
theorem OD (hr:room<=16384):∀(h:Nat) (b:BT h) (lo hi:ByteArray),Gb room d S h b->Zm lo hi (cd h b)->WB h b lo hi
 |0,b,lo,hi,G,bd=>by
  refine⟨kq b G.od G.vl,G.sm hr,G.sz,G.wl,fun x hx=>?_⟩;exact bd (false,x.1) (List.mem_map_of_mem (f:=fun(x:En)=>((false,x.1):It)) hx)
 |h+1,b,lo,hi,G,bd=>by
  obtain⟨K,ss,rfl⟩:=fq b;have R0:=G.rw;refine⟨Ci hr G.sd _ G.wl G.us G.od G.vl,G.sm hr,G.sz,G.wl.1,fun A u B sA sB e1 e2 hA=>?_⟩;have e1:K=A++u::B:=e1;have e2:ss=sA++sB:=e2;subst e1 e2;have hl:(sA++sB).length+1=(A++u::B).length:=G.wl.1;have hB:B.length=sB.length:=by simp at hl;omega
  have hwz:=R0.wl u (by simp);have bd:Zm lo hi (dh (A++u::B) (sA++sB)):=bd;have od:bP (dh (A++u::B) (sA++sB)):=R0.od;rw[eQ hA]at bd od;have hsub:(bh h u.2).Sublist (aU (A++u::B)):=by
   rw[a8,bA,bV];exact List.Sublist.trans (List.sublist_cons_self _ _) (List.Sublist.trans (List.sublist_append_left _ _) (List.sublist_append_right _ _))
  have Gw:Gb room d S h u.2:=⟨G.sd,hwz.1,hwz.2,fun p hp=>R0.us p (hsub.subset hp),R0.nd.sublist hsub,fun y hy=>R0.is y (by rw[cT,dC];simp[nK,hy]),od.sub (List.Sublist.trans (List.sublist_append_left _ _) (List.sublist_append_right _ _)),fun y hy=>R0.vl y (by rw[cf,bT];simp[hy])⟩;have Uw:∀s∈sA,(true,s)∈dh A sA:=fun s hs=>by
   have:=(gT (A.map fun(u:KT h)=>cd h u.2) sA (by simp;omega)).subset (List.mem_map_of_mem (f:=fun s=>((true,s):It)) hs);exact this
  have hlast:uu sA lo=lo∨uu sA lo∈sA:=by
   unfold uu;cases hs:sA.getLast? with
   |none=>exact .inl rfl
   |some s=>exact .inr (List.mem_of_getLast? hs)
  have hhead:(sB=[]∧CG sB hi=hi)∨∃s lh,sB=s::lh∧CG sB hi=s:=by
   cases sB with
   |nil=>exact .inl ⟨rfl,rfl⟩
   |cons s lh=>exact .inr ⟨s,lh,rfl,rfl⟩
  have Zn:∀s lh,sB=s::lh->(true,s)∈jw (B.map fun u=>cd h u.2) sB:=fun s lh e=>by
   subst e;cases B with
   |nil=>simp at hB
   |cons v B=>rw[List.map_cons,iL];simp
  obtain⟨p1,p2,p3⟩:=List.pairwise_append.1 od.up;obtain⟨p4,p5,p6⟩:=List.pairwise_append.1 p2;refine⟨?_,?_,OD hr h u.2 _ _ Gw fun x hx=>⟨?_,?_⟩⟩
  ·rcases hlast with e|hm
   ·rw[e];exact dE _
   ·exact(bd _ (List.mem_append_left _ (Uw _ hm))).1
  ·rcases hhead with⟨_,e⟩| ⟨s,lh,es,e⟩
   ·rw[e];exact .inr (dE _)
   ·rw[e];rcases(bd _ (List.mem_append_right _ (List.mem_append_right _ (Zn s lh es)))).2 with h1|h1
    ·exact .inl h1
    ·exact .inr (gF h1)
  ·rcases hlast with e|hm
   ·rw[e];exact(bd x (List.mem_append_right _ (List.mem_append_left _ hx))).1
   ·have h1:=p3 _ (Uw _ hm) x (List.mem_append_left _ hx);by_cases hb:x.1=true
    ·have h2:bD (uu sA lo) x.2=true:=by simpa[RI,hb]using h1
     exact gF h2
    ·simpa[RI,hb]using h1
  ·rcases hhead with⟨_,e⟩| ⟨s,lh,es,e⟩
   ·rw[e];exact(bd x (List.mem_append_right _ (List.mem_append_left _ hx))).2
   ·rw[e];have h1:=p6 x hx (true,s) (Zn s lh es);exact .inr (by simpa[RI]using h1)
theorem Nk (hr:room<=16384){h:Nat}{b:BT h}(G:Gb room d S h b):WB h b ⟨#[]⟩ ⟨#[]⟩:=OD hr h b _ _ G fun x _=>⟨I4 _,.inl rfl⟩
end
end P
namespace P
open N
section
variable {x:TX}{d:Dk}{key:ByteArray}
theorem yE {n:Nd}(h:cQ n=true)(hs:dM n<=240):bS n=true:=by
 cases hl:n.leaf with
 |true=>
  obtain⟨e1,e2,e3⟩:=(dJ hl).1 h;unfold dM at hs;rw[if_pos hl]at hs;have h1:2*n.es.length<=cx n.es:=jg;simp only[bS,e1,e2,Bool.and_eq_true,decide_eq_true_eq,bN,List.all_nil,List.length_nil];refine⟨⟨⟨⟨⟨?_,?_⟩,?_⟩,?_⟩,?_⟩,trivial⟩<;>omega
 |false=>
  obtain⟨e1,e2,e3,e4,e5⟩:=(cX hl).1 h;unfold dM at hs;rw[if_neg (by rw[hl];simp)]at hs;have h1:5*n.ss.length<=bN n.ss:=jh;simp only[bS,e1,Bool.and_eq_true,decide_eq_true_eq,cx,List.all_eq_true,List.length_nil];refine⟨⟨⟨⟨⟨?_,?_⟩,?_⟩,?_⟩,?_⟩,fun k hk=>?_⟩
  ·omega
  ·omega
  ·omega
  ·omega
  ·omega
  ·have:=o0 e4 hk;unfold oF at this;simp only[decide_eq_true_eq]at this;omega
theorem gK (k:Int)(s:ByteArray):(jr k s).2=0->cQ (jr k s).1=true∧dM (jr k s).1<=240:=fun h=>by
 unfold jr jn su at h;unfold jr sr;cases hd:sO k s.data.toList with
 |none=>rw[hd]at h;exact absurd h (by simp)
 |some n=>
  obtain⟨h1,h2,_⟩:=xv hd;exact⟨h1,h2⟩
theorem CI (k:Int)(s:ByteArray):(jr k s).2=0∨(jr k s).2=3:=by
 unfold jr jn;cases su k s.data.toList<;>simp
theorem sg (id depth:Int):(cM x d id depth).2=0->cQ (cM x d id depth).1=true∧bS (cM x d id depth).1=true:=by
 unfold cM;split
 ·exact fun _=>⟨by decide,by decide⟩
 ·split
  ·intro h;cases h
  ·split
   ·split
    ·exact fun h=>⟨(gK _ _ h).1,yE (gK _ _ h).1 (gK _ _ h).2⟩
    ·rename_i h1;intro h;exact absurd h h1
   ·split
    ·exact fun h=>⟨(gK _ _ h).1,yE (gK _ _ h).1 (gK _ _ h).2⟩
    ·rename_i h1;intro h;exact absurd h h1
def Vv (x:TX)(d:Dk):Prop:=∀id k,(bO x d id k).2=0∨(bO x d id k).2=3
theorem AH (hc:Vv x d)(id depth:Int):(cM x d id depth).2=0∨(cM x d id depth).2=3:=by
 unfold cM;split
 ·exact .inl rfl
 ·split
  ·exact .inr rfl
  ·split
   ·split
    ·exact CI _ _
    ·rcases hc id 2 with h|h
     ·exact .inl h
     ·exact .inr h
   ·split
    ·exact CI _ _
    ·rcases hc id 1 with h|h
     ·exact .inl h
     ·exact .inr h
theorem CM {id depth:Int}(h:24<=depth):(cM x d id depth).1.leaf=true∨(cM x d id depth).2=3:=by
 unfold cM;split
 ·exact .inl rfl
 ·exact .inr rfl
theorem OE {ss:List ByteArray}:cY ss key<=ss.length:=List.countP_le_length
theorem I5 (hc:Vv x d):∀(f:Nat) (n:Nd) (e depth:Int),(e=0->cQ n=true∧bS n=true)->(e=0∨e=3)->0<=depth->(n.leaf=true∨e≠0∨depth<=24)->0<f->26<=f+depth∨n.leaf=true∨e≠0->
  ∃m er,AE x d key f n e depth=some (m,er)∧(er=0∨er=3)∧(er=0->bS m=true)
 |0,_,_,_,_,_,_,_,h,_=>absurd h (by omega)
 |f+1,n,e,depth,h1,h2,h3,h4,_,h6=>by
  rw[AE];by_cases hh:e=0∧n.leaf=false
  ·obtain⟨rfl,hl⟩:=hh;obtain⟨r1,r2⟩:=h1 rfl;obtain⟨e1,e2,e3,e4,e5⟩:=(cX hl).1 r1;have hch:cY n.ss key<=n.ss.length:=OE;have h4':depth<=24:=by
    rcases h4 with h|h|h
    ·rw[hl]at h;cases h
    ·exact absurd rfl h
    ·exact h
   have h6':(26:Int)<=(f+1:Nat)+depth:=by
    rcases h6 with h|h|h
    ·exact h
    ·rw[hl]at h;cases h
    ·exact absurd rfl h
   rw[if_pos ⟨rfl,hl⟩,if_neg (by rw[r2];simp;omega)];refine I5 hc f _ _ _ (sg _ _) (AH hc _ _) (by omega) ?_ (by omega) ?_
   ·by_cases hd:24<=depth
    ·rcases CM (x:=x) (d:=d) (id:=n.ks.getD (cY n.ss key) 0) hd with h|h
     ·exact .inl h
     ·exact .inr (.inl (by rw[h];omega))
    ·exact .inr (.inr (by omega))
   ·exact .inl (by omega)
  ·rw[if_neg hh];exact⟨n,e,rfl,h2,fun h=>(h1 h).2⟩
variable {σ:Type}{st:σ->En->σ×Bool}{fr tt:ByteArray}
theorem yF {rec:σ->Int->ByteArray->ByteArray->Option (σ×(Bool×Int))}{n:Nd}(hrec:∀s k f t,∃s' b e,rec s k f t=some (s',(b,e))∧(e=0∨e=3)):∀(k i:Nat) (s:σ),i+k<=n.ss.length+1->
  ∃s' b e,gU rec n fr tt k i s=some (s',(b,e))∧(e=0∨e=3)
 |0,_,s,_=>⟨s,true,0,rfl,.inl rfl⟩
 |k+1,i,s,h=>by
  rw[gU,if_neg (by omega)];split
  ·exact⟨s,true,0,rfl,.inl rfl⟩
  ·obtain⟨s',b,e,h1,h2⟩:=hrec s (n.ks.getD i 0) (ju n.ss i fr) (gA n.ss i tt);rw[h1];simp only;split
   ·exact⟨s',false,e,rfl,h2⟩
   ·exact yF hrec k (i+1) s' (by omega)
theorem yG (hc:Vv x d):∀(f:Nat) (s:σ) (id depth:Int) (fr tt:ByteArray),0<=depth->depth<=100->0<f->26<=f+depth∨25<=depth->∃s' b e,eZ x d st f s id depth fr tt=some (s',(b,e))∧(e=0∨e=3)
 |0,_,_,_,_,_,_,_,h,_=>absurd h (by omega)
 |f+1,s,id,depth,fr,tt,h0,aan,_,h6=>by
  rw[eZ];by_cases he:(cM x d id depth).2≠0
  ·rw[if_pos he];exact⟨s,false,_,rfl,AH hc _ _⟩
  ·rw[if_neg he];have he:(cM x d id depth).2=0:=Classical.not_not.1 he;obtain⟨r1,r2⟩:=sg _ _ he;rw[if_neg (by rw[r1,r2];simp;omega)];split
   ·rename_i b _
    exact⟨_,b,0,rfl,.inl rfl⟩
   ·by_cases hl:(cM x d id depth).1.leaf=true
    ·obtain⟨e1,e2,e3⟩:=(dJ hl).1 r1;rw[e1];simp only[List.length_nil,Nat.zero_sub];exact⟨_,true,0,rfl,.inl rfl⟩
    ·have hl':(cM x d id depth).1.leaf=false:=by simpa using hl
     obtain⟨e1,e2,e3,e4,e5⟩:=(cX hl').1 r1;have hd:depth<24:=by
      rcases Int.lt_or_le depth 24 with h|h
      ·exact h
      ·rcases CM (x:=x) (d:=d) (id:=id) h with h7|h7
       ·exact absurd h7 hl
       ·rw[he]at h7;cases h7
     have hch:cY (cM x d id depth).1.ss fr<=(cM x d id depth).1.ss.length:=OE;exact yF (fun s k f' t=>yG hc f s k (depth+1) f' t (by omega) (by omega) (by omega) (by omega)) _ _ _ (by omega)
end
end P
end Go.Proofs.YtceoeaemenhbhaaGreatDoor
namespace Go.Proofs.YtceoeaemenhbhaaGreatDoor
open Go.Shelf Go.RowKit Go.Lib Go.Sort
section
open N (Nd nd0 cA cQ dM iR fQ Sm cY En zG xj j8 nZ fk)
section
variable {B:Nat}{w0 w w':World}{l:List aO}{P:List NV}{C:Cx}{S S':Dr}{x:TX}{d d1:Dk}{r er Nb:Int}{bZ:pC}{key val:ByteArray}{es0:List En}{qk qv:Nat}
theorem Rk (T:bW B w0)(hst:∀C:Cx,aV B w0 C d Nb bZ)(dU:∀ {S S':Dr} {n:Nd} {depth i tt:Int} {r:Nd×Int},DI S d.room->bZ S n depth i tt=some (r,S')->DI S' d.room)(eN:∀ {S9 S8:Dr} {n9:Nd} {i9 j9 k9:Int} {r9:Nd×Int},bZ S9 n9 i9 j9 k9=some (r9,S8)->bS n9=true)(hel:∀es,((fun es=>xj es key) es).length<=es.length+1)(hr:d.room<=16384)(hNb:Nb<=1000000)(hN0:29<=Nb)(hd:bf d d1)(h:Sep B w0 w (TL C x d1 P l))(I:DI (eR x) d.room)(JK:DI S' d.room)(hF:Fin S')(hlf:sF d key es0 30 (eR x) ⟨false,[],[C.root],[]⟩ (-1))(he:jT bZ d.room d key (fun es=>xj es key) C.root (eR x)=some ((r,er),S'))(h0:C.err=0):Calls Tryz.prog 15 #[ptr C.tq,.string key] w fun e w'=>e=.returned (.tuple #[.bool (j8 es0 key&&decide (er=0)),.int .i64 er])∧GK B w0 C S' d P l r er w':=by
 have S1:Hid (Sep B w0 ((w.alloc (.cells #[.string key] 9)).alloc (.cells #[.bool false] 4)) (TL C x d1 P ((Both (aF w.heap.size (.cells #[.string key] 9)) (aF (w.heap.size+1) (.cells #[.bool false] 4)))::l))):=Sep.pb [_,_,_,_] (Sep.join (Sep.ql (Sep.aR (Sep.aP h _) _ (w.heap.size+1) (by simp))));have KG:Hid _:=ib (w.alloc (.cells #[.string key] 9)) C.tq;have KC:Hid (Calls Tryz.prog 43 #[ptr C.tq,.string key,.func (.func 46) #[] #[.pointer (some ⟨w.heap.size,0,none⟩),.pointer (some ⟨w.heap.size+1,0,none⟩)]] ((w.alloc (.cells #[.string key] 9)).alloc (.cells #[.bool false] 4)) (GH B w0 C S' d P l (Both (aF w.heap.size (.cells #[.string key] 9)) (aF (w.heap.size+1) (.cells #[.bool false] 4))) (Both (aF w.heap.size (.cells #[.string key] 9)) (aF (w.heap.size+1) (.cells #[.bool (j8 es0 key)] 4))) r er)):=uh.2 T hst (fun h1 h2=>dU h1 h2) (fun h=>eN h) (fun C=>QO) hlf hel hr hNb hN0 hd S1.out I JK hF he;obtain⟨ts,⟨t0,t1,t2⟩,_⟩:=Sep.vx (Sep.pk [_,_] (h));rw[h0]at t2;generalize j8 es0 key=gb at*;clear h h0 hst dU eN hel hr hNb hN0 hd I JK hF hlf he S1;go_enter Tryz.func15,Tryz.ntmps15
 go_wp2_with fail
 refine Calls.mono KG.out ?_;rintro e w1 ⟨rfl,rfl⟩;clear KG
 go_wp2_with fail
 generalize(w.alloc (.cells #[.string key] 9)).alloc (.cells #[.bool false] 4)=w2 at*;generalize w.heap.size+1=q1 at*;generalize w.heap.size=q0 at*;refine Calls.mono KC.out ?_;rintro e w3 ⟨rfl,P',d',V,a1,a2,a3,a4,a5⟩;have JM:Hid (GK B w0 C S' d P l r er w3):=by
  refine⟨P',d',a1,a4,?_⟩;rcases a5 with⟨b1,b2⟩| ⟨b1,L,b2,b3⟩
  ·exact .inl ⟨b1,Sep.drop (Sep.pk [_,_,_,_] (b2))⟩
  ·exact .inr ⟨b1,L,b2,Sep.drop (Sep.pk [_,_,_,_] (b3))⟩
 obtain⟨C2,x2,hS⟩:∃C2 x2,Sep B w0 w3 (TL C2 x2 d' P' (V::l)):=by
  rcases a5 with⟨b1,b2⟩| ⟨b1,L,b2,b3⟩
  ·exact⟨_,_,b2⟩
  ·exact⟨_,_,b3⟩
 have HA:Hid (er=0->V=(Both (aF q0 (.cells #[.string key] 9)) (aF q1 (.cells #[.bool gb] 4)))):=a3;clear KC a1 a4 a5 a3 t0 t1 t2 ts;by_cases e0:er=0
 ·subst e0;have hV:=HA.out rfl;subst hV;have S3:Hid (Sep B w0 w3 (TL C2 x2 d' P' ((Both (aF q0 (.cells #[.string key] 9)) (aF q1 (.cells #[.bool gb] 4)))::l))):=hS;clear hS a2 HA;cases gb with
  |false=>
   obtain⟨vs,v1,_⟩:=Sep.c1 (Sep.pk [_] (Sep.dV (Sep.pk [_,_,_,_] (S3.out))));have HG:Hid (GK B w0 C S' d P l r 0 w3):=JM.out;clear S3 JM;go_wp2;go_ret2;exact⟨rfl,HG.out⟩
  |true=>
   obtain⟨vs,v1,_⟩:=Sep.c1 (Sep.pk [_] (Sep.dV (Sep.pk [_,_,_,_] (S3.out))));have HG:Hid (GK B w0 C S' d P l r 0 w3):=JM.out;clear S3 JM;go_wp2;go_ret2;exact⟨rfl,HG.out⟩
 ·have hne:(er==0)=false:=beq_eq_false_iff_ne.2 e0;have HN:Hid (er≠0):=e0;rcases a2 with rfl|rfl
  ·have S3:Hid (Sep B w0 w3 (TL C2 x2 d' P' ((Both (aF q0 (.cells #[.string key] 9)) (aF q1 (.cells #[.bool false] 4)))::l))):=hS;clear hS HA e0;obtain⟨vs,v1,_⟩:=Sep.c1 (Sep.pk [_] (Sep.dV (Sep.pk [_,_,_,_] (S3.out))));have HG:Hid (GK B w0 C S' d P l r er w3):=JM.out;clear S3 JM;go_wp2;go_ret2;exact⟨by simp[HN.out],HG.out⟩
  ·have S3:Hid (Sep B w0 w3 (TL C2 x2 d' P' ((Both (aF q0 (.cells #[.string key] 9)) (aF q1 (.cells #[.bool gb] 4)))::l))):=hS;clear hS HA e0;cases gb with
   |false=>
    obtain⟨vs,v1,_⟩:=Sep.c1 (Sep.pk [_] (Sep.dV (Sep.pk [_,_,_,_] (S3.out))));have HG:Hid (GK B w0 C S' d P l r er w3):=JM.out;clear S3 JM;go_wp2;go_ret2;exact⟨by simp[HN.out],HG.out⟩
   |true=>
    obtain⟨vs,v1,_⟩:=Sep.c1 (Sep.pk [_] (Sep.dV (Sep.pk [_,_,_,_] (S3.out))));have HG:Hid (GK B w0 C S' d P l r er w3):=JM.out;clear S3 JM;go_wp2;go_ret2;exact⟨by simp[HN.out],HG.out⟩
end
end
namespace P
open N (Nd nd0 cA cQ dM iR fQ Sm cY En zG xj j8 nZ fk dg fX tK oY kR kH tJ Rg bD cF)
theorem AJ {d:Dk}{key:ByteArray}{es:List En}:∀(f:Nat) (S:Dr) (n:Nd) (depth:Int),Et d key es f S n depth->sF d key es f S n depth
 |0,_,_,_,_=>trivial
 |f+1,S,n,depth,h=>by
  rw[Et]at h;rw[sF];split
  ·rename_i hl
   rw[if_pos hl]at h;exact h
  ·rename_i hl
   rw[if_neg hl]at h;exact fun h0=>AJ f S _ _ (h h0)
theorem CQ {α:Type}[DecidableEq α]:∀ {l m:List α},l.Nodup->(∀a∈l,a∈m)->l.length<=m.length
 |[],_,_,_=>Nat.zero_le _
 |x::l,m,nd,hs=>by
  obtain⟨n1,n2⟩:=List.nodup_cons.1 nd;have h1:=CQ (l:=l) (m:=m.erase x) n2 (fun a ha=>(List.mem_erase_of_ne (fun e=>n1 (by rw[<-e];exact ha))).2 (hs a (List.mem_cons_of_mem _ ha)));have h2:=List.length_erase_of_mem (hs x (List.mem_cons_self ..));have h3:0<m.length:=List.length_pos_of_mem (hs x (List.mem_cons_self ..));rw[List.length_cons];omega
theorem CU (x:En):∀l,(kR x l).length=l.length+1
 |[]=>rfl
 |y::l=>by
  unfold kR;split
  ·simp
  ·simp[CU x l]
theorem CV (key val:ByteArray)(es:List En):(Ox key val es).length<=es.length+1:=by
 unfold Ox tK oY;split
 ·rw[CU];have:=List.length_filter_le (fun x:En=>!decide (x.1=key)) es;omega
 ·omega
theorem Nl (key:ByteArray)(es:List En):(Ss key es).length<=es.length+1:=by
 unfold Ss oY;split
 ·have:=List.length_filter_le (fun x:En=>!decide (x.1=key)) es;omega
 ·omega
section
variable {B:Nat}{w0 w:World}{C:Cx}{x:TX}{d d1:Dk}{P:List NV}{l:List aO}{key val:ByteArray}{E:List En}{X:List Int}{H:Nat}
theorem Sd.di {room:Nat}{S:Dr}(h:Sd room S):DI S room:=⟨h.x,h.bz,h.fi⟩
theorem Sd.fin {room:Nat}{S:Dr}(hr:room<=16384)(h:Sd room S)(h1:S.taken.length<=100000)(h2:S.spare.length<=100000)(h3:S.cnt<=100000)(h4:S.x.cnt+S.cnt<1000000):Fin S:=by
 have key:∀k,(S.x.fresh k).isSome=true->Wf k:=fun k hk=>by
  have:=h.x.fs k hk;have:=h.x.pr;exact⟨by omega,by omega⟩
 exact⟨h1,fun k hk=>key k (h.tk k hk),h2,fun k hk=>key k (h.sp k hk),h3,h4,fun k hk=>key k (h.nf k hk).1⟩
theorem OG (room:Nat)(d:Dk)(f:Nat):∀ {S S':Dr} {n:Nd} {depth i tt:Int} {r:Nd×Int},DI S room->bj room d f S n depth i tt=some (r,S')->DI S' room:=fun h he=>DI.settle f h he
theorem OH (room:Nat)(d:Dk)(f:Nat):∀ {S9 S8:Dr} {n9:Nd} {i9 j9 k9:Int} {r9:Nd×Int},bj room d (f+1) S9 n9 i9 j9 k9=some (r9,S8)->bS n9=true:=fun {S9 S8 n9 i9 j9 k9 r9} he=>by
 unfold bj at he;rw[aY]at he;cases hs:bS n9 with
 |true=>rfl
 |false=>rw[if_pos (.inl hs)]at he;cases he
def GX (B:Nat)(w0:World)(C:Cx)(x:TX)(d:Dk)(P:List NV)(l:List aO)(X:List Int)(H:Nat)(E':List En)(er:Int)(w':World):Prop:=
 ∃P' d',(∀y∈P,y∈P')∧bf d d'∧((er=2∧(Mn d.room x X->x.cap d.room<=4*H+4)∧∃x',Sep B w0 w' (TL (C.yi 2) x' d' P' l))∨
  (er=0∧∃x' r X' H',Tx d.room d x' r E' X' H'∧(Mn d.room x X->Mn d.room x' X')∧x'.cnt<=x.cnt+X.length+4*H+6+X'.length∧Sep B w0 w' (TL (C.eI r) x' d' P' l)))
theorem OJ {S':Dr}{r er:Int}{E':List En}{w':World}(g:GK B w0 C S' d P l r er w')(h1:er≠0->er=2∧(Mn d.room x X->x.cap d.room<=4*H+4))(h2:S'.x.cnt<=x.cnt+X.length+4*H+6)
  (h3:er=0->∃X' H',∀L,(∀k,k∈L↔(S'.nodes k).isSome=true)->Tx d.room d (cH S'.nodes (aH S'.x S'.spare) L) r E' X' H'∧(Mn d.room x X->Mn d.room (cH S'.nodes (aH S'.x S'.spare) L) X')∧(cH S'.nodes (aH S'.x S'.spare) L).cnt=S'.x.cnt+L.length∧∀k∈L,k∈X'):GX B w0 C x d P l X H E' er w':=by
 obtain⟨P',d',m1,m2,m3⟩:=g;refine⟨P',d',m1,m2,?_⟩;rcases m3 with⟨he,s⟩| ⟨he,L,⟨lp,lm⟩,s⟩
 ·obtain⟨e2,hc⟩:=h1 he;subst e2;exact .inl ⟨rfl,hc,_,s⟩
 ·obtain⟨X',H',q⟩:=h3 he;obtain⟨q1,q2,q3,q4⟩:=q L lm;have nd:L.Nodup:=lp.imp fun hab e=>by omega
  have hl:=CQ nd q4;exact .inr ⟨he,_,r,X',H',q1,q2,by omega,s⟩
theorem Rl (T:bW B w0)(hr:d.room<=16384)(hd:bf d d1)(h:Sep B w0 w (TL C x d1 P l))(h0:C.err=0)(hm:dg key val=true)(TT:Tx d.room d x C.root E X H)(hX:X.length<=3000)(hH:H<=20)(hc:x.cnt<=800000):
  Calls Tryz.prog 12 #[ptr C.tq,.string key,.string val] w fun e w'=>∃er,e=.returned (.int .i64 er)∧GX B w0 C x d P l X H (tK E key val) er w':=by
 obtain⟨es,r,er,S',lf,g1,g2,⟨b1,b2,b3,b4⟩,g3,g4,g5⟩:=Oy (f:=10000) (m:=0) hr (Nh hm) TT (by omega) (by omega) ⟨by show 0+_<_;omega,by show x.cnt+_<_;omega,by show 0+_<_;omega,by show 0+_<_;omega⟩;have hE:=TT.ts.rg;refine(QP (es0:=es) (bZ:=bj d.room d 10000) (Nb:=90000) T (fun C=>rI T hr 10000) (OG d.room d 10000) (OH d.room d 9999) (CV key val) hr (by omega) (by omega) hd h TT.ts.sd.di g2.di (g2.fin hr (by omega) (by omega) (by omega) (by omega)) (AJ _ _ _ _ lf) g1 h0 (by unfold fk;rw[if_pos hm])).mono fun e w' hh=>?_;obtain⟨he,gk⟩:=hh;refine⟨er,he,OJ gk g3 b2 fun h00=>?_⟩;obtain⟨X',H',E',EL,ER,q1,q2,q3⟩:=g5 h00;refine⟨X',H',fun L hL=>?_⟩;obtain⟨t1,t2,t3,t4⟩:=q3 L hL;have eE:=q1.put hm hE t1.ts.rg;rw[eE]at t1;exact⟨t1,t2,t3,t4⟩
theorem Rm (T:bW B w0)(hr:d.room<=16384)(hd:bf d d1)(h:Sep B w0 w (TL C x d1 P l))(h0:C.err=0)(TT:Tx d.room d x C.root E X H)(hX:X.length<=3000)(hH:H<=20)(hc:x.cnt<=800000):
  Calls Tryz.prog 15 #[ptr C.tq,.string key] w fun e w'=>∃er,e=.returned (.tuple #[.bool (kH E key&&decide (er=0)),.int .i64 er])∧GX B w0 C x d P l X H (oY E key) er w':=by
 obtain⟨es,r,er,S',lf,g1,g2,⟨b1,b2,b3,b4⟩,g3,⟨EL,ER,rfl,lo,hi⟩,g5⟩:=Oy (f:=10000) (m:=0) hr (Ni key) TT (by omega) (by omega) ⟨by show 0+_<_;omega,by show x.cnt+_<_;omega,by show 0+_<_;omega,by show 0+_<_;omega⟩;have hE:=TT.ts.rg;have hg:j8 es key=kH (EL++(es++ER)) key:=by
  unfold j8;rw[N.fY (nR hE),Bool.true_and,yz lo hi]
 refine(Rk (es0:=es) (bZ:=bj d.room d 10000) (Nb:=90000) T (fun C=>rI T hr 10000) (OG d.room d 10000) (OH d.room d 9999) (Nl key) hr (by omega) (by omega) hd h TT.ts.sd.di g2.di (g2.fin hr (by omega) (by omega) (by omega) (by omega)) (AJ _ _ _ _ lf) g1 h0).mono fun e w' hh=>?_;obtain⟨he,gk⟩:=hh;refine⟨er,by rw[<-hg];exact he,OJ gk g3 b2 fun h00=>?_⟩;obtain⟨X',H',E',EL',ER',q1,q2,q3⟩:=g5 h00;refine⟨X',H',fun L hL=>?_⟩;obtain⟨t1,t2,t3,t4⟩:=q3 L hL;have eE:=q1.del hE t1.ts.rg;rw[eE]at t1;exact⟨t1,t2,t3,t4⟩
end
end P
section
open N (Nd nd0 cA cQ dM iR fQ Sm cY En zG xj j8 nZ fk bc hidR aq aj Ch aQ ah waits)
def I6 (B:Nat)(w0:World)(C:Cx)(x:TX)(c1 c2 c3:Value)(es0:List En)(U U':aO):Prop:=
 ∀ {w:World} {d:Dk} {P:List NV} {l:List aO} {p:NV},Sep B w0 w (TL C x d P (U::l))->p∈P->p.n.es=es0->p.n.es.length<=500->
  Calls Tryz.prog 50 #[.slice p.ae p.n.es.length p.ce,c1,c2,c3] w fun e w'=>e=.returned (.tuple #[])∧Sep B w0 w' (TL C x d P (U'::l))
def JL (B:Nat)(w0:World)(C:Cx)(x:TX)(d:Dk)(P:List NV)(U:aO)(l:List aO)(q7:Nat)(cs:Array Value)(nn:Nd)(er:Int)(f9 f13:Bool)(v:Value)(w:World):Prop:=
 (f9=false->Sep B w0 w (TL C x d P (U::aF q7 (.cells cs 74)::l)))∧(f9=true->∃p d',p.n=nn∧v=.tuple #[.agg (cN p),.int .i64 er]∧gj d d' 2∧(f13=false->Sep B w0 w (TL C x d' (p::P) (U::aF q7 (.cells cs 74)::l)))∧(f13=true->Sep B w0 w (TL C x d' (p::P) (U::aF q7 (.cells (cN p) 74)::l))))∧(f13=true->f9=true)
section
variable {B:Nat}{w0 w:World}{l:List aO}{P:List NV}{C:Cx}{x:TX}{d d1:Dk}{key:ByteArray}{c1 c2 c3:Value}{es0:List En}{U U':aO}{m:Nd}{er:Int}
def Zo (B:Nat)(w0:World)(C:Cx)(x:TX)(d:Dk)(P:List NV)(U U':aO)(l:List aO)(er:Int)(e:Ending)(w':World):Prop:=
 e=.returned (.int .i64 er)∧∃P' d' V,(∀y∈P,y∈P')∧bf d d'∧(er=0->V=U')∧(er≠0->V=U)∧Sep B w0 w' (TL C x d' P' (V::l))
def JLr (B:Nat)(w0:World)(CC:Cx)(x:TX)(d:Dk)(P:List NV)(U:aO)(l:List aO)(nn:Nd)(er:Int)(q7 r ro Sn ck t:Nat)(kid dp:Int)(key:ByteArray)(cs:Array Value){y2 y3 y4 y5 y6 uW rz rA y13 sR oK oL rB uX uY y20 y21 y22 y23 y24 y25 xI y27 y28 y29 xJ y31 y32 vh y34 sV sW zR zS zT zU zV zW GV:Value}(C:List Bool->Act->Prop)(w:World):Prop:=∀{f0 f1 f2 f3 f4 f5 f6 f7 f8 f9 f10 f11 f12 f13 f14:Bool}{x8 Lh x38 x39 x40 x41 Vw x43 Vx Vy Vz Su VC VD:Value},f14=false->JL B w0 CC x d P U l q7 cs nn er f9 f13 Su w->Hid (f0=true->x38=ptr CC.tq)->Hid (f1=true->x39=.pointer (some ⟨q7,2,none⟩))->Hid (f2=true->x40=.slice (some ⟨r,ro,none⟩) Sn ck)->Hid (f3=true->x41=.agg cs)->Hid (f4=true->Vw=.string key)->Hid (f5=true->f3=true∧x43=.int .i64 (t:Int))->Hid (f6=true->f2=true∧f5=true∧Vx=.pointer (some ⟨r,ro+t,none⟩))->Hid (f7=true->f6=true∧Vy=.int .i64 kid)->Hid (f8=true->Vz=.int .i64 dp)->Hid (f9=true->f2=true∧f3=true∧f5=true∧f6=true∧f7=true∧True)->Hid (f10=true->f9=true∧Lh=Su)->Hid (f11=true->f9=true∧Su=.tuple #[VC,.int .i64 er])->Hid (f12=true->f9=true∧VD=.int .i64 er)->Hid (f13=true->True)->C [f0,f1,f2,f3,f4,f5,f6,f7,f8,f9,f10,f11,f12,f13,f14] {tmps:=#[ptr CC.tq,.string key,y2,y3,y4,y5,y6,.pointer (some ⟨q7,0,none⟩),x8,.int .i64 dp,uW,rz,rA,y13,sR,oK,oL,rB,uX,uY,y20,y21,y22,y23,y24,y25,xI,y27,y28,y29,xJ,y31,y32,vh,y34,sV,sW,Lh,x38,x39,x40,x41,Vw,x43,Vx,Vy,Vz,Su,VC,VD,zR,zS,zT,zU,zV,zW,GV],defers:=[]}
theorem Rn {f:Nat}(T:bW B w0)(hr:d.room<=16384)(ok:x.Ok d.room)(hz:x.Sz)(h0:C.err=0)(hu:I6 B w0 C x c1 c2 c3 es0 U U')(hw:Wf C.root)(hd:bf d d1)(h:Sep B w0 w (TL C x d1 P (U::l)))(he:AE x d key f (cM x d C.root 0).1 (cM x d C.root 0).2 1=some (m,er))(hes:er=0->m.es=es0∧m.es.length<=500):
  Calls Tryz.prog 49 #[ptr C.tq,.string key,.func (.func 50) #[] #[c1,c2,c3]] w (Zo B w0 C x d P U U' l er):=by
 have VE:Hid _:=rG (id:=C.root) (depth:=0) T h hw (by rw[hd.room];exact ok) (by rw[hd.room];exact hr) hz;rw[hd.cM]at VE;have HU:Hid (I6 B w0 C x c1 c2 c3 es0 U U'):=hu;have Zp:Hid (er=0->m.es=es0∧m.es.length<=500):=hes;have HX:Hid (d.room<=16384∧x.Ok d.room∧x.Sz):=⟨hr,ok,hz⟩;have HD0:Hid (bf d d1):=hd;have JJ:Hid (AE x d key f (cM x d C.root 0).1 (cM x d C.root 0).2 1=some (m,er)):=he;obtain⟨ts,⟨t0,t1,t2⟩,_⟩:=Sep.vx (Sep.pk [_,_] h);rw[h0]at t2;clear h hu hes hr ok hz hd he;generalize cM x d C.root 0=rr at*;obtain⟨n0,e0⟩:=rr;simp only at VE JJ;go_enter Tryz.func49,Tryz.ntmps49
 go_wp2_with fail
 refine Calls.mono VE.out ?_;rintro e v1 ⟨p0,d2,hn0,rfl,hd2,s1⟩;subst hn0;unfold NV.v;have D2:Hid (bf d d2):=HD0.out.trans ⟨_,hd2⟩;have S1:Hid (Sep B w0 (v1.alloc (.cells (cN p0) 74)) (TL C x d2 (p0::P) (U::aF v1.heap.size (.cells (cN p0) 74)::l))):=Sep.pb [_,_,_,_,_] (Sep.aR s1 _ _ rfl);clear VE hd2 s1 t0 t1 t2 ts HD0;go_wp2;generalize v1.heap.size=q7 at*;generalize World.alloc _ _=v2 at*
 go_loopg [8,9] f (fun kx s8 s9 wr=>∃(g:Nat) (pc:NV) (Pc:List NV) (dc:Dk) (ec dp:Int),s8=.int .i64 ec∧s9=.int .i64 dp∧g<=kx∧Hid (1<=dp)∧Hid (AE x d key g pc.n ec dp=some (m,er))∧Hid (pc∈Pc∧∀y∈P,y∈Pc)∧Hid (bf d dc)∧Hid (Sep B w0 wr (TL C x dc Pc (U::aF q7 (.cells (cN pc) 74)::l))))
 case atStart=>exact⟨f,p0,p0::P,d2,e0,1,rfl,rfl,Nat.le_refl _,(by show(1:Int)<=1;omega),JJ.out,⟨List.mem_cons_self ..,fun _ h=>List.mem_cons_of_mem _ h⟩,D2.out,S1.out⟩
 case round=>
  clear S1 D2 JJ;obtain⟨g,pc,Pc,dc,ec,dp,rfl,rfl,T7,Zq,HE,HP,HD,HS⟩:=hrel;cases g with
  |zero=>
   have:=HE.out;cases this
  |succ g=>
   have hE:=HE.out;unfold AE at hE;obtain⟨_,⟨c0,c1',c2',c3'⟩,g0,g1,g2,g3⟩:=Sep.c4 (Sep.pk [_,_,_,_,_] HS.out);clear HE;by_cases hc:ec=0∧pc.n.leaf=false
   ·rw[if_pos hc]at hE;obtain⟨rfl,hlf⟩:=hc;by_cases hn:bS pc.n=false∨pc.n.ks.length<=cY pc.n.ss key∨1000<dp
    ·rw[if_pos hn]at hE;cases hE
    rw[if_neg hn]at hE;have hnn:bS pc.n=true∧cY pc.n.ss key<pc.n.ks.length∧dp<=1000:=by
     refine⟨?_,by omega,by omega⟩;cases hx:bS pc.n
     ·exact absurd (.inl hx) hn
     ·rfl
    obtain⟨hsm,hkl,hdp⟩:=hnn;obtain⟨jt,_,_,_,hwk⟩:=eH hsm;obtain⟨ae,ce,ak,ck,az,cz,n⟩:=pc;simp only at*;obtain⟨r,ro,rfl,_,_⟩:=NV.kid (p:=⟨ae,ce,ak,ck,az,cz,n⟩) (Sep.pool (Sep.pk [_,_,_] HS.out) _ HP.out.1) (i:=cY n.ss key) hkl;have Ux:Hid (Wf (n.ks.getD (cY n.ss key) 0)):=by
     refine hwk _ ?_;rw[List.getD_eq_getElem?_getD,List.getElem?_eq_getElem hkl];exact List.getElem_mem _
    have KC:Hid (∀u,Sep B w0 u (TL C x dc Pc (U::aF q7 (.cells #[.bool n.leaf,.slice ae n.es.length ce,.slice (some ⟨r,ro,none⟩) n.ks.length ck,.slice az n.ss.length cz] 74)::l))->Calls Tryz.prog 86 #[.agg #[.bool n.leaf,.slice ae n.es.length ce,.slice (some ⟨r,ro,none⟩) n.ks.length ck,.slice az n.ss.length cz],.string key] u fun e w'=>e=.returned (.int .i64 (cY n.ss key))∧Sep B w0 w' (TL C x dc Pc (U::aF q7 (.cells #[.bool n.leaf,.slice ae n.es.length ce,.slice (some ⟨r,ro,none⟩) n.ks.length ck,.slice az n.ss.length cz] 74)::l))):=fun u hu=>(N.nG n key _ _ _ u (Sep.pool (Sep.pk [_,_,_] hu) _ HP.out.1) jt).mono fun _ _ ⟨h1,h2⟩=>⟨h1,hu.below h2⟩;have hE2:Hid (AE x d key g (cM x d (n.ks.getD (cY n.ss key) 0) dp).1 (cM x d (n.ks.getD (cY n.ss key) 0) dp).2 (dp+1)=some (m,er)):=hE;have MX:Hid ((⟨ae,ce,some ⟨r,ro,none⟩,ck,az,cz,n⟩:NV)∈Pc):=HP.out.1;have Zr:Hid (cY n.ss key<n.ks.length):=hkl;have Uy:Hid (1<=dp∧dp<=1000):=⟨Zq.out,hdp⟩;generalize vC:n.ks.getD (cY n.ss key) 0=kid at*;have XD:Hid (n.ks.getD (cY n.ss key) 0=kid):=vC;have KR:Hid (∀u,Sep B w0 u (TL C x dc Pc (U::aF q7 (.cells #[.bool n.leaf,.slice ae n.es.length ce,.slice (some ⟨r,ro,none⟩) n.ks.length ck,.slice az n.ss.length cz] 74)::l))->Calls Tryz.prog 85 #[ptr C.tq,.int .i64 kid,.int .i64 dp] u (GN B w0 C x dc Pc (U::aF q7 (.cells #[.bool n.leaf,.slice ae n.es.length ce,.slice (some ⟨r,ro,none⟩) n.ks.length ck,.slice az n.ss.length cz] 74)::l) 2 (cM x d kid dp).1 (cM x d kid dp).2)):=fun u hu=>by
     have:=rG (id:=kid) (depth:=dp) T hu Ux.out (by rw[HD.out.room];exact HX.out.2.1) (by rw[HD.out.room];exact HX.out.1) HX.out.2.2
     rwa [HD.out.cM]at this
    rw[hlf]at c0;have YX:Hid (n.leaf=false):=hlf;clear hE hn hsm jt hwk hkl hdp vC Zq
    go_wp2_with fail
    clear hlf c0 c1' c2' c3' g0 g1 g2 g3;refine bc 14 (JLr B w0 C x dc Pc U l (cM x d kid dp).1 (cM x d kid dp).2 q7 r ro n.ks.length ck (cY n.ss key) kid dp key #[.bool n.leaf,.slice ae n.es.length ce,.slice (some ⟨r,ro,none⟩) n.ks.length ck,.slice az n.ss.length cz]) (by kernel_rfl) (by kernel_rfl) (by kernel_rfl) (fun _ k=>k rfl ⟨fun _=>HS.out.drew,(fun h=>by cases h),fun h=>by cases h⟩ aq aq aq aq aq aq aq aq aq aq aq aq aq aq) ?_ ?_ ?_
    ·intro i w' hne f0 f1 f2 f3 f4 f5 f6 f7 f8 f9 f10 f11 f12 f13 f14 x8 Lh x38 x39 x40 x41 Vw x43 Vx Vy Vz Su VC VD e14 hB h0 h1 h2 h3 h4 h5 h6 h7 h8 h9 h10 h11 h12 dF hi;obtain⟨hlt,hun,_⟩:=aQ hi;have hlt':i<15:=hlt;clear hlt;rcases(by omega:i=0∨i=1∨i=2∨i=3∨i=4∨i=5∨i=6∨i=7∨i=8∨i=9∨i=10∨i=11∨i=12∨i=13)with rfl|rfl|rfl|rfl|rfl|rfl|rfl|rfl|rfl|rfl|rfl|rfl|rfl|rfl
     ·refine aj rfl fun K HK=>?_;go_simp;exact HK.out _ _ fun _ k=>k e14 hB hidR h1 h2 h3 h4 h5 h6 h7 h8 h9 h10 h11 h12 dF
     ·refine aj rfl fun K HK=>?_;go_simp;exact HK.out _ _ fun _ k=>k e14 hB h0 hidR h2 h3 h4 h5 h6 h7 h8 h9 h10 h11 h12 dF
     ·have un:f2=false:=hun;cases h1 (ah 1 hi (by kernel_rfl));have n9:f9=false:=by
       cases hf:f9
       ·rfl
       ·exact absurd (h9.out hf).1 (by rw[un];simp)
      obtain⟨_,⟨y0,y1,y2,y3⟩,_⟩:=Sep.c4 (Sep.pk [_,_,_,_,_] (hB.1 n9));refine aj rfl fun K HK=>?_;go_simp;exact HK.out _ _ fun _ k=>k e14 hB h0 h1 hidR h3 h4 h5 (fun d=>by have e:=(h6.out d).1;rw[un]at e;cases e) h7 h8 (fun d=>by have e:=(h9.out d).1;rw[un]at e;cases e) h10 h11 h12 dF
     ·have un:f3=false:=hun;have n9:f9=false:=by
       cases hf:f9
       ·rfl
       ·exact absurd (h9.out hf).2.1 (by rw[un];simp)
      obtain⟨_,⟨y0,y1,y2,y3⟩,_⟩:=Sep.c4 (Sep.pk [_,_,_,_,_] (hB.1 n9));refine aj rfl fun K HK=>?_;go_simp;exact HK.out _ _ fun _ k=>k e14 hB h0 h1 h2 hidR h4 (fun d=>by have e:=(h5.out d).1;rw[un]at e;cases e) h6 h7 h8 (fun d=>by have e:=(h9.out d).2.1;rw[un]at e;cases e) h10 h11 h12 dF
     ·refine aj rfl fun K HK=>?_;go_simp;exact HK.out _ _ fun _ k=>k e14 hB h0 h1 h2 h3 hidR h5 h6 h7 h8 h9 h10 h11 h12 dF
     ·have un:f5=false:=hun;have d3:f3=true:=ah 3 hi (by kernel_rfl);cases h3 d3;cases h4 (ah 4 hi (by kernel_rfl));have n9:f9=false:=by
       cases hf:f9
       ·rfl
       ·exact absurd (h9.out hf).2.2.1 (by rw[un];simp)
      refine aj rfl fun K HK=>?_;go_simp;refine Calls.mono (KC.out _ (hB.1 n9)) ?_;rintro e u4 ⟨rfl,s4⟩;exact HK.out _ _ fun _ k=>k e14 ⟨fun _=>s4,(fun h=>by rw[n9]at h;cases h),hB.2.2⟩ h0 h1 h2 h3 h4 (fun _=>⟨d3,rfl⟩) (fun d=>by have e:=(h6.out d).2.1;rw[un]at e;cases e) h7 h8 (fun d=>by have e:=(h9.out d).2.2.1;rw[un]at e;cases e) h10 h11 h12 dF
     ·have un:f6=false:=hun;have d2:f2=true:=ah 2 hi (by kernel_rfl);cases h2 d2;have d5:f5=true:=ah 5 hi (by kernel_rfl);obtain⟨u3,rfl⟩:=h5.out d5;have htl:((cY n.ss key:Nat):Int)< (n.ks.length:Int):=by have:=Zr.out;omega
      refine aj rfl fun K HK=>?_;go_simp;exact HK.out _ _ fun _ k=>k e14 hB h0 h1 h2 h3 h4 h5 (fun _=>⟨d2,d5,rfl⟩) (fun d=>by have e:=(h7.out d).1;rw[un]at e;cases e) h8 (fun d=>by have e:=(h9.out d).2.2.2.1;rw[un]at e;cases e) h10 h11 h12 dF
     ·have un:f7=false:=hun;have d6:f6=true:=ah 6 hi (by kernel_rfl);obtain⟨_,_,rfl⟩:=h6.out d6;have n9:f9=false:=by
       cases hf:f9
       ·rfl
       ·exact absurd (h9.out hf).2.2.2.2.1 (by rw[un];simp)
      have hzc:=NV.kid (p:=(⟨ae,ce,some ⟨r,ro,none⟩,ck,az,cz,n⟩:NV)) (Sep.pool (Sep.pk [_,_,_] (hB.1 n9)) _ MX.out) (i:=cY n.ss key) Zr.out;obtain⟨z1,z2,hz3,hzs,hzc⟩:=hzc;cases hz3;simp only at hzc;rw[XD.out]at hzc;refine aj rfl fun K HK=>?_;go_simp;exact HK.out _ _ fun _ k=>k e14 hB h0 h1 h2 h3 h4 h5 h6 (fun _=>⟨d6,rfl⟩) h8 (fun d=>by have e:=(h9.out d).2.2.2.2.1;rw[un]at e;cases e) h10 h11 h12 dF
     ·refine aj rfl fun K HK=>?_;go_simp;exact HK.out _ _ fun _ k=>k e14 hB h0 h1 h2 h3 h4 h5 h6 h7 hidR h9 h10 h11 h12 dF
     ·have un:f9=false:=hun;cases h0 (ah 0 hi (by kernel_rfl));have d7:f7=true:=ah 7 hi (by kernel_rfl);obtain⟨_,rfl⟩:=h7.out d7;cases h8 (ah 8 hi (by kernel_rfl));have d6:f6=true:=(h7.out d7).1;refine aj rfl fun K HK=>?_;go_simp;refine Calls.mono (KR.out _ (hB.1 un)) ?_;rintro e u4 ⟨p9,d9,Ex,rfl,Ro,s4⟩;exact HK.out _ _ fun _ k=>k e14 ⟨(fun h=>by cases h),(fun _=>⟨p9,d9,Ex,rfl,Ro,fun _=>s4,fun h=>by have:=hB.2.2 h;rw[un]at this;cases this⟩),fun _=>rfl⟩ h0 h1 h2 h3 h4 h5 h6 h7 h8 (fun _=>⟨(h6.out d6).1,(h5.out (h6.out d6).2.1).1,(h6.out d6).2.1,d6,d7,trivial⟩) (fun d=>by have e:=(h10.out d).1;rw[un]at e;cases e) (fun d=>by have e:=(h11.out d).1;rw[un]at e;cases e) (fun d=>by have e:=(h12.out d).1;rw[un]at e;cases e) dF
     ·have d9:f9=true:=ah 9 hi (by kernel_rfl);obtain⟨u2,u3,u5,u6,u7,_⟩:=h9.out d9;refine aj rfl fun K HK=>?_;go_simp;exact HK.out _ _ fun _ k=>k e14 hB h0 h1 h2 h3 h4 h5 h6 h7 h8 h9 (fun _=>⟨d9,rfl⟩) h11 h12 dF
     ·have d10:f10=true:=ah 10 hi (by kernel_rfl);obtain⟨_,rfl⟩:=h10.out d10;have u9:f9=true:=(h10.out d10).1;obtain⟨p9,d9,Ex,e47,Ro,s9⟩:=hB.2.1 u9;have Uz:Hid _:=Ex;clear Ex;subst e47;refine aj rfl fun K HK=>?_;go_simp;exact HK.out _ _ fun _ k=>k e14 hB h0 h1 h2 h3 h4 h5 h6 h7 h8 h9 h10 (fun _=>⟨u9,rfl⟩) h12 dF
     ·have d10:f10=true:=ah 10 hi (by kernel_rfl);obtain⟨_,rfl⟩:=h10.out d10;have u9:f9=true:=(h10.out d10).1;obtain⟨p9,d9,Ex,e47,Ro,s9⟩:=hB.2.1 u9;have Uz:Hid _:=Ex;clear Ex;subst e47;refine aj rfl fun K HK=>?_;go_simp;exact HK.out _ _ fun _ k=>k e14 hB h0 h1 h2 h3 h4 h5 h6 h7 h8 h9 h10 h11 (fun _=>⟨u9,rfl⟩) dF
     ·have un:f13=false:=hun;obtain⟨u9,rz⟩:=h11.out (ah 11 hi (by kernel_rfl));obtain⟨p9,d9,Ex,e47,Ro,s9,XE⟩:=hB.2.1 u9;have Uz:Hid _:=Ex;clear Ex;subst e47;cases rz;obtain⟨_,⟨y0,y1,y2,y3⟩,g0,g1,g2,g3⟩:=Sep.c4 (Sep.pk [_,_,_,_,_] (s9 un));refine aj rfl fun K HK=>?_;go_simp;exact HK.out _ _ fun _ k=>k e14 ⟨(fun h=>by rw[u9]at h;cases h),(fun _=>⟨p9,d9,Uz.out,rfl,Ro,(fun h=>by cases h),fun _=>Sep.pb [_,_,_,_,_] (Sep.s4 (Sep.pk [_,_,_,_,_] (s9 un)) _ _ _ _)⟩),fun _=>u9⟩ h0 h1 h2 h3 h4 h5 h6 h7 h8 h9 h10 h11 h12 (fun _=>trivial)
    ·intro w' f0 f1 f2 f3 f4 f5 f6 f7 f8 f9 f10 f11 f12 f13 f14 x8 Lh x38 x39 x40 x41 Vw x43 Vx Vy Vz Su VC VD e14 hB h0 h1 h2 h3 h4 h5 h6 h7 h8 h9 h10 h11 h12 dF hi;have d12:f12=true:=ah 12 hi (by kernel_rfl);obtain⟨u9,rA⟩:=h12.out d12;have d13:f13=true:=ah 13 hi (by kernel_rfl);clear hi;obtain⟨p9,d9,Ex,e47,Ro,s9,XE⟩:=hB.2.1 u9;have Uz:Hid _:=Ex;clear Ex;subst rA;refine aj rfl fun K HK=>?_;go_simp;refine HK.out _ _ ?_;have S5:Hid (Sep B w0 w' (TL C x d9 (p9::Pc) (U::aF q7 (.cells (cN p9) 74)::l))):=XE d13;have hw1:wrap64 (dp+1)=dp+1:=by have:=Uy.out;unfold wrap64;omega
     clear s9 XE e47 h0 h1 h2 h3 h4 h5 h6 h7 h8 h9 h10 h11 h12 dF hB;have HN:Hid (AE x d key g p9.n (cM x d kid dp).2 (dp+1)=some (m,er)):=by rw[show p9.n=(cM x d kid dp).1 from Uz.out];exact hE2.out
     generalize(cM x d kid dp).2=ek at*;go_wp2
     go_roundg g
     case measure=>omega
     case rel=>exact⟨g,p9,p9::Pc,d9,ek,dp+1,rfl,by simp[hw1],Nat.le_refl _,(by have:=Uy.out;show(1:Int)<=dp+1;omega),HN.out,⟨List.mem_cons_self ..,fun y hy=>List.mem_cons_of_mem _ (HP.out.2 y hy)⟩,HD.out.trans ⟨_,Ro⟩,S5.out⟩
    ·intro _ _;intros;assumption
   ·rw[if_neg hc]at hE;obtain⟨rfl,rfl⟩:pc.n=m∧ec=er:=by
     cases hE;exact⟨rfl,rfl⟩
    clear hE;by_cases h1:ec=0
    ·subst h1;have hlf:pc.n.leaf=true:=by
      cases hx:pc.n.leaf
      ·exact absurd ⟨rfl,hx⟩ hc
      ·rfl
     have KU:Hid _:=HU.out HS.out HP.out.1 (Zp.out rfl).1 (Zp.out rfl).2;rw[hlf]at c0;clear hc
     go_wp2_with fail
     refine Calls.mono KU.out ?_;rintro e v5 ⟨rfl,s5⟩;have S5:Hid _:=s5;clear c0 c1' c2' c3' g0 g1 g2 g3 KU s5;go_wp2;go_ret;exact⟨rfl,Pc,dc,U',HP.out.2,HD.out,fun _=>rfl,fun h=>absurd rfl h,Sep.drop (Sep.pk [_,_,_,_,_] S5.out)⟩
    ·have hne:(ec==0)=false:=by simpa using h1
     clear hc;go_wp2;go_ret;exact⟨rfl,Pc,dc,U,HP.out.2,HD.out,fun h=>absurd h h1,fun _=>rfl,Sep.drop (Sep.pk [_,_,_,_,_] HS.out)⟩
end
end
section
open N (Nd nd0 cA cQ dM iR fQ Sm cY En zG xj j8 nZ fk bc hidR aq aj Ch aQ ah waits)
section
variable {B:Nat}{w0 w:World}{l:List aO}{P:List NV}{C:Cx}{x:TX}{d d1:Dk}{key:ByteArray}{es0:List En}{qk qv qf:Nat}{m:Nd}{er:Int}
abbrev U3 (qk qv qf:Nat)(key v:ByteArray)(b:Bool):aO:=Both (aF qk (.cells #[.string key] 9)) (Both (aF qv (.cells #[.string v] 9)) (aF qf (.cells #[.bool b] 4)))
theorem Sep.yH {v:ByteArray}{b:Bool}(h:Sep B w0 w (U3 qk qv qf key v b::l)):Sep B w0 w (aF qk (.cells #[.string key] 9)::aF qv (.cells #[.string v] 9)::aF qf (.cells #[.bool b] 4)::l):=by
 have h1:Sep B w0 w (aF qk (.cells #[.string key] 9)::Both (aF qv (.cells #[.string v] 9)) (aF qf (.cells #[.bool b] 4))::l):=h.map fun _=>Hp.part (aZ _ _) (aJ (aZ _ _) (aZ _ _));exact Sep.sZ (Sep.dV (Sep.jk h1))
theorem Sep.OL {v:ByteArray} {b:Bool} (h:Sep B w0 w (aF qk (.cells #[.string key] 9)::aF qv (.cells #[.string v] 9)::aF qf (.cells #[.bool b] 4)::l)):Sep B w0 w (U3 qk qv qf key v b::l):=
  Sep.join (Sep.jk (Sep.join (Sep.pk [_,_] (Sep.pk [_,_] h))))
theorem Nn:I6 B w0 C x (.pointer (some ⟨qk,0,none⟩)) (.pointer (some ⟨qv,0,none⟩)) (.pointer (some ⟨qf,0,none⟩)) es0 (U3 qk qv qf key ⟨#[]⟩ false) (U3 qk qv qf key (nZ es0 key) (j8 es0 key)):=by
 intro w d P l p h hp he0 hl;have h2:=Sep.yH (Sep.kj h);obtain⟨ks,k0,_⟩:=Sep.c1 h2;have KG:Hid _:=N.Bf (.slice p.ae p.n.es.length p.ce) p.n.es key w (Sep.pool (Sep.wy h) _ hp).e (by omega);rw[he0]at KG;have HS:Hid (Sep B w0 w (TL C x d P (U3 qk qv qf key ⟨#[]⟩ false::l))):=h;rw[<-he0];have hln:p.n.es.length=es0.length:=by rw[he0]
 rw[he0];clear h h2 hp hl;generalize j8 es0 key=gb at*;generalize nZ es0 key=gv at*;rw[hln]at*;clear he0 hln;go_enter Tryz.func50,Tryz.ntmps50
 go_wp2_with fail
 refine Calls.mono KG.out ?_;rintro e w1 ⟨rfl,b1⟩;have h3:=Sep.yH (Sep.kj (HS.out.below b1));obtain⟨iq,k1,f0⟩:=Sep.c1 h3;obtain⟨vs1,v1,f1⟩:=Sep.c1 (Sep.jk h3);obtain⟨fs1,g1,f2⟩:=Sep.c1 (Sep.sZ h3);have hne:qv≠qf:=Sep.ne (Sep.drop h3);have hne':=hne.symm;have S2:Hid (Sep B w0 ((w1.setCell ⟨qv,0,none⟩ (.string gv)).setCell ⟨qf,0,none⟩ (.bool gb)) (TL C x d P (U3 qk qv qf key gv gb::l))):=by
  have h4:=Sep.kZ (x:=.string gv) (Sep.jk h3) 0;have h5:=Sep.kZ (x:=.bool gb) (Sep.sZ h4) 0;exact Sep.L5 (Sep.OL (Sep.sZ (Sep.jk h5)))
 clear h3 KG HS b1;go_wp2
 go_end0
 exact⟨rfl,S2.out⟩
def Zs (B:Nat)(w0:World)(C:Cx)(x:TX)(d:Dk)(P:List NV)(l:List aO)(v:ByteArray)(b:Bool)(er:Int)(e:Ending)(w':World):Prop:=e=.returned (.tuple #[.string v,.bool b,.int .i64 er])∧∃P' d',(∀y∈P,y∈P')∧bf d d'∧Sep B w0 w' (TL C x d' P' l)
def JG (B:Nat)(w0:World)(C:Cx)(x:TX)(d d1:Dk)(P:List NV)(U U2:aO)(l:List aO)(er:Int)(f4:Bool)(w:World):Prop:=
 (f4=false->Sep B w0 w (TL C x d1 P (U::l)))∧(f4=true->∃P' d' V,(∀y∈P,y∈P')∧bf d d'∧(er=0->V=U2)∧(er≠0->V=U)∧Sep B w0 w (TL C x d' P' (V::l)))
def JGr (B:Nat)(w0:World)(CC:Cx)(x:TX)(d d1:Dk)(P:List NV)(U U2:aO)(l:List aO)(er:Int)(qk qv qf:Nat)(key:ByteArray){y2 y4 y5 y6 oK oL rB:Value}(C:List Bool->Act->Prop)(w:World):Prop:=∀{f0 f1 f2 f3 f4 f5:Bool}{x9 sD xC uV xD sP:Value},f5=false->JG B w0 CC x d d1 P U U2 l er f4 w->Hid (f0=true->sD=ptr CC.tq)->Hid (f1=true->xC=ptr CC.tq)->Hid (f2=true->uV=.string key)->Hid (f3=true->xD=.func (.func 50) #[] #[.pointer (some ⟨qk,0,none⟩),.pointer (some ⟨qv,0,none⟩),.pointer (some ⟨qf,0,none⟩)])->Hid (f4=true->f2=true∧sP=.int .i64 er)->C [f0,f1,f2,f3,f4,f5] {tmps:=#[ptr CC.tq,.string key,y2,.pointer (some ⟨qk,0,none⟩),y4,y5,y6,.pointer (some ⟨qv,0,none⟩),.pointer (some ⟨qf,0,none⟩),x9,sD,xC,uV,xD,sP,oK,oL,rB],defers:=[]}
theorem OM {f:Nat}{gv:ByteArray}{gb:Bool}(hv1:er=0->gv=nZ es0 key∧gb=j8 es0 key)(hv2:er≠0->gv=⟨#[]⟩∧gb=false)(T:bW B w0)(hr:d.room<=16384)(ok:x.Ok d.room)(hz:x.Sz)(h0:C.err=0)(hw:Wf C.root)(hd:bf d d1)(h:Sep B w0 w (TL C x d1 P l))(he:AE x d key f (cM x d C.root 0).1 (cM x d C.root 0).2 1=some (m,er))(hes:er=0->m.es=es0∧m.es.length<=500):
  Calls Tryz.prog 18 #[ptr C.tq,.string key] w (Zs B w0 C x d P l gv gb er):=by
 have HG:Hid ((er=0->gv=nZ es0 key∧gb=j8 es0 key)∧(er≠0->gv=⟨#[]⟩∧gb=false)):=⟨hv1,hv2⟩;clear hv1 hv2;have S1:Hid (Sep B w0 (((w.alloc (.cells #[.string key] 9)).alloc (.cells #[.string ⟨#[]⟩] 9)).alloc (.cells #[.bool false] 4)) (TL C x d1 P (U3 w.heap.size (w.heap.size+1) (w.heap.size+2) key ⟨#[]⟩ false::l))):=by
  have h3:=Sep.aR (Sep.aR (Sep.aP h (.cells #[.string key] 9)) (.cells #[.string ⟨#[]⟩] 9) (w.heap.size+1) (by simp)) (.cells #[.bool false] 4) (w.heap.size+2) (by simp);exact Sep.L5 (Sep.OL (Sep.sZ (Sep.jk h3)))
 have KL:Hid (∀u,Sep B w0 u (TL C x d1 P (U3 w.heap.size (w.heap.size+1) (w.heap.size+2) key ⟨#[]⟩ false::l))->Calls Tryz.prog 49 #[ptr C.tq,.string key,.func (.func 50) #[] #[.pointer (some ⟨w.heap.size,0,none⟩),.pointer (some ⟨w.heap.size+1,0,none⟩),.pointer (some ⟨w.heap.size+2,0,none⟩)]] u (Zo B w0 C x d P (U3 w.heap.size (w.heap.size+1) (w.heap.size+2) key ⟨#[]⟩ false) (U3 w.heap.size (w.heap.size+1) (w.heap.size+2) key (nZ es0 key) (j8 es0 key)) l er)):=fun u hu=>Rn T hr ok hz h0 Nn hw hd hu he hes;clear h hr ok hz hw hd he hes T;go_enter Tryz.func18,Tryz.ntmps18
 go_wp2_with fail
 generalize World.alloc _ _=w1 at*;generalize w.heap.size+2=qf at*;generalize w.heap.size+1=qv at*;generalize w.heap.size=qk at*;refine bc 5 (JGr B w0 C x d d1 P (U3 qk qv qf key ⟨#[]⟩ false) (U3 qk qv qf key (nZ es0 key) (j8 es0 key)) l er qk qv qf key) (by kernel_rfl) (by kernel_rfl) (by kernel_rfl) (fun _ k=>k rfl ⟨fun _=>S1.out.drew,fun h=>by cases h⟩ aq aq aq aq aq) ?_ ?_ ?_
 ·intro i w' hne f0 f1 f2 f3 f4 f5 x9 sD xC uV xD sP e5 hB h0 h1 h2 h3 h4 hi;obtain⟨hlt,hun,_⟩:=aQ hi;have hlt':i<6:=hlt;clear hlt;rcases(by omega:i=0∨i=1∨i=2∨i=3∨i=4)with rfl|rfl|rfl|rfl|rfl
  ·refine aj rfl fun K HK=>?_;go_simp;exact HK.out _ _ fun _ k=>k e5 hB hidR h1 h2 h3 h4
  ·cases h0 (ah 0 hi (by kernel_rfl));refine aj rfl fun K HK=>?_;go_simp;refine Calls.mono (ib _ C.tq) ?_;rintro e u4 ⟨rfl,rfl⟩;exact HK.out _ _ fun _ k=>k e5 hB h0 hidR h2 h3 h4
  ·have un:f2=false:=hun;have n4:f4=false:=by
    cases hf:f4
    ·rfl
    ·exact absurd (h4.out hf).1 (by rw[un];simp)
   obtain⟨_,y0,_⟩:=Sep.c1 (Sep.yH (Sep.kj (hB.1 n4)));refine aj rfl fun K HK=>?_;go_simp;exact HK.out _ _ fun _ k=>k e5 hB h0 h1 hidR h3 (fun d=>by have e:=(h4.out d).1;rw[un]at e;cases e)
  ·refine aj rfl fun K HK=>?_;go_simp;exact HK.out _ _ fun _ k=>k e5 hB h0 h1 h2 hidR h4
  ·have un:f4=false:=hun;cases h1 (ah 1 hi (by kernel_rfl));have d2:f2=true:=ah 2 hi (by kernel_rfl);cases h2 d2;cases h3 (ah 3 hi (by kernel_rfl));refine aj rfl fun K HK=>?_;go_simp;refine Calls.mono (KL.out _ (hB.1 un)) ?_;rintro e u4 ⟨rfl,s4⟩;exact HK.out _ _ fun _ k=>k e5 ⟨(fun h=>by cases h),fun _=>s4⟩ h0 h1 h2 h3 (fun _=>⟨d2,rfl⟩)
 ·intro w' f0 f1 f2 f3 f4 f5 x9 sD xC uV xD sP e5 hB h0 h1 h2 h3 h4 hi;have d4:f4=true:=ah 4 hi (by kernel_rfl);obtain⟨u2,rfl⟩:=h4.out d4;clear hi;refine aj rfl fun K HK=>?_;go_simp;refine HK.out _ _ ?_;obtain⟨P',d',V,m1,m2,m3,m4,s5⟩:=hB.2 d4;have S5:Hid (Sep B w0 w' (TL C x d' P' (V::l))):=s5;have HM:Hid ((∀y∈P,y∈P')∧bf d d'):=⟨m1,m2⟩;have HV:Hid ((er=0->V=U3 qk qv qf key (nZ es0 key) (j8 es0 key))∧(er≠0->V=U3 qk qv qf key ⟨#[]⟩ false)):=⟨m3,m4⟩;clear m1 m2 m3 m4 s5 h0 h1 h2 h3 h4 hB;by_cases he0:er=0
  ·subst he0;obtain rfl:=HV.out.1 rfl;obtain⟨rfl,rfl⟩:=HG.out.1 rfl;have h6:=Sep.yH (Sep.kj S5.out);obtain⟨_,y1,_⟩:=Sep.c1 (Sep.jk h6);obtain⟨_,y2,_⟩:=Sep.c1 (Sep.sZ h6);clear h6 HV
   go_wp2_with fail
   go_quiet (fail)
   go_wp2
   go_ret3
   exact⟨rfl,P',d',HM.out.1,HM.out.2,(Sep.drop (Sep.kj S5.out)).drewN _⟩
  ·obtain rfl:=HV.out.2 he0;obtain⟨rfl,rfl⟩:=HG.out.2 he0;have h6:=Sep.yH (Sep.kj S5.out);obtain⟨_,y1,_⟩:=Sep.c1 (Sep.jk h6);obtain⟨_,y2,_⟩:=Sep.c1 (Sep.sZ h6);clear h6 HV
   go_wp2_with fail
   go_quiet (fail)
   go_wp2
   go_ret3
   exact⟨rfl,P',d',HM.out.1,HM.out.2,(Sep.drop (Sep.kj S5.out)).drewN _⟩
 ·intro _ _;intros;assumption
end
end
namespace P
open N (Nd nd0 cA cQ dM cx bN iR fQ Sm cY En zG xj j8 nZ fk dg fX tK oY kR kH tJ Rg bD cF fY kA)
section
variable {B:Nat}{w0 w:World}{C:Cx}{x:TX}{d d1:Dk}{P:List NV}{l:List aO}{key:ByteArray}{E:List En}{X:List Int}{H:Nat}{room:Nat}
theorem I7 (x:TX)(d:Dk)(id depth:Int):(eR x).read d id depth=cM x d id depth:=by
 unfold Dr.read;rw[if_neg (by simp[eR])];rfl
theorem Rp {l:List En}(h:cx l<=240):l.length<=500:=by
 have:2*l.length<=cx l:=jg;omega
theorem CX (hr:room<=16384):∀(h:Nat) (b:BT h) (depth:Int) (f:Nat),Gb room d (eR x) h b->depth+h<=24->h<f->
  ∃L es R EL ER,Loc h b key L es R EL ER∧AE x d key f (aT h b) 0 depth=some (⟨true,es,[],[]⟩,0)∧es.length<=500
 |0,b,depth,f,G,hd,hf=>by
  obtain⟨f,rfl⟩:∃f',f=f'+1:=⟨f-1,by omega⟩;refine⟨[],b,[],[],[],⟨?_,?_,.inl rfl,.inl rfl,(fun _ hc=>by cases hc),(fun _ hc=>by cases hc),(fun _ hc=>by cases hc),(fun _ hc=>by cases hc)⟩,?_,Rp G.sz⟩
  ·show mI b=[]++(mI b++[]);rw[List.nil_append,List.append_nil]
  ·show dR 0 b=[]++(dR 0 b++[]);rw[List.nil_append,List.append_nil]
  ·rw[AE,if_neg (by simp[aT])];rfl
 |h+1,b,depth,f,G,hd,hf=>by
  obtain⟨f,rfl⟩:∃f',f=f'+1:=⟨f-1,by omega⟩;obtain⟨K,ss,rfl⟩:=fq b;have R0:=G.rw;have hl:ss.length+1=K.length:=G.wl.1;obtain⟨sA,sB,rfl,hch,k1,k2⟩:=vP (key:=key) (kt (by omega) R0.od);obtain⟨A,w,B,rfl,hA⟩:∃A w B,K=A++w::B∧A.length=sA.length:=by
   obtain⟨w,B,r1,_⟩:=dY (l:=K.drop sA.length) (n:=K.length-sA.length-1) (by rw[List.length_drop];simp at hl;omega);exact⟨K.take sA.length,w,B,by rw[<-r1,List.take_append_drop],by rw[List.length_take];simp at hl;omega⟩
  have hB:B.length=sB.length:=by simp at hl;omega
  have hwz:=R0.wl w (by simp);have Vu:bP (dh A sA++(cd h w.2++jw (B.map fun u=>cd h u.2) sB)):=by rw[<-eQ hA];exact R0.od
  have hsub:(bh h w.2).Sublist (aU (A++w::B)):=by
   rw[a8,bA,bV];exact List.Sublist.trans (List.sublist_cons_self _ _) (List.Sublist.trans (List.sublist_append_left _ _) (List.sublist_append_right _ _))
  have Gw:Gb room d (eR x) h w.2:=⟨G.sd,hwz.1,hwz.2,fun p hp=>R0.us p (hsub.subset hp),R0.nd.sublist hsub,fun y hy=>R0.is y (by rw[cT,dC];simp[nK,hy]),Vu.sub (List.Sublist.trans (List.sublist_append_left _ _) (List.sublist_append_right _ _)),fun y hy=>R0.vl y (by rw[cf,bT];simp[hy])⟩;obtain⟨L,es,R,EL,ER,loc,q1,q2⟩:=CX hr h w.2 (depth+1) f Gw (by omega) (by omega);refine⟨_,es,_,_,_,Loc.up loc hA hB R0.od k1 k2,?_,q2⟩;have hgd:(aT (h+1) (bG (A++w::B) (sA++sB))).ks.getD (cY (aT (h+1) (bG (A++w::B) (sA++sB))).ss key) 0=w.1:=by
   rw[bR];simp only[hch];rw[<-hA];simp[List.getD_eq_getElem?_getD]
  have hrd:cM x d w.1 depth=(aT h w.2,0):=by rw[<-I7];exact jV R0.is (by simp) (by omega)
  rw[AE,if_pos ⟨rfl,by rw[bR]⟩,if_neg (by
   rw[G.sm hr,bR]
   simp only[hch,List.length_map,List.length_append,List.length_cons]
   simp
   omega),hgd,hrd]
  exact q1
theorem UA (hr:room<=16384){root:Int}(T:TS room d (eR x) root E X H)(hH:H+1<24):∃es EL ER,AE x d key 30 (cM x d root 0).1 (cM x d root 0).2 1=some (⟨true,es,[],[]⟩,0)∧E=EL++(es++ER)∧(∀y∈EL,bD y.1 key=true)∧(∀y∈ER,bD key y.1=true)∧es.length<=500:=by
 rcases T with⟨rfl,rfl,rfl,sd,rfl⟩| ⟨h,u,rfl,G,tb,rfl,rfl,rfl⟩
 ·refine⟨[],[],[],?_,rfl,(fun _ hc=>by cases hc),(fun _ hc=>by cases hc),by simp⟩;unfold cM;rw[if_pos rfl,AE,if_neg (by simp[lf0])];rfl
 ·have hrd:cM x d u.1 0=(aT h u.2,0):=by rw[<-I7,(eR x).gy d _ _ (by omega)];exact G.rd
  obtain⟨L,es,R,EL,ER,loc,q1,q2⟩:=CX (key:=key) hr h u.2 1 30 G.g (by omega) (by omega);rw[hrd];exact⟨es,EL,ER,q1,loc.en,(loc.lo G.g.od).1,(loc.lo G.g.od).2,q2⟩
theorem TS.wf (hr:room<=16384){root:Int}(T:TS room d (eR x) root E X H):Wf root:=by
 rcases T with⟨rfl,_⟩| ⟨h,u,rfl,G,_⟩
 ·exact⟨by omega,by omega⟩
 ·have h1:=G.us.lo;have h2:=G.us.hi;have h3:=G.g.sd.x.pr;exact⟨by omega,by omega⟩
theorem Rq (T:bW B w0)(hr:d.room<=16384)(hd:bf d d1)(h:Sep B w0 w (TL C x d1 P l))(h0:C.err=0)(TT:Tx d.room d x C.root E X H)(hH:H+1<24):
  Calls Tryz.prog 18 #[ptr C.tq,.string key] w (Zs B w0 C x d P l (tJ E key) (kH E key) 0):=by
 have hE:=TT.ts.rg;obtain⟨es,EL,ER,q1,rfl,lo,hi,q2⟩:=UA (key:=key) hr TT.ts hH;refine OM (es0:=es) (fun _=>⟨?_,?_⟩) (fun hc=>absurd rfl hc) T hr TT.ts.sd.x TT.ts.sd.bz h0 (TT.ts.wf hr) hd h q1 (fun _=>⟨rfl,q2⟩)
 ·unfold nZ;rw[fY (nR hE),if_pos rfl,Rf hE lo hi]
 ·unfold j8;rw[fY (nR hE),Bool.true_and,yz lo hi]
end
end P
section
open N (bD)
theorem UB (x y:ByteArray):Builtin.max_ #[9,9] 9 #[.string x,.string y]=pure (.string (if bD x y=true then y else x)):=by
 cases h:bD x y
 ·have h2:Op.bytesLess x.toList y.toList=false:=h;simp[Builtin.max_,Builtin.max2,Op.stringOp,asBool,h2]
 ·have h2:Op.bytesLess x.toList y.toList=true:=h;simp[Builtin.max_,Builtin.max2,Op.stringOp,asBool,h2]
section
variable {B:Nat}{w0 w w':World}{l:List aO}{fr tt k:ByteArray}
theorem pR (h:Sep B w0 w l):Calls Tryz.prog 127 #[.agg #[.string fr,.string tt],.string k] w fun e w'=>e=.returned (.bool (bF tt k))∧Sep B w0 w' l:=by
 have SF:Hid (Sep B w0 (w.alloc (.cells #[.string fr,.string tt] 95)) l):=h.alloc _;clear h;by_cases h0:tt=⟨#[]⟩
 ·have HE:Hid (bF tt k=true):=by show _=true;simp[bF,h0]
  subst h0;go_enter Tryz.func127,Tryz.ntmps127;go_wp2;go_ret;exact⟨by rw[HE.out];rfl,SF.out⟩
 ·have HE:Hid (bF tt k=bD k tt):=by show _=_;simp[bF,h0]
  have he:tt.toList≠[]:=fun e=>h0 (N.lV (e.trans (by simp)));have he2:tt.toList.isEmpty=false:=by simpa using he
  clear h0;go_enter Tryz.func127,Tryz.ntmps127;go_wp2;go_ret;exact⟨by rw[HE.out];rfl,SF.out⟩
theorem Sep.c2 {q:Nat}{a0 a1:Value}{ty:TypeId}(h:Sep B w0 w (aF q (.cells #[a0,a1] ty)::l)):q<w.heap.size∧(w.cell? ⟨q,0,none⟩=some a0∧w.cell? ⟨q,1,none⟩=some a1)∧w.frozen? ⟨q,0,none⟩=false∧w.frozen? ⟨q,1,none⟩=false:=by
 have hb:=h.blk;refine⟨(Array.getElem?_eq_some_iff.1 hb).1,⟨?_,?_⟩,?_,?_⟩<;>simp[World.cell?,World.frozen?,hb]
end
end
section
open N (Nd bD bc hidR aq aj Ch aQ ah waits)
section
variable {B:Nat}{w0 w w':World}{l:List aO}{fr tt k:ByteArray}
def Zt (B:Nat)(w0:World)(LL:List aO)(q1 q2 q3 r o cz ix XF:Nat)(fz tt k9:ByteArray)(hb:Bool){y0 y1 y5 y6 y7 y8 y9 uW rz rA y13 sR oK oL rB uX vh y34 sV sW vn y38 y39:Value}(C:List Bool->Act->Prop)(w:World):Prop:=∀{f0 f1 f2 f3 f4 f5 f6 f7 f8 f9 f10 f11 f12 f13:Bool}{sS x20 jP kW kB x24 x25 rC x27 x28 x29 x30 x31 x32:Value},f13=false->Sep B w0 w LL->Hid (f0=true->sS=.int .i64 (ix:Int))->Hid (f1=true->x20=.pointer (some ⟨q2,3,none⟩))->Hid (f2=true->f1=true∧jP=.slice (some ⟨r,o,none⟩) XF cz)->Hid (f3=true->f2=true∧kW=.int .i64 (XF:Int))->Hid (f4=true->f0=true∧f3=true∧kB=.bool true)->Hid (f5=true->f4=true∧x24=.bool true)->Hid (f6=true->x25=.agg #[.string fz,.string tt])->Hid (f7=true->rC=.pointer (some ⟨q2,3,none⟩))->Hid (f8=true->f7=true∧x27=.slice (some ⟨r,o,none⟩) XF cz)->Hid (f9=true->x28=.int .i64 (ix:Int))->Hid (f10=true->f8=true∧f9=true∧x29=.pointer (some ⟨r,o+ix,none⟩))->Hid (f11=true->f10=true∧x30=.string k9)->Hid (f12=true->f6=true∧f11=true∧x31=.bool hb)->C [f0,f1,f2,f3,f4,f5,f6,f7,f8,f9,f10,f11,f12,f13] {tmps:=#[y0,y1,.int .i64 (ix:Int),.pointer (some ⟨q1,0,none⟩),.pointer (some ⟨q2,0,none⟩),y5,y6,y7,y8,y9,uW,rz,rA,y13,sR,oK,oL,rB,uX,sS,x20,jP,kW,kB,x24,x25,rC,x27,x28,x29,x30,x31,x32,vh,y34,sV,sW,vn,y38,y39],defers:=[]}
theorem I8 {P:List NV}{p:NV}{ix:Nat}(h:Sep B w0 w (Pl P::l))(hp:p∈P)(hi:ix<=p.n.ss.length)(hb:p.n.ss.length<=500):Calls Tryz.prog 128 #[.agg #[.string fr,.string tt],.agg #[.bool p.n.leaf,.slice p.ae p.n.es.length p.ce,.slice p.ak p.n.ks.length p.ck,.slice p.az p.n.ss.length p.cz],.int .i64 (ix:Int)] w fun e w'=>e=.returned (.agg #[.string (ju p.n.ss ix fr),.string (gA p.n.ss ix tt)])∧Sep B w0 w' (Pl P::l):=by
 obtain⟨ae,ce,ak,ck,az,cz,n⟩:=p;simp only at hi hb⊢;have HS:Hid (Sep B w0 w (Pl P::l)):=h;have HP:Hid (⟨ae,ce,ak,ck,az,cz,n⟩∈P):=hp;clear h hp;by_cases hi0:0<ix
 ·obtain⟨j,hij⟩:∃j,ix=j+1:=⟨ix-1,by omega⟩;have S3:Hid (Sep B w0 (((w.alloc (.cells #[.string fr,.string tt] 95)).alloc (.cells #[.bool n.leaf,.slice ae n.es.length ce,.slice ak n.ks.length ck,.slice az n.ss.length cz] 74)).alloc (.cells #[.string ⟨#[]⟩,.string ⟨#[]⟩] 95)).drew (Pl P::l)):=(((HS.out.alloc _).alloc _).alloc _).drew;obtain⟨r,o,haz,k1,k2⟩:=NV.key (p:=⟨ae,ce,ak,ck,az,cz,n⟩) (Sep.pool S3.out _ HP.out) (i:=j) (by simp only;omega);simp only at haz k2;subst haz;have wj:IntKind.i64.wrap ((ix:Int)-1)=(j:Int):=by rw[bE (by omega) (by omega)];omega
  have hj:(j:Int)< (n.ss.length:Int):=by omega
  have hj1:(0:Int)< (ix:Int):=by omega
  have SF:Hid (ju n.ss ix fr=if bD fr (n.ss.getD j ⟨#[]⟩)=true then n.ss.getD j ⟨#[]⟩else fr):=by show _=_;rw[hij];simp[ju]
  generalize n.ss.getD j ⟨#[]⟩=kk at*;generalize ju n.ss ix fr=fz at*;have hmx:Builtin.max_ #[9,9] 9 #[.string fr,.string kk]=pure (.string fz):=by rw[SF.out];exact UB fr kk
  clear SF hij;go_enter Tryz.func128,Tryz.ntmps128
  go_wp2_with fail
  go_region
  clear k2 k1 S3 hmx wj hj
  go_wp2_with fail
  have S4:Hid (Sep B w0 (((w.alloc (.cells #[.string fz,.string tt] 95)).alloc (.cells #[.bool n.leaf,.slice ae n.es.length ce,.slice ak n.ks.length ck,.slice (some ⟨r,o,none⟩) n.ss.length cz] 74)).alloc (.cells #[.string ⟨#[]⟩,.string ⟨#[]⟩] 95)).drew (Pl P::aF w.heap.size (.cells #[.string fz,.string tt] 95)::aF (w.heap.size+1) (.cells #[.bool n.leaf,.slice ae n.es.length ce,.slice ak n.ks.length ck,.slice (some ⟨r,o,none⟩) n.ss.length cz] 74)::aF (w.heap.size+1+1) (.cells #[.string ⟨#[]⟩,.string ⟨#[]⟩] 95)::l)):=by
   have h1:=HS.out.aR (.cells #[.string fz,.string tt] 95) w.heap.size rfl;have h2:=h1.aR (.cells #[.bool n.leaf,.slice ae n.es.length ce,.slice ak n.ks.length ck,.slice (some ⟨r,o,none⟩) n.ss.length cz] 74) (w.heap.size+1) (by simp);have h3:=h2.aR (.cells #[.string ⟨#[]⟩,.string ⟨#[]⟩] 95) (w.heap.size+1+1) (by simp);exact Sep.drew (Sep.TU (Sep.pb [_,_] (Sep.pb [_,_,_] h3)))
  generalize(((w.alloc (.cells #[.string fz,.string tt] 95)).alloc (.cells #[.bool n.leaf,.slice ae n.es.length ce,.slice ak n.ks.length ck,.slice (some ⟨r,o,none⟩) n.ss.length cz] 74)).alloc (.cells #[.string ⟨#[]⟩,.string ⟨#[]⟩] 95)).drew=u0 at*;generalize hq2:w.heap.size+1=q2 at*;generalize hq3:q2+1=q3 at*;generalize hq1:w.heap.size=q1 at*;clear hq1 hq2 hq3;have T0:Hid (Sep B w0 u0.drew (Pl P::aF q1 (.cells #[.string fz,.string tt] 95)::aF q2 (.cells #[.bool n.leaf,.slice ae n.es.length ce,.slice ak n.ks.length ck,.slice (some ⟨r,o,none⟩) n.ss.length cz] 74)::aF q3 (.cells #[.string ⟨#[]⟩,.string ⟨#[]⟩] 95)::l)):=S4.out.drew;clear S4 HS;have n13:q1≠q3:=Sep.ne (Sep.pk [_,_] (Sep.pk [_,_,_] T0.out));have n31:=n13.symm;by_cases hl:ix<n.ss.length
  ·obtain⟨r2,o2,Ja,k1,k2⟩:=NV.key (p:=⟨ae,ce,ak,ck,some ⟨r,o,none⟩,cz,n⟩) (Sep.pool T0.out _ HP.out) (i:=ix) hl;simp only at Ja k2;obtain⟨rfl,rfl⟩:r=r2∧o=o2:=by cases Ja;exact⟨rfl,rfl⟩
   have hlI:(ix:Int)< (n.ss.length:Int):=by omega
   have hld:decide ((ix:Int)< (n.ss.length:Int))=true:=by simp;omega
   have XG:decide (ix<n.ss.length)=true:=by simp;omega
   have HE:Hid (gA n.ss ix tt=if bF tt (n.ss.getD ix ⟨#[]⟩)=true then n.ss.getD ix ⟨#[]⟩else tt):=by show _=_;simp[gA,hl]
   have KK:Hid (∀u L,Sep B w0 u (Pl P::L)->u.cell? ⟨r,o+ix,none⟩=some (.string (n.ss.getD ix ⟨#[]⟩))):=fun u L hu=>by
    obtain⟨r',o',h1,_,h3⟩:=NV.key (p:=⟨ae,ce,ak,ck,some ⟨r,o,none⟩,cz,n⟩) (Sep.pool hu _ HP.out) (i:=ix) hl;cases h1;exact h3
   generalize n.ss.getD ix ⟨#[]⟩=k9 at*;clear k1 k2;refine k6 13 (Zt B w0 (Pl P::aF q1 (.cells #[.string fz,.string tt] 95)::aF q2 (.cells #[.bool n.leaf,.slice ae n.es.length ce,.slice ak n.ks.length ck,.slice (some ⟨r,o,none⟩) n.ss.length cz] 74)::aF q3 (.cells #[.string ⟨#[]⟩,.string ⟨#[]⟩] 95)::l) q1 q2 q3 r o cz ix n.ss.length fz tt k9 (bF tt k9)) (by kernel_rfl) (by kernel_rfl) (fun _ k=>k rfl T0.out aq aq aq aq aq aq aq aq aq aq aq aq aq) ?_ ?_ ?_ ?_
   ·intro w' f0 f1 f2 f3 f4 f5 f6 f7 f8 f9 f10 f11 f12 f13 sS x20 jP kW kB x24 x25 rC x27 x28 x29 x30 x31 x32 e13 hB h0 h1 h2 h3 h4 h5 h6 h7 h8 h9 h10 h11 h12 hi;have d5:f5=true:=ah 5 hi (by kernel_rfl);have d12:f12=true:=ah 12 hi (by kernel_rfl);obtain⟨d6,d11,_⟩:=h12.out d12;obtain⟨d10,_⟩:=h11.out d11;obtain⟨d8,d9,_⟩:=h10.out d10;obtain⟨d7,_⟩:=h8.out d8;obtain⟨d4,_⟩:=h5.out d5;obtain⟨d0,d3,_⟩:=h4.out d4;obtain⟨d2,_⟩:=h3.out d3;obtain⟨d1,_⟩:=h2.out d2;subst d0 d1 d2 d3 d4 d5 d6 d7 d8 d9 d10 d11 d12;rfl
   ·intro i w' hne f0 f1 f2 f3 f4 f5 f6 f7 f8 f9 f10 f11 f12 f13 sS x20 jP kW kB x24 x25 rC x27 x28 x29 x30 x31 x32 e13 hB h0 h1 h2 h3 h4 h5 h6 h7 h8 h9 h10 h11 h12 hi;obtain⟨hlt,hun,_⟩:=aQ hi;have hlt':i<14:=hlt;clear hlt;rcases(by omega:i=0∨i=1∨i=2∨i=3∨i=4∨i=5∨i=6∨i=7∨i=8∨i=9∨i=10∨i=11∨i=12)with rfl|rfl|rfl|rfl|rfl|rfl|rfl|rfl|rfl|rfl|rfl|rfl|rfl
    ·have un:f0=false:=hun;refine aj rfl fun K HK=>?_;go_simp;exact HK.out _ _ fun _ k=>k e13 hB hidR h1 h2 h3 (fun d=>by have e:=(h4.out d).1;rw[un]at e;cases e) h5 h6 h7 h8 h9 h10 h11 h12
    ·have un:f1=false:=hun;refine aj rfl fun K HK=>?_;go_simp;exact HK.out _ _ fun _ k=>k e13 hB h0 hidR (fun d=>by have e:=(h2.out d).1;rw[un]at e;cases e) h3 h4 h5 h6 h7 h8 h9 h10 h11 h12
    ·have un:f2=false:=hun;have d1:f1=true:=ah 1 hi (by kernel_rfl);cases h1 d1;obtain⟨_,⟨y0,y1,y2,y3⟩,_⟩:=Sep.c4 (Sep.pk [_,_] hB);refine aj rfl fun K HK=>?_;go_simp;exact HK.out _ _ fun _ k=>k e13 hB h0 h1 (fun _=>⟨d1,rfl⟩) (fun d=>by have e:=(h3.out d).1;rw[un]at e;cases e) h4 h5 h6 h7 h8 h9 h10 h11 h12
    ·have un:f3=false:=hun;have d2:f2=true:=ah 2 hi (by kernel_rfl);obtain⟨_,rfl⟩:=h2.out d2;refine aj rfl fun K HK=>?_;go_simp;exact HK.out _ _ fun _ k=>k e13 hB h0 h1 h2 (fun _=>⟨d2,rfl⟩) (fun d=>by have e:=(h4.out d).2.1;rw[un]at e;cases e) h5 h6 h7 h8 h9 h10 h11 h12
    ·have un:f4=false:=hun;have d0:f0=true:=ah 0 hi (by kernel_rfl);cases h0 d0;have d3:f3=true:=ah 3 hi (by kernel_rfl);obtain⟨_,rfl⟩:=h3.out d3;refine aj rfl fun K HK=>?_;go_simp;exact HK.out _ _ fun _ k=>k e13 hB h0 h1 h2 h3 (fun _=>⟨d0,d3,rfl⟩) (fun d=>by have e:=(h5.out d).1;rw[un]at e;cases e) h6 h7 h8 h9 h10 h11 h12
    ·have d4:f4=true:=ah 4 hi (by kernel_rfl);obtain⟨_,_,rfl⟩:=h4.out d4;refine aj rfl fun K HK=>?_;go_simp;exact HK.out _ _ fun _ k=>k e13 hB h0 h1 h2 h3 h4 (fun _=>⟨d4,rfl⟩) h6 h7 h8 h9 h10 h11 h12
    ·have un:f6=false:=hun;obtain⟨_,rfl⟩:=h5.out (ah 5 hi (by kernel_rfl));obtain⟨_,⟨y0,y1⟩,_⟩:=Sep.c2 (Sep.jk hB);refine aj rfl fun K HK=>?_;go_simp;exact HK.out _ _ fun _ k=>k e13 hB h0 h1 h2 h3 h4 h5 hidR h7 h8 h9 h10 h11 (fun d=>by have e:=(h12.out d).1;rw[un]at e;cases e)
    ·have un:f7=false:=hun;obtain⟨_,rfl⟩:=h5.out (ah 5 hi (by kernel_rfl));refine aj rfl fun K HK=>?_;go_simp;exact HK.out _ _ fun _ k=>k e13 hB h0 h1 h2 h3 h4 h5 h6 hidR (fun d=>by have e:=(h8.out d).1;rw[un]at e;cases e) h9 h10 h11 h12
    ·have un:f8=false:=hun;obtain⟨_,rfl⟩:=h5.out (ah 5 hi (by kernel_rfl));have d7:f7=true:=ah 7 hi (by kernel_rfl);cases h7 d7;obtain⟨_,⟨y0,y1,y2,y3⟩,_⟩:=Sep.c4 (Sep.pk [_,_] hB);refine aj rfl fun K HK=>?_;go_simp;exact HK.out _ _ fun _ k=>k e13 hB h0 h1 h2 h3 h4 h5 h6 h7 (fun _=>⟨d7,rfl⟩) h9 (fun d=>by have e:=(h10.out d).1;rw[un]at e;cases e) h11 h12
    ·have un:f9=false:=hun;obtain⟨_,rfl⟩:=h5.out (ah 5 hi (by kernel_rfl));refine aj rfl fun K HK=>?_;go_simp;exact HK.out _ _ fun _ k=>k e13 hB h0 h1 h2 h3 h4 h5 h6 h7 h8 hidR (fun d=>by have e:=(h10.out d).2.1;rw[un]at e;cases e) h11 h12
    ·have un:f10=false:=hun;obtain⟨_,rfl⟩:=h5.out (ah 5 hi (by kernel_rfl));have d8:f8=true:=ah 8 hi (by kernel_rfl);obtain⟨_,rfl⟩:=h8.out d8;have d9:f9=true:=ah 9 hi (by kernel_rfl);cases h9 d9;refine aj rfl fun K HK=>?_;go_simp;exact HK.out _ _ fun _ k=>k e13 hB h0 h1 h2 h3 h4 h5 h6 h7 h8 h9 (fun _=>⟨d8,d9,rfl⟩) (fun d=>by have e:=(h11.out d).1;rw[un]at e;cases e) h12
    ·have un:f11=false:=hun;obtain⟨_,rfl⟩:=h5.out (ah 5 hi (by kernel_rfl));have d10:f10=true:=ah 10 hi (by kernel_rfl);obtain⟨_,_,rfl⟩:=h10.out d10;have T6:=KK.out _ _ hB;refine aj rfl fun K HK=>?_;go_simp;exact HK.out _ _ fun _ k=>k e13 hB h0 h1 h2 h3 h4 h5 h6 h7 h8 h9 h10 (fun _=>⟨d10,rfl⟩) (fun d=>by have e:=(h12.out d).2.1;rw[un]at e;cases e)
    ·obtain⟨_,rfl⟩:=h5.out (ah 5 hi (by kernel_rfl));have d6:f6=true:=ah 6 hi (by kernel_rfl);cases h6 d6;have d11:f11=true:=ah 11 hi (by kernel_rfl);obtain⟨_,rfl⟩:=h11.out d11;refine aj rfl fun K HK=>?_;go_simp;refine Calls.mono (pR hB) ?_;rintro e u4 ⟨rfl,s4⟩;exact HK.out _ _ fun _ k=>k e13 s4 h0 h1 h2 h3 h4 h5 h6 h7 h8 h9 h10 h11 (fun _=>⟨d6,d11,rfl⟩)
   ·intro w' f0 f1 f2 f3 f4 f5 f6 f7 f8 f9 f10 f11 f12 f13 sS x20 jP kW kB x24 x25 rC x27 x28 x29 x30 x31 x32 e13 hB h0 h1 h2 h3 h4 h5 h6 h7 h8 h9 h10 h11 h12 hi;have d5:f5=true:=ah 5 hi (by kernel_rfl);obtain⟨_,rfl⟩:=h5.out d5;have d12:f12=true:=ah 12 hi (by kernel_rfl);obtain⟨u6,u11,rfl⟩:=h12.out d12;clear hi;refine aj rfl fun K HK=>?_;go_simp;refine HK.out _ _ ?_;have T1:Hid (Sep B w0 w' (Pl P::aF q1 (.cells #[.string fz,.string tt] 95)::aF q2 (.cells #[.bool n.leaf,.slice ae n.es.length ce,.slice ak n.ks.length ck,.slice (some ⟨r,o,none⟩) n.ss.length cz] 74)::aF q3 (.cells #[.string ⟨#[]⟩,.string ⟨#[]⟩] 95)::l)):=hB;clear hB h0 h1 h2 h3 h4 h5 h6 h7 h8 h9 h10 h11 h12;obtain⟨_,⟨x0,x1⟩,g0,g1⟩:=Sep.c2 (Sep.jk T1.out);obtain⟨_,⟨y0,y1,y2,y3⟩,_⟩:=Sep.c4 (Sep.pk [_,_] T1.out);obtain⟨_,⟨z0,z1⟩,UC,f2'⟩:=Sep.c2 (Sep.pk [_,_,_] T1.out);have k2:=KK.out _ _ T1.out;cases hh:bF tt k9
    ·rw[hh]at HE;rw[if_neg Bool.false_ne_true]at HE;have SF:Hid (Sep B w0 ((w'.setCell ⟨q3,0,none⟩ (.string fz)).setCell ⟨q3,1,none⟩ (.string tt)) (Pl P::aF q1 (.cells #[.string fz,.string tt] 95)::aF q2 (.cells #[.bool n.leaf,.slice ae n.es.length ce,.slice ak n.ks.length ck,.slice (some ⟨r,o,none⟩) n.ss.length cz] 74)::aF q3 (.cells #[.string fz,.string tt] 95)::l)):=Sep.pb [_,_,_] (((Sep.pk [_,_,_] T1.out).dt 0 _).dt 1 _);clear hh T1 KK;go_wp2;generalize World.setCell _ _ _=u2 at*;clear x0 x1 g0 g1 y0 y1 y2 y3 z0 z1 UC f2' k2;obtain⟨_,⟨z0,z1⟩,_⟩:=Sep.c2 (Sep.pk [_,_,_] SF.out);refine bodyPost_ret (v:=.agg #[.string fz,.string tt]) ?_ rfl ⟨by rw[HE.out],Sep.drop (Sep.jk (Sep.drop (Sep.jk (Sep.drop (Sep.jk SF.out)))))⟩;rw[N.bC rfl];go_simp
    ·rw[hh]at HE;rw[if_pos rfl]at HE;have SF:Hid (Sep B w0 (((w'.setCell ⟨q1,1,none⟩ (.string k9)).setCell ⟨q3,0,none⟩ (.string fz)).setCell ⟨q3,1,none⟩ (.string k9)) (Pl P::aF q1 (.cells #[.string fz,.string k9] 95)::aF q2 (.cells #[.bool n.leaf,.slice ae n.es.length ce,.slice ak n.ks.length ck,.slice (some ⟨r,o,none⟩) n.ss.length cz] 74)::aF q3 (.cells #[.string fz,.string k9] 95)::l)):=Sep.pb [_,_,_] (((Sep.pk [_,_,_] (Sep.TU ((Sep.jk T1.out).dt 1 (.string k9)))).dt 0 _).dt 1 _);clear hh T1 KK;go_wp2;generalize World.setCell _ _ _=u2 at*;clear x0 x1 g0 g1 y0 y1 y2 y3 z0 z1 UC f2' k2;obtain⟨_,⟨z0,z1⟩,_⟩:=Sep.c2 (Sep.pk [_,_,_] SF.out);refine bodyPost_ret (v:=.agg #[.string fz,.string k9]) ?_ rfl ⟨by rw[HE.out],Sep.drop (Sep.jk (Sep.drop (Sep.jk (Sep.drop (Sep.jk SF.out)))))⟩;rw[N.bC rfl];go_simp
   ·intro _ _;intros;assumption
  ·obtain⟨_,⟨x0,x1⟩,g0,g1⟩:=Sep.c2 (Sep.jk T0.out);obtain⟨_,⟨y0,y1,y2,y3⟩,_⟩:=Sep.c4 (Sep.pk [_,_] T0.out);obtain⟨_,⟨z0,z1⟩,f0,f2⟩:=Sep.c2 (Sep.pk [_,_,_] T0.out);have hd:decide ((ix:Int)< (n.ss.length:Int))=false:=by simp;omega
   have hd2:decide (ix<n.ss.length)=false:=by simp;omega
   have HE:Hid (gA n.ss ix tt=tt):=by show _=_;unfold gA;rw[if_neg fun h=>hl h.1]
   have SF:Hid (Sep B w0 ((u0.drew.setCell ⟨q3,0,none⟩ (.string fz)).setCell ⟨q3,1,none⟩ (.string tt)) (Pl P::aF q1 (.cells #[.string fz,.string tt] 95)::aF q2 (.cells #[.bool n.leaf,.slice ae n.es.length ce,.slice ak n.ks.length ck,.slice (some ⟨r,o,none⟩) n.ss.length cz] 74)::aF q3 (.cells #[.string fz,.string tt] 95)::l)):=Sep.pb [_,_,_] (((Sep.pk [_,_,_] T0.out).dt 0 _).dt 1 _);clear T0 hl
   go_region
   generalize u0.drew=u1 at*;go_wp2;generalize(u1.setCell ⟨q3,0,none⟩ (.string fz)).setCell ⟨q3,1,none⟩ (.string tt)=u2 at*;clear x0 x1 g0 g1 y0 y1 y2 y3 z0 z1 f0 f2;obtain⟨_,⟨z0,z1⟩,_⟩:=Sep.c2 (Sep.pk [_,_,_] SF.out);refine bodyPost_ret (v:=.agg #[.string fz,.string tt]) ?_ rfl ⟨by rw[HE.out],Sep.drop (Sep.jk (Sep.drop (Sep.jk (Sep.drop (Sep.jk SF.out)))))⟩;rw[N.bC rfl];go_simp
 ·have hz:ju n.ss ix fr=fr:=by unfold ju;rw[if_neg fun h=>hi0 h.1]
  rw[hz];have hz2:decide ((0:Int)< (ix:Int))=false:=by simp;omega
  have hz3:decide (0<ix)=false:=by simp;omega
  have hz4:¬(0:Int)< (ix:Int):=by omega
  clear hz;go_enter Tryz.func128,Tryz.ntmps128
  go_wp2_with fail
  have S4:Hid (Sep B w0 (((w.alloc (.cells #[.string fr,.string tt] 95)).alloc (.cells #[.bool n.leaf,.slice ae n.es.length ce,.slice ak n.ks.length ck,.slice az n.ss.length cz] 74)).alloc (.cells #[.string ⟨#[]⟩,.string ⟨#[]⟩] 95)) (Pl P::aF w.heap.size (.cells #[.string fr,.string tt] 95)::aF (w.heap.size+1) (.cells #[.bool n.leaf,.slice ae n.es.length ce,.slice ak n.ks.length ck,.slice az n.ss.length cz] 74)::aF (w.heap.size+1+1) (.cells #[.string ⟨#[]⟩,.string ⟨#[]⟩] 95)::l)):=by
   have h1:=HS.out.aR (.cells #[.string fr,.string tt] 95) w.heap.size rfl;have h2:=h1.aR (.cells #[.bool n.leaf,.slice ae n.es.length ce,.slice ak n.ks.length ck,.slice az n.ss.length cz] 74) (w.heap.size+1) (by simp);have h3:=h2.aR (.cells #[.string ⟨#[]⟩,.string ⟨#[]⟩] 95) (w.heap.size+1+1) (by simp);exact(Sep.TU (Sep.pb [_,_] (Sep.pb [_,_,_] h3)))
  generalize World.alloc _ _=u0 at*;generalize hq2:w.heap.size+1=q2 at*;generalize hq3:q2+1=q3 at*;generalize hq1:w.heap.size=q1 at*;clear hq1 hq2 hq3;have T0:Hid (Sep B w0 u0.drew (Pl P::aF q1 (.cells #[.string fr,.string tt] 95)::aF q2 (.cells #[.bool n.leaf,.slice ae n.es.length ce,.slice ak n.ks.length ck,.slice az n.ss.length cz] 74)::aF q3 (.cells #[.string ⟨#[]⟩,.string ⟨#[]⟩] 95)::l)):=S4.out.drew;clear S4 HS;have n13:q1≠q3:=Sep.ne (Sep.pk [_,_] (Sep.pk [_,_,_] T0.out));have n31:=n13.symm;by_cases hl:ix<n.ss.length
  ·obtain⟨r2,o2,Ja,k1,k2⟩:=NV.key (p:=⟨ae,ce,ak,ck,az,cz,n⟩) (Sep.pool T0.out _ HP.out) (i:=ix) hl;simp only at Ja k2;subst Ja;have hlI:(ix:Int)< (n.ss.length:Int):=by omega
   have hld:decide ((ix:Int)< (n.ss.length:Int))=true:=by simp;omega
   have XG:decide (ix<n.ss.length)=true:=by simp;omega
   have HE:Hid (gA n.ss ix tt=if bF tt (n.ss.getD ix ⟨#[]⟩)=true then n.ss.getD ix ⟨#[]⟩else tt):=by show _=_;simp[gA,hl]
   have KK:Hid (∀u L,Sep B w0 u (Pl P::L)->u.cell? ⟨r2,o2+ix,none⟩=some (.string (n.ss.getD ix ⟨#[]⟩))):=fun u L hu=>by
    obtain⟨r',o',h1,_,h3⟩:=NV.key (p:=⟨ae,ce,ak,ck,some ⟨r2,o2,none⟩,cz,n⟩) (Sep.pool hu _ HP.out) (i:=ix) hl;cases h1;exact h3
   generalize n.ss.getD ix ⟨#[]⟩=k9 at*;clear k1 k2;refine k6 13 (Zt B w0 (Pl P::aF q1 (.cells #[.string fr,.string tt] 95)::aF q2 (.cells #[.bool n.leaf,.slice ae n.es.length ce,.slice ak n.ks.length ck,.slice (some ⟨r2,o2,none⟩) n.ss.length cz] 74)::aF q3 (.cells #[.string ⟨#[]⟩,.string ⟨#[]⟩] 95)::l) q1 q2 q3 r2 o2 cz ix n.ss.length fr tt k9 (bF tt k9)) (by kernel_rfl) (by kernel_rfl) (fun _ k=>k rfl T0.out aq aq aq aq aq aq aq aq aq aq aq aq aq) ?_ ?_ ?_ ?_
   ·intro w' f0 f1 f2 f3 f4 f5 f6 f7 f8 f9 f10 f11 f12 f13 sS x20 jP kW kB x24 x25 rC x27 x28 x29 x30 x31 x32 e13 hB h0 h1 h2 h3 h4 h5 h6 h7 h8 h9 h10 h11 h12 hi;have d5:f5=true:=ah 5 hi (by kernel_rfl);have d12:f12=true:=ah 12 hi (by kernel_rfl);obtain⟨d6,d11,_⟩:=h12.out d12;obtain⟨d10,_⟩:=h11.out d11;obtain⟨d8,d9,_⟩:=h10.out d10;obtain⟨d7,_⟩:=h8.out d8;obtain⟨d4,_⟩:=h5.out d5;obtain⟨d0,d3,_⟩:=h4.out d4;obtain⟨d2,_⟩:=h3.out d3;obtain⟨d1,_⟩:=h2.out d2;subst d0 d1 d2 d3 d4 d5 d6 d7 d8 d9 d10 d11 d12;rfl
   ·intro i w' hne f0 f1 f2 f3 f4 f5 f6 f7 f8 f9 f10 f11 f12 f13 sS x20 jP kW kB x24 x25 rC x27 x28 x29 x30 x31 x32 e13 hB h0 h1 h2 h3 h4 h5 h6 h7 h8 h9 h10 h11 h12 hi;obtain⟨hlt,hun,_⟩:=aQ hi;have hlt':i<14:=hlt;clear hlt;rcases(by omega:i=0∨i=1∨i=2∨i=3∨i=4∨i=5∨i=6∨i=7∨i=8∨i=9∨i=10∨i=11∨i=12)with rfl|rfl|rfl|rfl|rfl|rfl|rfl|rfl|rfl|rfl|rfl|rfl|rfl
    ·have un:f0=false:=hun;refine aj rfl fun K HK=>?_;go_simp;exact HK.out _ _ fun _ k=>k e13 hB hidR h1 h2 h3 (fun d=>by have e:=(h4.out d).1;rw[un]at e;cases e) h5 h6 h7 h8 h9 h10 h11 h12
    ·have un:f1=false:=hun;refine aj rfl fun K HK=>?_;go_simp;exact HK.out _ _ fun _ k=>k e13 hB h0 hidR (fun d=>by have e:=(h2.out d).1;rw[un]at e;cases e) h3 h4 h5 h6 h7 h8 h9 h10 h11 h12
    ·have un:f2=false:=hun;have d1:f1=true:=ah 1 hi (by kernel_rfl);cases h1 d1;obtain⟨_,⟨y0,y1,y2,y3⟩,_⟩:=Sep.c4 (Sep.pk [_,_] hB);refine aj rfl fun K HK=>?_;go_simp;exact HK.out _ _ fun _ k=>k e13 hB h0 h1 (fun _=>⟨d1,rfl⟩) (fun d=>by have e:=(h3.out d).1;rw[un]at e;cases e) h4 h5 h6 h7 h8 h9 h10 h11 h12
    ·have un:f3=false:=hun;have d2:f2=true:=ah 2 hi (by kernel_rfl);obtain⟨_,rfl⟩:=h2.out d2;refine aj rfl fun K HK=>?_;go_simp;exact HK.out _ _ fun _ k=>k e13 hB h0 h1 h2 (fun _=>⟨d2,rfl⟩) (fun d=>by have e:=(h4.out d).2.1;rw[un]at e;cases e) h5 h6 h7 h8 h9 h10 h11 h12
    ·have un:f4=false:=hun;have d0:f0=true:=ah 0 hi (by kernel_rfl);cases h0 d0;have d3:f3=true:=ah 3 hi (by kernel_rfl);obtain⟨_,rfl⟩:=h3.out d3;refine aj rfl fun K HK=>?_;go_simp;exact HK.out _ _ fun _ k=>k e13 hB h0 h1 h2 h3 (fun _=>⟨d0,d3,rfl⟩) (fun d=>by have e:=(h5.out d).1;rw[un]at e;cases e) h6 h7 h8 h9 h10 h11 h12
    ·have d4:f4=true:=ah 4 hi (by kernel_rfl);obtain⟨_,_,rfl⟩:=h4.out d4;refine aj rfl fun K HK=>?_;go_simp;exact HK.out _ _ fun _ k=>k e13 hB h0 h1 h2 h3 h4 (fun _=>⟨d4,rfl⟩) h6 h7 h8 h9 h10 h11 h12
    ·have un:f6=false:=hun;obtain⟨_,rfl⟩:=h5.out (ah 5 hi (by kernel_rfl));obtain⟨_,⟨y0,y1⟩,_⟩:=Sep.c2 (Sep.jk hB);refine aj rfl fun K HK=>?_;go_simp;exact HK.out _ _ fun _ k=>k e13 hB h0 h1 h2 h3 h4 h5 hidR h7 h8 h9 h10 h11 (fun d=>by have e:=(h12.out d).1;rw[un]at e;cases e)
    ·have un:f7=false:=hun;obtain⟨_,rfl⟩:=h5.out (ah 5 hi (by kernel_rfl));refine aj rfl fun K HK=>?_;go_simp;exact HK.out _ _ fun _ k=>k e13 hB h0 h1 h2 h3 h4 h5 h6 hidR (fun d=>by have e:=(h8.out d).1;rw[un]at e;cases e) h9 h10 h11 h12
    ·have un:f8=false:=hun;obtain⟨_,rfl⟩:=h5.out (ah 5 hi (by kernel_rfl));have d7:f7=true:=ah 7 hi (by kernel_rfl);cases h7 d7;obtain⟨_,⟨y0,y1,y2,y3⟩,_⟩:=Sep.c4 (Sep.pk [_,_] hB);refine aj rfl fun K HK=>?_;go_simp;exact HK.out _ _ fun _ k=>k e13 hB h0 h1 h2 h3 h4 h5 h6 h7 (fun _=>⟨d7,rfl⟩) h9 (fun d=>by have e:=(h10.out d).1;rw[un]at e;cases e) h11 h12
    ·have un:f9=false:=hun;obtain⟨_,rfl⟩:=h5.out (ah 5 hi (by kernel_rfl));refine aj rfl fun K HK=>?_;go_simp;exact HK.out _ _ fun _ k=>k e13 hB h0 h1 h2 h3 h4 h5 h6 h7 h8 hidR (fun d=>by have e:=(h10.out d).2.1;rw[un]at e;cases e) h11 h12
    ·have un:f10=false:=hun;obtain⟨_,rfl⟩:=h5.out (ah 5 hi (by kernel_rfl));have d8:f8=true:=ah 8 hi (by kernel_rfl);obtain⟨_,rfl⟩:=h8.out d8;have d9:f9=true:=ah 9 hi (by kernel_rfl);cases h9 d9;refine aj rfl fun K HK=>?_;go_simp;exact HK.out _ _ fun _ k=>k e13 hB h0 h1 h2 h3 h4 h5 h6 h7 h8 h9 (fun _=>⟨d8,d9,rfl⟩) (fun d=>by have e:=(h11.out d).1;rw[un]at e;cases e) h12
    ·have un:f11=false:=hun;obtain⟨_,rfl⟩:=h5.out (ah 5 hi (by kernel_rfl));have d10:f10=true:=ah 10 hi (by kernel_rfl);obtain⟨_,_,rfl⟩:=h10.out d10;have T6:=KK.out _ _ hB;refine aj rfl fun K HK=>?_;go_simp;exact HK.out _ _ fun _ k=>k e13 hB h0 h1 h2 h3 h4 h5 h6 h7 h8 h9 h10 (fun _=>⟨d10,rfl⟩) (fun d=>by have e:=(h12.out d).2.1;rw[un]at e;cases e)
    ·obtain⟨_,rfl⟩:=h5.out (ah 5 hi (by kernel_rfl));have d6:f6=true:=ah 6 hi (by kernel_rfl);cases h6 d6;have d11:f11=true:=ah 11 hi (by kernel_rfl);obtain⟨_,rfl⟩:=h11.out d11;refine aj rfl fun K HK=>?_;go_simp;refine Calls.mono (pR hB) ?_;rintro e u4 ⟨rfl,s4⟩;exact HK.out _ _ fun _ k=>k e13 s4 h0 h1 h2 h3 h4 h5 h6 h7 h8 h9 h10 h11 (fun _=>⟨d6,d11,rfl⟩)
   ·intro w' f0 f1 f2 f3 f4 f5 f6 f7 f8 f9 f10 f11 f12 f13 sS x20 jP kW kB x24 x25 rC x27 x28 x29 x30 x31 x32 e13 hB h0 h1 h2 h3 h4 h5 h6 h7 h8 h9 h10 h11 h12 hi;have d5:f5=true:=ah 5 hi (by kernel_rfl);obtain⟨_,rfl⟩:=h5.out d5;have d12:f12=true:=ah 12 hi (by kernel_rfl);obtain⟨u6,u11,rfl⟩:=h12.out d12;clear hi;refine aj rfl fun K HK=>?_;go_simp;refine HK.out _ _ ?_;have T1:Hid (Sep B w0 w' (Pl P::aF q1 (.cells #[.string fr,.string tt] 95)::aF q2 (.cells #[.bool n.leaf,.slice ae n.es.length ce,.slice ak n.ks.length ck,.slice (some ⟨r2,o2,none⟩) n.ss.length cz] 74)::aF q3 (.cells #[.string ⟨#[]⟩,.string ⟨#[]⟩] 95)::l)):=hB;clear hB h0 h1 h2 h3 h4 h5 h6 h7 h8 h9 h10 h11 h12;obtain⟨_,⟨x0,x1⟩,g0,g1⟩:=Sep.c2 (Sep.jk T1.out);obtain⟨_,⟨y0,y1,y2,y3⟩,_⟩:=Sep.c4 (Sep.pk [_,_] T1.out);obtain⟨_,⟨z0,z1⟩,UC,f2'⟩:=Sep.c2 (Sep.pk [_,_,_] T1.out);have k2:=KK.out _ _ T1.out;cases hh:bF tt k9
    ·rw[hh]at HE;rw[if_neg Bool.false_ne_true]at HE;have SF:Hid (Sep B w0 ((w'.setCell ⟨q3,0,none⟩ (.string fr)).setCell ⟨q3,1,none⟩ (.string tt)) (Pl P::aF q1 (.cells #[.string fr,.string tt] 95)::aF q2 (.cells #[.bool n.leaf,.slice ae n.es.length ce,.slice ak n.ks.length ck,.slice (some ⟨r2,o2,none⟩) n.ss.length cz] 74)::aF q3 (.cells #[.string fr,.string tt] 95)::l)):=Sep.pb [_,_,_] (((Sep.pk [_,_,_] T1.out).dt 0 _).dt 1 _);clear hh T1 KK;go_wp2;generalize World.setCell _ _ _=u2 at*;clear x0 x1 g0 g1 y0 y1 y2 y3 z0 z1 UC f2' k2;obtain⟨_,⟨z0,z1⟩,_⟩:=Sep.c2 (Sep.pk [_,_,_] SF.out);refine bodyPost_ret (v:=.agg #[.string fr,.string tt]) ?_ rfl ⟨by rw[HE.out],Sep.drop (Sep.jk (Sep.drop (Sep.jk (Sep.drop (Sep.jk SF.out)))))⟩;rw[N.bC rfl];go_simp
    ·rw[hh]at HE;rw[if_pos rfl]at HE;have SF:Hid (Sep B w0 (((w'.setCell ⟨q1,1,none⟩ (.string k9)).setCell ⟨q3,0,none⟩ (.string fr)).setCell ⟨q3,1,none⟩ (.string k9)) (Pl P::aF q1 (.cells #[.string fr,.string k9] 95)::aF q2 (.cells #[.bool n.leaf,.slice ae n.es.length ce,.slice ak n.ks.length ck,.slice (some ⟨r2,o2,none⟩) n.ss.length cz] 74)::aF q3 (.cells #[.string fr,.string k9] 95)::l)):=Sep.pb [_,_,_] (((Sep.pk [_,_,_] (Sep.TU ((Sep.jk T1.out).dt 1 (.string k9)))).dt 0 _).dt 1 _);clear hh T1 KK;go_wp2;generalize World.setCell _ _ _=u2 at*;clear x0 x1 g0 g1 y0 y1 y2 y3 z0 z1 UC f2' k2;obtain⟨_,⟨z0,z1⟩,_⟩:=Sep.c2 (Sep.pk [_,_,_] SF.out);refine bodyPost_ret (v:=.agg #[.string fr,.string k9]) ?_ rfl ⟨by rw[HE.out],Sep.drop (Sep.jk (Sep.drop (Sep.jk (Sep.drop (Sep.jk SF.out)))))⟩;rw[N.bC rfl];go_simp
   ·intro _ _;intros;assumption
  ·obtain⟨_,⟨x0,x1⟩,g0,g1⟩:=Sep.c2 (Sep.jk T0.out);obtain⟨_,⟨y0,y1,y2,y3⟩,_⟩:=Sep.c4 (Sep.pk [_,_] T0.out);obtain⟨_,⟨z0,z1⟩,f0,f2⟩:=Sep.c2 (Sep.pk [_,_,_] T0.out);have hd:decide ((ix:Int)< (n.ss.length:Int))=false:=by simp;omega
   have hd2:decide (ix<n.ss.length)=false:=by simp;omega
   have HE:Hid (gA n.ss ix tt=tt):=by show _=_;unfold gA;rw[if_neg fun h=>hl h.1]
   have SF:Hid (Sep B w0 ((u0.drew.setCell ⟨q3,0,none⟩ (.string fr)).setCell ⟨q3,1,none⟩ (.string tt)) (Pl P::aF q1 (.cells #[.string fr,.string tt] 95)::aF q2 (.cells #[.bool n.leaf,.slice ae n.es.length ce,.slice ak n.ks.length ck,.slice az n.ss.length cz] 74)::aF q3 (.cells #[.string fr,.string tt] 95)::l)):=Sep.pb [_,_,_] (((Sep.pk [_,_,_] T0.out).dt 0 _).dt 1 _);clear T0 hl
   go_region
   generalize u0.drew=u1 at*;go_wp2;generalize World.setCell _ _ _=u2 at*;clear x0 x1 g0 g1 y0 y1 y2 y3 z0 z1 f0 f2;obtain⟨_,⟨z0,z1⟩,_⟩:=Sep.c2 (Sep.pk [_,_,_] SF.out);refine bodyPost_ret (v:=.agg #[.string fr,.string tt]) ?_ rfl ⟨by rw[HE.out],Sep.drop (Sep.jk (Sep.drop (Sep.jk (Sep.drop (Sep.jk SF.out)))))⟩;rw[N.bC rfl];go_simp
end
end
section
open N (Nd nd0 cA cQ dM iR fQ Sm cY iQ En bD bc hidR aq aj Ch aQ ah waits)
section
variable {B:Nat}{w0 w:World}{l:List aO}{P:List NV}{C:Cx}{x:TX}{d d1:Dk}
def VF (B:Nat)(w0:World)(C:Cx)(x:TX)(d:Dk)(P:List NV)(V:aO)(l:List aO)(b:Bool)(er:Int)(e:Ending)(w':World):Prop:=
 e=.returned (.tuple #[.bool b,.int .i64 er])∧∃P' d',(∀y∈P,y∈P')∧bf d d'∧Sep B w0 w' (TL C x d' P' (V::l))
def UD {σ:Type}(B:Nat)(w0:World)(C:Cx)(x:TX)(fy:Nat)(cy:Array Value)(st:σ->En->σ×Bool)(U:σ->aO)(m:σ->Nat)(Nm:Nat):Prop:=
 ∀(w:World) (d:Dk) (P:List NV) (l:List aO) (s:σ) (y:En),m (st s y).1<=Nm->Sep B w0 w (TL C x d P (U s::l))->
  Calls Tryz.prog fy (#[.agg #[.string y.1,.string y.2]]++cy) w fun e w'=>e=.returned (.bool (st s y).2)∧Sep B w0 w' (TL C x d P (U (st s y).1::l))
def JEY (B:Nat)(w0:World)(C:Cx)(x:TX)(d dc:Dk)(Pc:List NV)(U1 U2:aO)(l:List aO)(f10:Bool)(w:World):Prop:=
 (f10=false->Sep B w0 w (TL C x dc Pc (U1::l)))∧(f10=true->∃P' d',(∀y∈Pc,y∈P')∧bf d d'∧Sep B w0 w (TL C x d' P' (U2::l)))
def XH (B:Nat)(w0:World)(CC:Cx)(x:TX)(d dc:Dk)(Pc:List NV)(U1 U2:aO)(l:List aO)(b1:Bool)(e1:Int)(q8 Bv Li r ro Sn ck ii:Nat)(kid dp:Int)(fa ta fb tb:ByteArray)(cs:Array Value)(fy:Nat)(cy:Array Value){y1 y3 y5 y6 y7 y8 y9 uW rz y13 sR oK oL rB y22 y23 y24 y25 xI y27 y28 y29 xJ y31 y32 vh y34 sV sW vn y38 y39 xK xL xM xN DB DC DD DF DG DJ zR zS zT zU zV zW GV Lm Ln Lp Lq Lr PZ P8 LA LB LC LD LF LG LH LI LJ LN LO LP PS PT PU y93 GW y95 y96 TZ y98 y99:Value}(C:List Bool->Act->Prop)(w:World):Prop:=∀{f0 f1 f2 f3 f4 f5 f6 f7 f8 f9 f10 f11 f12 f13 f14 f15:Bool}{x20 jP zX x80 x81 x82 x83 x84 x85 x86 x87 x88 x89 x90 x91 VG:Value},f15=false->JEY B w0 CC x d dc Pc U1 U2 (aF q8 (.cells #[.string fb,.string tb] 95)::aF Bv (.cells cs 74)::aF Li (.cells #[.string fa,.string ta] 95)::l) f10 w->Hid (f0=true->x80=ptr CC.tq)->Hid (f1=true->x81=.pointer (some ⟨Bv,2,none⟩))->Hid (f2=true->x82=.slice (some ⟨r,ro,none⟩) Sn ck)->Hid (f3=true->x83=.int .i64 (ii:Int))->Hid (f4=true->f2=true∧x84=.pointer (some ⟨r,ro+ii,none⟩))->Hid (f5=true->f4=true∧x85=.int .i64 kid)->Hid (f6=true->x86=.int .i64 dp)->Hid (f7=true->x87=.int .i64 (dp+1))->Hid (f8=true->x88=.agg #[.string fa,.string ta])->Hid (f9=true->x89=.func (.func fy) #[] cy)->Hid (f10=true->f2=true∧f5=true∧f8=true∧x90=.tuple #[.bool b1,.int .i64 e1])->Hid (f11=true->f10=true∧zX=.tuple #[.bool b1,.int .i64 e1])->Hid (f12=true->f10=true∧x91=.bool b1)->Hid (f13=true->f10=true∧VG=.int .i64 e1)->Hid (f14=true->f10=true∧x20=.bool b1)->C [f0,f1,f2,f3,f4,f5,f6,f7,f8,f9,f10,f11,f12,f13,f14,f15] {tmps:=#[ptr CC.tq,y1,.int .i64 dp,y3,.func (.func fy) #[] cy,y5,y6,y7,y8,y9,uW,rz,.pointer (some ⟨Bv,0,none⟩),y13,sR,oK,oL,rB,.int .i64 (ii:Int),.pointer (some ⟨Li,0,none⟩),x20,jP,y22,y23,y24,y25,xI,y27,y28,y29,xJ,y31,y32,vh,y34,sV,sW,vn,y38,y39,xK,xL,xM,xN,DB,DC,DD,DF,DG,DJ,zR,zS,zT,zU,zV,zW,GV,Lm,Ln,Lp,Lq,Lr,PZ,P8,LA,LB,LC,LD,LF,LG,LH,LI,LJ,LN,LO,LP,PS,PT,PU,zX,x80,x81,x82,x83,x84,x85,x86,x87,x88,x89,x90,x91,VG,y93,GW,y95,y96,TZ,y98,y99],defers:=[]}
theorem UE {σ:Type}{st:σ->En->σ×Bool}{m:σ->Nat}{Nm:Nat}{U:σ->aO}{fy:Nat}{cy:Array Value}(T:bW B w0)(hr:d.room<=16384)(ok:x.Ok d.room)(hz:x.Sz)(EY:∀args w,(callFunc fy args).run Tryz.prog w=.ok (.enter fy args) w)(hu:UD B w0 C x fy cy st U m Nm)(hm:∀s e,m s<=m (st s e).1):
  ∀(f:Nat) (w:World) (d1:Dk) (P:List NV) (l:List aO) (s s':σ) (id depth:Int) (fr tt:ByteArray) (b:Bool) (er:Int),Wf id->0<=depth->bf d d1->eZ x d st f s id depth fr tt=some (s',(b,er))->m s'<=Nm->Sep B w0 w (TL C x d1 P (U s::l))->
  Calls Tryz.prog 87 #[ptr C.tq,.int .i64 id,.int .i64 depth,.agg #[.string fr,.string tt],.func (.func fy) #[] cy] w (VF B w0 C x d P (U s') l b er):=by
 intro f
 induction f with
 |zero=>intro w d1 P l s s' id depth fr tt b er _ _ _ he;cases he
 |succ f ih=>
 intro w d1 P l s s' id depth fr tt b er hw hd0 hd he hN h;have HU:Hid (UD B w0 C x fy cy st U m Nm):=hu;have HM:Hid (∀s e,m s<=m (st s e).1):=hm;have HN:Hid (m s'<=Nm):=hN;have HD:Hid (bf d d1):=hd;have IH:Hid (∀(w:World) (d1:Dk) (P:List NV) (l:List aO) (s s':σ) (id depth:Int) (fr tt:ByteArray) (b:Bool) (er:Int),Wf id->0<=depth->bf d d1->eZ x d st f s id depth fr tt=some (s',(b,er))->m s'<=Nm->Sep B w0 w (TL C x d1 P (U s::l))->Calls Tryz.prog 87 #[ptr C.tq,.int .i64 id,.int .i64 depth,.agg #[.string fr,.string tt],.func (.func fy) #[] cy] w (VF B w0 C x d P (U s') l b er)):=ih;have S1:Hid (Sep B w0 (w.alloc (.cells #[.string fr,.string tt] 95)) _):=Sep.rF (h.aP _);have KR:Hid (∀u L,Sep B w0 u (TL C x d1 P L)->Calls Tryz.prog 85 #[ptr C.tq,.int .i64 id,.int .i64 depth] u (GN B w0 C x d1 P L 2 (cM x d id depth).1 (cM x d id depth).2)):=fun u L hu=>by
  have:=rG (id:=id) (depth:=depth) T hu hw (by rw[hd.room];exact ok) (by rw[hd.room];exact hr) hz
  rwa [hd.cM]at this
 have HD0:Hid (0<=depth):=hd0;rw[eZ]at he;clear h hu hm hN hd ih hw hd0 T hr ok hz;generalize cM x d id depth=rr at*;obtain⟨n0,e0⟩:=rr;simp only at KR he;have HE:Hid (_=some (s',(b,er))):=he;clear he;go_enter Tryz.func87,Tryz.ntmps87
 go_wp2_with fail
 generalize World.alloc _ _=v1 at*;generalize w.heap.size=q8 at*;refine Calls.mono (KR.out _ _ S1.out) ?_;rintro e v2 ⟨p,d2,hn0,rfl,hd2,s2⟩;subst hn0;unfold NV.v;have D2:Hid (bf d d2):=HD.out.trans ⟨_,hd2⟩;have S2:Hid (Sep B w0 (v2.alloc (.cells #[.bool p.n.leaf,.slice p.ae p.n.es.length p.ce,.slice p.ak p.n.ks.length p.ck,.slice p.az p.n.ss.length p.cz] 74)) (TL C x d2 (p::P) (U s::aF q8 (.cells #[.string fr,.string tt] 95)::aF v2.heap.size (.cells #[.bool p.n.leaf,.slice p.ae p.n.es.length p.ce,.slice p.ak p.n.ks.length p.ck,.slice p.az p.n.ss.length p.cz] 74)::l))):=Sep.nI (Sep.aR s2 _ _ rfl);clear KR hd2 s2 S1 HD;by_cases wB:e0≠0
 ·have hE:=HE.out;rw[if_pos wB]at hE;obtain⟨ha,hb,hc⟩:s=s'∧false=b∧e0=er:=by
   cases hE;exact⟨rfl,rfl,rfl⟩
  subst ha hb hc;have hne:(e0 != 0)=true:=bne_iff_ne.2 wB;clear hE wB HE;go_wp2;go_ret2;exact⟨rfl,p::P,d2,fun y hy=>List.mem_cons_of_mem _ hy,D2.out,Sep.drop (Sep.dH (Sep.drop (Sep.dH (S2.out))))⟩
 ·have hE:=HE.out;rw[if_neg wB]at hE;have ez:e0=0:=Classical.not_not.1 wB;subst ez;by_cases hg:(bS p.n&&cQ p.n)=false∨1000<depth
  ·rw[if_pos hg]at hE;cases hE
  rw[if_neg hg]at hE;have hg2:bS p.n=true∧cQ p.n=true∧depth<=1000:=by
   refine⟨?_,?_,by omega⟩
   ·cases hx:bS p.n
    ·exact absurd (.inl (by rw[hx];rfl)) hg
    ·rfl
   ·cases hx:cQ p.n
    ·exact absurd (.inl (by rw[hx,Bool.and_false])) hg
    ·rfl
  obtain⟨hsm,hrt,hdp⟩:=hg2;obtain⟨jt,Jb,Np,_,hwk⟩:=eH hsm;have hrg:N.Rg p.n.es:=by
   cases hl:p.n.leaf with
   |true=>exact((N.dJ hl).1 hrt).2.2
   |false=>rw[((N.cX hl).1 hrt).1];exact⟨List.Pairwise.nil,fun _ h=>by cases h⟩
  have Zu:Hid (N.Rg p.n.es):=hrg;have yP:Hid (Sm p.n∧∀k∈p.n.ks,Wf k):=⟨jt,hwk⟩;have Jc:Hid (p.n.es.length<=500∧p.n.ks.length<=500∧0<=depth∧depth<=1000):=⟨Np,Jb,HD0.out,hdp⟩;clear HE wB hg hsm hrt hdp jt Jb Np hwk hrg HD0;have EG:Hid (_=some (s',(b,er))):=hE;clear hE
  go_upto_region 4 with fail
  generalize World.alloc _ _=v3 at*;generalize v2.heap.size=Bv at*;obtain⟨ae,ce,ak,ck,az,cz,n⟩:=p;simp only at*;have Jd:Hid ((⟨ae,ce,ak,ck,az,cz,n⟩:NV)∈(⟨ae,ce,ak,ck,az,cz,n⟩:NV)::P∧∀y∈P,y∈(⟨ae,ce,ak,ck,az,cz,n⟩:NV)::P):=⟨List.mem_cons_self ..,fun y hy=>List.mem_cons_of_mem _ hy⟩;generalize XI:(⟨ae,ce,ak,ck,az,cz,n⟩:NV)::P=PP at*;clear XI;have KF:Hid _:=N.lY (.slice ae n.es.length ce) n.es fr v3 (Sep.pool (Sep.wy S2.out) _ Jd.out.1).e (by have:=Jc.out;omega);obtain⟨_,⟨x0,x1⟩,_⟩:=Sep.c2 (Sep.dH (S2.out));obtain⟨_,⟨y0,y1,y2,y3⟩,_⟩:=Sep.c4 (Sep.cO (S2.out))
  go_wp2_with fail
  refine Calls.mono KF.out ?_;rintro e v4 ⟨i0,ff,rfl,hf,b4⟩;have hi1:=(hf.2.2 Zu.out).1;have hi2:=hf.1;have S4:Hid _:=S2.out.below b4;clear S2 b4 x0 x1 y0 y1 y2 y3 KF hf Zu;rw[<-hi1]at EG;clear hi1;have RS:Hid (∀u,(Instr.slice 27 (.slice ae n.es.length ce) (some (.int .i64 (i0:Int))) none none).run Tryz.prog u=.ok (.slice (if ce=i0 then ae else ae.map (·.add (i0*2))) (n.es.length-i0) (ce-i0)) u):=fun u=>N.uP ae n.es.length ce i0 hi2 u;have RR:Hid (∀u L,Sep B w0 u (TL C x d2 PP L)->N.Row N.ax 2 u (.slice (if ce=i0 then ae else ae.map (·.add (i0*2))) (n.es.length-i0) (ce-i0)) (n.es.drop i0)):=fun u L hu=>N.Row.Yd (Sep.pool (Sep.wy hu) _ Jd.out.1).e i0 hi2;rw[show n.es.length-i0=(n.es.drop i0).length by rw[List.length_drop]]at RS RR;have Zv:(n.es.drop i0).length<=500:=by rw[List.length_drop];have:=Jc.out;omega
  generalize n.es.drop i0=L at*;generalize(if ce=i0 then ae else ae.map (·.add (i0*2)))=aS at*;generalize ce-i0=cS at*;have HL5:Hid (L.length<=500):=Zv;have XJ:(i0:Int)<=(n.es.length:Int):=by omega
  clear Zv hi2;obtain⟨_,⟨y0,y1,y2,y3⟩,_⟩:=Sep.c4 (Sep.cO (S4.out));have RSv:=RS.out v4;go_wp2;clear y0 y1 y2 y3 RSv RS XJ
  go_loopg [45] L.length (fun kx s45 wr=>∃(j:Nat) (sj:σ),s45=.int .i64 (j:Int)∧j<=L.length∧L.length-j<=kx∧Hid (vT st tt L s=vT st tt (L.drop j) sj)∧Hid (Sep B w0 wr (TL C x d2 PP (U sj::aF q8 (.cells #[.string fr,.string tt] 95)::aF Bv (.cells #[.bool n.leaf,.slice ae n.es.length ce,.slice ak n.ks.length ck,.slice az n.ss.length cz] 74)::l))))
  case atStart=>exact⟨0,s,rfl,Nat.zero_le _,Nat.le_refl _,(by show _=_;rw[List.drop_zero]),S4.out⟩
  case round=>
   clear S4;obtain⟨j,sj,rfl,hj,Xk,HJ,HS⟩:=hrel;by_cases hlt:j<L.length
   ·have vF:(j:Int)< (L.length:Int):=by omega
    obtain⟨dG,cap',e',_,_,h3⟩:=RR.out _ _ HS.out;obtain⟨rb,UF,hae,hrb,z0,z1⟩:=N.dw h3 j hlt (Below.refl _ _);have e2:aS=dG:=by injection e'
    subst hae;subst e2;have hJ:=HJ.out;rw[N.mZ hlt,vT]at hJ;have Xl:IntKind.i64.wrap ((j:Int)+1)=((j+1:Nat):Int):=by rw[bE (by omega) (by have:=HL5.out;omega)];rfl
    have HB1:Hid (m (vT st tt L s).1<=Nm):=by
     have h1:=EG.out;show _<=_;refine Nat.le_trans ?_ HN.out;split at h1
     ·cases h1;exact Nat.le_refl _
     ·exact ku (fun s k f' t s' r hh=>nS HM.out x d f s k (depth+1) f' t s' r hh) _ _ _ _ _ _ _ _ h1
    generalize km:L[j]! =y at*;clear km h3 e' HJ;have S5:Hid (Sep B w0 (wr.alloc (.cells #[.string y.1,.string y.2] 45)) _):=Sep.wz (HS.out.aP _);have HJ2:Hid (_=_):=hJ;clear hJ HS
    go_upto_region 8 with fail
    clear z0 z1 hrb;generalize World.alloc _ _=v5 at*;generalize wr.heap.size=q17 at*;obtain⟨_,⟨x0,x1⟩,_⟩:=Sep.c2 (Sep.dH (S5.out));obtain⟨_,⟨z0,z1⟩,_⟩:=Sep.c2 (Sep.eh (S5.out))
    go_wp2_with fail
    refine Calls.mono (pR S5.out) ?_;rintro e v6 ⟨rfl,s6⟩;have S6:Hid _:=s6;clear x0 x1 z0 z1 s6 S5;by_cases hh:bF tt y.1=false
    ·have hJ:=HJ2.out;rw[if_pos hh]at hJ;have h1:=EG.out;rw[hJ]at h1;obtain⟨ha,hb,hc⟩:sj=s'∧true=b∧0=er:=by
      cases h1;exact⟨rfl,rfl,rfl⟩
     subst ha hb hc;clear hJ h1 EG HJ2 HB1;rw[hh];go_wp2;go_ret2;exact⟨rfl,PP,d2,Jd.out.2,D2.out,Sep.drop (Sep.dH (Sep.drop (Sep.dH (Sep.drop (Sep.dH (S6.out))))))⟩
    ·have UG:bF tt y.1=true:=by simpa using hh
     have hJ:=HJ2.out;rw[if_neg hh]at hJ;have hbd:m (st sj y).1<=Nm:=by
      have h1:=HB1.out;rw[hJ]at h1;refine Nat.le_trans ?_ h1;split
      ·exact Nat.le_refl _
      ·exact pP HM.out tt _ _
     have KU:Hid _:=HU.out v6 d2 PP _ sj y hbd S6.out;obtain⟨_,⟨z0,z1⟩,_⟩:=Sep.c2 (Sep.eh (S6.out));have UH:Hid (_=_):=hJ;clear hJ HJ2 HB1 hbd S6 hh;rw[UG];clear UG;generalize st sj y=sy at*;obtain⟨s2,b2⟩:=sy;simp only at KU UH
     go_wp2_with fail
     refine Calls.mono KU.out ?_;rintro e v7 ⟨rfl,s7⟩;have S7:Hid _:=s7;clear z0 z1 s7 KU;cases b2 with
     |false=>
      have hJ:=UH.out;rw[if_pos rfl]at hJ;have h1:=EG.out;rw[hJ]at h1;obtain⟨ha,hb,hc⟩:s2=s'∧false=b∧0=er:=by
       cases h1;exact⟨rfl,rfl,rfl⟩
      subst ha hb hc;clear hJ h1 EG UH;go_wp2;go_ret2;exact⟨rfl,PP,d2,Jd.out.2,D2.out,Sep.drop (Sep.dH (Sep.drop (Sep.dH (Sep.drop (Sep.dH (S7.out))))))⟩
     |true=>
      have hJ:=UH.out;rw[if_neg (by simp)]at hJ;have HJ4:Hid (vT st tt L s=vT st tt (L.drop (j+1)) s2):=hJ;clear hJ UH;go_wp2
      go_roundg (L.length- (j+1))
      case measure=>omega
      case rel=>exact⟨j+1,s2,by go_num,by omega,Nat.le_refl _,HJ4.out,Sep.nI (Sep.rF (Sep.dH (Sep.cO (Sep.drop (Sep.eh (S7.out))))))⟩
   ·have vF:¬(j:Int)< (L.length:Int):=by omega
    obtain rfl:j=L.length:=by omega
    have hJ:=HJ.out;rw[List.drop_length,vT]at hJ;have hE:=EG.out;rw[hJ]at hE;have HE2:Hid (gU (fun s id fr tt=>eZ x d st f s id (depth+1) fr tt) n fr tt (n.ks.length-cY n.ss fr) (cY n.ss fr) sj=some (s',(b,er))):=hE;have KC:Hid _:=N.nG n fr (.slice ae n.es.length ce) (.slice ak n.ks.length ck) (.slice az n.ss.length cz) wr (Sep.pool (Sep.wy HS.out) _ Jd.out.1) yP.out.1;obtain⟨_,⟨x0,x1⟩,_⟩:=Sep.c2 (Sep.dH (HS.out));obtain⟨_,⟨y0,y1,y2,y3⟩,_⟩:=Sep.c4 (Sep.cO (HS.out));clear hJ hE HJ EG RR;generalize cY n.ss fr=c0 at*
    go_wp2_with fail
    refine Calls.mono KC.out ?_;rintro e v8 ⟨rfl,b8⟩;have S8:Hid _:=HS.out.below b8;clear KC b8 HS x0 x1 y0 y1 y2 y3;go_wp2
    go_loopg [18] n.ks.length (fun kx V2 wr=>∃(ii:Nat) (si:σ) (Pc:List NV) (dc:Dk),V2=.int .i64 (ii:Int)∧n.ks.length-ii<=kx∧Hid (gU (fun s id fr tt=>eZ x d st f s id (depth+1) fr tt) n fr tt (n.ks.length-ii) ii si=some (s',(b,er)))∧Hid ((⟨ae,ce,ak,ck,az,cz,n⟩:NV)∈Pc∧∀y∈P,y∈Pc)∧Hid (bf d dc)∧Hid (Sep B w0 wr (TL C x dc Pc (U si::aF q8 (.cells #[.string fr,.string tt] 95)::aF Bv (.cells #[.bool n.leaf,.slice ae n.es.length ce,.slice ak n.ks.length ck,.slice az n.ss.length cz] 74)::l))))
    case atStart=>exact⟨c0,sj,PP,d2,rfl,by omega,HE2.out,Jd.out,D2.out,S8.out⟩
    case round=>
     clear S8 HE2 D2 Jd;obtain⟨ii,si,Pc,dc,rfl,hix,HE2,ot,HD,HS⟩:=hrel;by_cases hlt:ii<n.ks.length
     ·have vF:(ii:Int)< (n.ks.length:Int):=by omega
      obtain⟨g,T7⟩:∃g,n.ks.length-ii=g+1:=⟨n.ks.length-ii-1,by omega⟩;have hE:=HE2.out;rw[T7,gU]at hE;by_cases hss:n.ss.length<ii
      ·rw[if_pos hss]at hE;cases hE
      rw[if_neg hss]at hE;have KP:Hid _:=I8 (fr:=fr) (tt:=tt) (ix:=ii) (Sep.wy HS.out) ot.out.1 (by simp only;omega) (by have:=yP.out.1.s;omega);obtain⟨r,ro,hak,_,_⟩:=NV.kid (p:=⟨ae,ce,ak,ck,az,cz,n⟩) (Sep.pool (Sep.wy HS.out) _ ot.out.1) (i:=ii) hlt;simp only at hak;subst hak;have Ux:Hid (Wf (n.ks.getD ii 0)):=by
       refine yP.out.2 _ ?_;rw[List.getD_eq_getElem?_getD,List.getElem?_eq_getElem hlt];exact List.getElem_mem _
      have UI:Hid (ii<n.ks.length):=hlt;have HG:Hid (n.ks.length-ii=g+1):=T7;generalize ju n.ss ii fr=fa at*;generalize gA n.ss ii tt=ta at*;obtain⟨_,⟨x0,x1⟩,_⟩:=Sep.c2 (Sep.dH (HS.out));obtain⟨_,⟨y0,y1,y2,y3⟩,_⟩:=Sep.c4 (Sep.cO (HS.out));have yf:Hid (_=some (s',(b,er))):=hE;clear hE HE2 hss T7 hlt HS;simp only at KP
      go_wp2_with fail
      clear x0 x1 y0 y1 y2 y3;refine Calls.mono KP.out ?_;rintro e v8 ⟨rfl,s8⟩;have S8:Hid (Sep B w0 (v8.alloc (.cells #[.string fa,.string ta] 95)) (TL C x dc Pc (U si::aF q8 (.cells #[.string fr,.string tt] 95)::aF Bv (.cells #[.bool n.leaf,.slice ae n.es.length ce,.slice (some ⟨r,ro,none⟩) n.ks.length ck,.slice az n.ss.length cz] 74)::aF v8.heap.size (.cells #[.string fa,.string ta] 95)::l))):=Sep.wz (Sep.aR (Sep.pb3 s8) _ _ rfl);clear s8 KP
      go_upto_region 17 with fail
      generalize World.alloc _ _=v9 at*;generalize v8.heap.size=Li at*;obtain⟨_,⟨x0,x1⟩,_⟩:=Sep.c2 (Sep.eh (S8.out))
      go_wp2_with fail
      refine Calls.mono (pR S8.out) ?_;rintro e v10 ⟨rfl,s9⟩;have S9:Hid _:=s9;clear x0 x1 s9 S8;by_cases hh:bF ta fa=false
      ·have hE:=yf.out;rw[if_pos hh]at hE;obtain⟨ha,hb,hc⟩:si=s'∧true=b∧0=er:=by
        cases hE;exact⟨rfl,rfl,rfl⟩
       subst ha hb hc;clear hE yf;rw[hh];go_wp2;go_ret2;exact⟨rfl,Pc,dc,ot.out.2,HD.out,Sep.drop (Sep.dH (Sep.drop (Sep.dH (Sep.drop (Sep.dH (S9.out))))))⟩
      ·have UG:bF ta fa=true:=by simpa using hh
       have hE:=yf.out;rw[if_neg hh]at hE;clear yf hh;rw[UG];clear UG;have MX:Hid _:=ot.out.1;generalize vC:n.ks.getD ii 0=kid at*;have XD:Hid (n.ks.getD ii 0=kid):=vC;have HWD:Hid (IntKind.i64.wrap (depth+1)=depth+1):=bE (by have:=Jc.out;omega) (by have:=Jc.out;omega);cases hrec:eZ x d st f si kid (depth+1) fa ta with
       |none=>rw[hrec]at hE;cases hE
       |some rs=>
        obtain⟨s1,b1,e1⟩:=rs;rw[hrec]at hE;simp only at hE;have hb1:m s1<=Nm:=by
         refine Nat.le_trans ?_ HN.out;split at hE
         ·cases hE;exact Nat.le_refl _
         ·exact ku (fun s k f' t s' r hh=>nS HM.out x d f s k (depth+1) f' t s' r hh) _ _ _ _ _ _ _ _ hE
        have KI:Hid (∀u,Sep B w0 u (TL C x dc Pc (U si::aF q8 (.cells #[.string fr,.string tt] 95)::aF Bv (.cells #[.bool n.leaf,.slice ae n.es.length ce,.slice (some ⟨r,ro,none⟩) n.ks.length ck,.slice az n.ss.length cz] 74)::aF Li (.cells #[.string fa,.string ta] 95)::l))->Calls Tryz.prog 87 #[ptr C.tq,.int .i64 kid,.int .i64 (depth+1),.agg #[.string fa,.string ta],.func (.func fy) #[] cy] u (VF B w0 C x d Pc (U s1) (aF q8 (.cells #[.string fr,.string tt] 95)::aF Bv (.cells #[.bool n.leaf,.slice ae n.es.length ce,.slice (some ⟨r,ro,none⟩) n.ks.length ck,.slice az n.ss.length cz] 74)::aF Li (.cells #[.string fa,.string ta] 95)::l) b1 e1)):=fun u hu=>IH.out u dc Pc _ si s1 kid (depth+1) fa ta b1 e1 Ux.out (by have:=Jc.out;omega) HD.out hrec hb1 hu;have yf:Hid (_=some (s',(b,er))):=hE;clear hE hrec hb1 vC
        go_wp2_with fail
        refine bc 15 (XH B w0 C x d dc Pc (U si) (U s1) l b1 e1 q8 Bv Li r ro n.ks.length ck ii kid depth fa ta fr tt #[.bool n.leaf,.slice ae n.es.length ce,.slice (some ⟨r,ro,none⟩) n.ks.length ck,.slice az n.ss.length cz] fy cy) (by kernel_rfl) (by kernel_rfl) (by kernel_rfl) (fun _ k=>k rfl ⟨fun _=>Sep.drew S9.out,(fun h=>by cases h)⟩ aq aq aq aq aq aq aq aq aq aq aq aq aq aq aq) ?_ ?_ ?_
        ·intro i w' hne f0 f1 f2 f3 f4 f5 f6 f7 f8 f9 f10 f11 f12 f13 f14 f15 x20 jP zX x80 x81 x82 x83 x84 x85 x86 x87 x88 x89 x90 x91 VG e15 hB h0 h1 h2 h3 h4 h5 h6 h7 h8 h9 h10 h11 h12 dF fu hi;obtain⟨hlt,hun,_⟩:=aQ hi;have hlt':i<16:=hlt;clear hlt;rcases(by omega:i=0∨i=1∨i=2∨i=3∨i=4∨i=5∨i=6∨i=7∨i=8∨i=9∨i=10∨i=11∨i=12∨i=13∨i=14)with rfl|rfl|rfl|rfl|rfl|rfl|rfl|rfl|rfl|rfl|rfl|rfl|rfl|rfl|rfl
         ·refine aj rfl fun K HK=>?_;go_simp;exact HK.out _ _ fun _ k=>by apply k<;>first|assumption|exact hidR|(repeat' first|apply Exists.intro|assumption|rfl|apply And.intro|exact fun _=>rfl)
         ·refine aj rfl fun K HK=>?_;go_simp;exact HK.out _ _ fun _ k=>by apply k<;>first|assumption|exact hidR|(repeat' first|apply Exists.intro|assumption|rfl|apply And.intro|exact fun _=>rfl)
         ·have un:f2=false:=hun;cases h1 (ah 1 hi (by kernel_rfl));have n10:f10=false:=by
           cases hf:f10
           ·rfl
           ·exact absurd (h10.out hf).1 (by rw[un];simp)
          obtain⟨_,⟨y0,y1,y2,y3⟩,_⟩:=Sep.c4 (Sep.cO (hB.1 n10));refine aj rfl fun K HK=>?_;go_simp;exact HK.out _ _ fun _ k=>k e15 hB h0 h1 hidR h3 (fun d=>by have e:=(h4.out d).1;rw[un]at e;cases e) h5 h6 h7 h8 h9 (fun d=>by have e:=(h10.out d).1;rw[un]at e;cases e) h11 h12 dF fu
         ·refine aj rfl fun K HK=>?_;go_simp;exact HK.out _ _ fun _ k=>by apply k<;>first|assumption|exact hidR|(repeat' first|apply Exists.intro|assumption|rfl|apply And.intro|exact fun _=>rfl)
         ·have un:f4=false:=hun;have d2:f2=true:=ah 2 hi (by kernel_rfl);cases h2 d2;cases h3 (ah 3 hi (by kernel_rfl));have hil:(ii:Int)< (n.ks.length:Int):=by have:=UI.out;omega
          refine aj rfl fun K HK=>?_;go_simp;exact HK.out _ _ fun _ k=>k e15 hB h0 h1 h2 h3 (fun _=>⟨d2,rfl⟩) (fun d=>by have e:=(h5.out d).1;rw[un]at e;cases e) h6 h7 h8 h9 h10 h11 h12 dF fu
         ·have un:f5=false:=hun;have d4:f4=true:=ah 4 hi (by kernel_rfl);obtain⟨_,rfl⟩:=h4.out d4;have n10:f10=false:=by
           cases hf:f10
           ·rfl
           ·exact absurd (h10.out hf).2.1 (by rw[un];simp)
          obtain⟨z1,z2,hz3,hzs,hzc⟩:=NV.kid (p:=(⟨ae,ce,some ⟨r,ro,none⟩,ck,az,cz,n⟩:NV)) (Sep.pool (Sep.wy (hB.1 n10)) _ MX.out) (i:=ii) UI.out;cases hz3;simp only at hzc;rw[XD.out]at hzc;refine aj rfl fun K HK=>?_;go_simp;exact HK.out _ _ fun _ k=>k e15 hB h0 h1 h2 h3 h4 (fun _=>⟨d4,rfl⟩) h6 h7 h8 h9 (fun d=>by have e:=(h10.out d).2.1;rw[un]at e;cases e) h11 h12 dF fu
         ·refine aj rfl fun K HK=>?_;go_simp;exact HK.out _ _ fun _ k=>by apply k<;>first|assumption|exact hidR|(repeat' first|apply Exists.intro|assumption|rfl|apply And.intro|exact fun _=>rfl)
         ·cases h6 (ah 6 hi (by kernel_rfl));have wd:=HWD.out;refine aj rfl fun K HK=>?_;go_simp;exact HK.out _ _ fun _ k=>by apply k<;>first|assumption|exact hidR|(repeat' first|apply Exists.intro|assumption|rfl|apply And.intro|exact fun _=>rfl)
         ·have un:f8=false:=hun;have n10:f10=false:=by
           cases hf:f10
           ·rfl
           ·exact absurd (h10.out hf).2.2.1 (by rw[un];simp)
          obtain⟨_,⟨y0,y1⟩,_⟩:=Sep.c2 (Sep.eh (hB.1 n10));refine aj rfl fun K HK=>?_;go_simp;exact HK.out _ _ fun _ k=>k e15 hB h0 h1 h2 h3 h4 h5 h6 h7 hidR h9 (fun d=>by have e:=(h10.out d).2.2.1;rw[un]at e;cases e) h11 h12 dF fu
         ·refine aj rfl fun K HK=>?_;go_simp;exact HK.out _ _ fun _ k=>by apply k<;>first|assumption|exact hidR|(repeat' first|apply Exists.intro|assumption|rfl|apply And.intro|exact fun _=>rfl)
         ·have un:f10=false:=hun;cases h0 (ah 0 hi (by kernel_rfl));have d5:f5=true:=ah 5 hi (by kernel_rfl);obtain⟨_,rfl⟩:=h5.out d5;cases h7 (ah 7 hi (by kernel_rfl));have d8:f8=true:=ah 8 hi (by kernel_rfl);cases h8 d8;cases h9 (ah 9 hi (by kernel_rfl));refine aj rfl fun K HK=>?_;go_simp;refine Calls.mono (KI.out _ (hB.1 un)) ?_;rintro e u4 ⟨rfl,s4⟩;exact HK.out _ _ fun _ k=>k e15 ⟨(fun h=>by cases h),fun _=>s4⟩ h0 h1 h2 h3 h4 h5 h6 h7 h8 h9 (fun _=>⟨(h4.out (h5.out d5).1).1,d5,d8,rfl⟩) (fun d=>by have e:=(h11.out d).1;rw[un]at e;cases e) (fun d=>by have e:=(h12.out d).1;rw[un]at e;cases e) (fun d=>by have e:=(dF.out d).1;rw[un]at e;cases e) (fun d=>by have e:=(fu.out d).1;rw[un]at e;cases e)
         ·have d10:f10=true:=ah 10 hi (by kernel_rfl);obtain⟨u2,u5,u8,rfl⟩:=h10.out d10;refine aj rfl fun K HK=>?_;go_simp;exact HK.out _ _ fun _ k=>k e15 hB h0 h1 h2 h3 h4 h5 h6 h7 h8 h9 h10 (fun _=>⟨d10,rfl⟩) h12 dF fu
         ·have d11:f11=true:=ah 11 hi (by kernel_rfl);obtain⟨_,rfl⟩:=h11.out d11;have d10:f10=true:=(h11.out d11).1;refine aj rfl fun K HK=>?_;go_simp;exact HK.out _ _ fun _ k=>k e15 hB h0 h1 h2 h3 h4 h5 h6 h7 h8 h9 h10 h11 (fun _=>⟨d10,rfl⟩) dF fu
         ·have d11:f11=true:=ah 11 hi (by kernel_rfl);obtain⟨_,rfl⟩:=h11.out d11;have d10:f10=true:=(h11.out d11).1;refine aj rfl fun K HK=>?_;go_simp;exact HK.out _ _ fun _ k=>k e15 hB h0 h1 h2 h3 h4 h5 h6 h7 h8 h9 h10 h11 h12 (fun _=>⟨d10,rfl⟩) fu
         ·have d12:f12=true:=ah 12 hi (by kernel_rfl);obtain⟨_,rfl⟩:=h12.out d12;have d10:f10=true:=(h12.out d12).1;refine aj rfl fun K HK=>?_;go_simp;exact HK.out _ _ fun _ k=>k e15 hB h0 h1 h2 h3 h4 h5 h6 h7 h8 h9 h10 h11 h12 dF (fun _=>⟨d10,rfl⟩)
        ·intro w' f0 f1 f2 f3 f4 f5 f6 f7 f8 f9 f10 f11 f12 f13 f14 f15 x20 jP zX x80 x81 x82 x83 x84 x85 x86 x87 x88 x89 x90 x91 VG e15 hB h0 h1 h2 h3 h4 h5 h6 h7 h8 h9 h10 h11 h12 dF fu hi;have d13:f13=true:=ah 13 hi (by kernel_rfl);obtain⟨_,rfl⟩:=dF.out d13;have d14:f14=true:=ah 14 hi (by kernel_rfl);obtain⟨_,rfl⟩:=fu.out d14;clear hi;have Zw:=(dF.out d13).1;refine aj rfl fun K HK=>?_;go_simp;refine HK.out _ _ ?_;obtain⟨P1,d3,hp1,hd3,s9⟩:=hB.2 Zw;have ED:Hid _:=Sep.drop (Sep.eh (s9));have D3:Hid (bf d d3):=hd3;have M3:Hid ((⟨ae,ce,some ⟨r,ro,none⟩,ck,az,cz,n⟩:NV)∈P1∧∀y∈P,y∈P1):=⟨hp1 _ ot.out.1,fun y hy=>hp1 _ (ot.out.2 y hy)⟩;clear s9 hp1 hd3 h0 h1 h2 h3 h4 h5 h6 h7 h8 h9 h10 h11 h12 dF fu hB Zw;have wi:IntKind.i64.wrap ((ii:Int)+1)=((ii+1:Nat):Int):=by rw[bE (by have:=UI.out;have:=Jc.out;omega) (by have:=UI.out;have:=Jc.out;omega)];rfl
         by_cases hq:e1≠0∨b1=false
         ·have hE:=yf.out;rw[if_pos hq]at hE;obtain⟨ha,hb,hc⟩:s1=s'∧false=b∧e1=er:=by
           cases hE;exact⟨rfl,rfl,rfl⟩
          subst ha hb hc;clear hE yf;rcases Classical.em (e1=0)with h00|h00
          ·obtain rfl:b1=false:=by
            rcases hq with h|h
            ·exact absurd h00 h
            ·exact h
           subst h00;go_wp2;go_ret2;exact⟨rfl,P1,d3,M3.out.2,D3.out,Sep.drop (Sep.dH (Sep.drop (Sep.dH (ED.out))))⟩
          ·have hne:(e1 != 0)=true:=bne_iff_ne.2 h00;go_wp2;go_ret2;exact⟨rfl,P1,d3,M3.out.2,D3.out,Sep.drop (Sep.dH (Sep.drop (Sep.dH (ED.out))))⟩
         ·have hE:=yf.out;rw[if_neg hq]at hE;obtain⟨rfl,rfl⟩:e1=0∧b1=true:=by
           refine⟨?_,?_⟩
           ·rcases Classical.em (e1=0)with h|h
            ·exact h
            ·exact absurd (.inl h) hq
           ·cases hb1:b1
            ·exact absurd (.inr hb1) hq
            ·rfl
          have XK:Hid (gU (fun s id fr tt=>eZ x d st f s id (depth+1) fr tt) n fr tt g (ii+1) s1=some (s',(b,er))):=hE;clear hE yf hq;go_wp2
          go_roundg (n.ks.length- (ii+1))
          case measure=>have:=UI.out;omega
          case rel=>exact⟨ii+1,s1,P1,d3,(by go_num),Nat.le_refl _,(by show _=_;rw[show n.ks.length- (ii+1)=g by have:=HG.out;omega];exact XK.out),M3.out,D3.out,ED.out⟩
        ·intro _ _;intros;assumption
     ·have vF:¬(ii:Int)< (n.ks.length:Int):=by omega
      have hE:=HE2.out;rw[show n.ks.length-ii=0 by omega,gU]at hE;obtain⟨ha,hb,hc⟩:si=s'∧true=b∧0=er:=by
       cases hE;exact⟨rfl,rfl,rfl⟩
      subst ha hb hc;obtain⟨_,⟨y0,y1,y2,y3⟩,_⟩:=Sep.c4 (Sep.cO (HS.out));clear hE HE2;go_wp2;go_ret2;exact⟨rfl,Pc,dc,ot.out.2,HD.out,Sep.drop (Sep.dH (Sep.drop (Sep.dH (HS.out))))⟩
end
end
section
section
variable {B:Nat}{w0 w w':World}{l:List aO}{e:TypeId}{k n:Nat}{v v':Value}{cs:List Value}
theorem uv {m:Nat}{news:List Value}(h:Sep B w0 w (RowK e k v n cs::l))(h2:w'.ownsRow 0 e k v' m news)(hg:w.grownBy w' v.ownBlock)(hloc:v'.ownBlock=v.ownBlock∨v'.ownBlock=some w.heap.size):Sep B w0 w' (RowK e k v' m news::l):=by
 refine h.step (fM _ _ _ _ _) fun X hX=>⟨fun q=>v'.ownBlock=some q,⟨h2,fun q=>Iff.rfl⟩,cB.grown hg (fun q hq=>(hX.2 q).2 hq),fun q hq=>?_⟩;rcases hloc with e1|e1
 ·exact .inl ((hX.2 q).2 (e1▸hq))
 ·rw[e1]at hq;exact .inr (Nat.le_of_eq (Option.some.inj hq))
variable {F:Fence}{nF:Nat}{ops:Array Oper}{rest:List Oper}{o:Oper}{a:Act}{Q:Exit->Act->World->Prop}{P:Program}{z:Value}{bytes:Nat}{t:TypeId}{r c m:Nat}{news:List Value}{s x:Operand}
theorem Je {r:Nat}{w:World}{ts:TypeId}{news:List Value}(h:w.heap[r]? =some (.cells news.toArray ts (0,0))):∀j u,news[j]? =some u->w.cell? ((⟨r,0,none⟩:Addr).add j)=some u:=fun j u hj=>by
 rw[Go.WideShapes.add_plain,Nat.zero_add];simp only[World.cell?,h];simpa using hj
theorem XL (hgd:o.guard=.none)(ho:o.op=.call {callee:=.builtin .append,args:=#[s,x],argTypes:=#[t,t]})(Rs:(P.info? e).map (fun i=>(i.zero,i.size,i.bytes))=some (some z,k,bytes))(ht:P.underlying t=some (.slice e))(hz:z.cells.size=k)(hk:0<k)(hby:bytes<=1000)
  (v:Value)(hs:a.eval s=v)(h:Sep B w0 w (RowK e k v n cs::l))(hx:a.eval x=.slice (some ⟨r,0,none⟩) 1 c)(hnews:∀j u,news[j]? =some u->w.cell? ((⟨r,0,none⟩:Addr).add j)=some u)(hlen:news.length=k)(h1:∀u∈news,u.oneCell'=true)(hn:n<1000000)
  (hK:∀ao c' w',Sep B w0 w' (RowK e k (.slice ao (n+1) c') (n+1) (cs++news)::l)->wpListIn F nF P ops Q rest (a.put o.dst (.slice ao (n+1) c')) w'):wpListIn F nF P ops Q (o::rest) a w:=by
 obtain⟨i0,hi,hz0,hz1,hz2⟩:=info_parts Rs;refine wpListIn_append_own_at w hgd s x t ho 0 e i0 z k bytes ht hi hz0 hz1 hz2 hz hk v n cs hs h.Ie ⟨r,0,none⟩ 1 c news hx (by omega) hnews h1 (by unfold maxLen;omega) ?_ (Nat.zero_le _) ?_
 ·exact Nat.le_trans (Nat.mul_le_mul (show n+1<=1000000 by omega) hby) (by decide)
 ·intro v' w' g1 g2 _ g4;obtain⟨dG,n',c',rfl⟩:∃ao n c,v'=.slice ao n c:=by
   rcases g1.2 with⟨h,_⟩| ⟨g,cap,cur,h,_⟩
   ·exact⟨_,_,_,h⟩
   ·exact⟨_,_,_,h⟩
  obtain rfl:n'=n+1:=by
   rcases g1.2 with⟨_,h⟩| ⟨g,cap,cur,h,_⟩
   ·omega
   ·cases h;rfl
  exact hK _ _ _ (uv h g1 g2 g4)
theorem UJ (hgd:o.guard=.none)(ho:o.op=.call {callee:=.builtin .append,args:=#[s,x],argTypes:=#[t,t]})(Rs:(P.info? e).map (fun i=>(i.zero,i.size,i.bytes))=some (some z,k,bytes))(ht:P.underlying t=some (.slice e))(hz:z.cells.size=k)(hk:0<k)(hby:bytes<=1000)
  (v:Value)(hs:a.eval s=v)(h:Sep B w0 w (RowK e k v n cs::l))(hx:a.eval x=.slice (some ⟨r,0,none⟩) 1 c)(hnews:∀j u,news[j]? =some u->w.cell? ((⟨r,0,none⟩:Addr).add j)=some u)(hlen:news.length=k)(h1:∀u∈news,u.oneCell'=true)(hn:n<1000000)
  (hK:∀ao c' w',Sep B w0 w' (RowK e k (.slice ao (n+1) c') (n+1) (cs++news)::l)->wpList P ops Q rest (a.put o.dst (.slice ao (n+1) c')) w'):wpList P ops Q (o::rest) a w:=by
 obtain⟨i0,hi,hz0,hz1,hz2⟩:=info_parts Rs;refine wpList_append_own_at w hgd s x t ho 0 e i0 z k bytes ht hi hz0 hz1 hz2 hz hk v n cs hs h.Ie ⟨r,0,none⟩ 1 c news hx (by omega) hnews h1 (by unfold maxLen;omega) ?_ (Nat.zero_le _) ?_
 ·exact Nat.le_trans (Nat.mul_le_mul (show n+1<=1000000 by omega) hby) (by decide)
 ·intro v' w' g1 g2 _ g4;obtain⟨dG,n',c',rfl⟩:∃ao n c,v'=.slice ao n c:=by
   rcases g1.2 with⟨h,_⟩| ⟨g,cap,cur,h,_⟩
   ·exact⟨_,_,_,h⟩
   ·exact⟨_,_,_,h⟩
  obtain rfl:n'=n+1:=by
   rcases g1.2 with⟨_,h⟩| ⟨g,cap,cur,h,_⟩
   ·omega
   ·cases h;rfl
  exact hK _ _ _ (uv h g1 g2 g4)
end
section
variable {ops:Array Oper}{o:Oper}{a:Act}{K:Act->World->Prop}{Q:Exit->Act->World->Prop}{E:Prop}{B:Nat}{w0 w:World}{l:List aO}{P:Program}{e t:TypeId}{k n bytes r c:Nat}{z:Value}{cs news:List Value}{s x:Operand}
end
def CY (v:Value)(o:List N.En):aO:=RowK 45 2 v o.length (flatK N.ax 2 o.toArray).toList
theorem mJ (v:Value)(o:List N.En):Good (CY v o):=fM _ _ _ _ _
theorem UK {B:Nat}{w0 w:World}{l:List aO}{v:Value}{s:List N.En}{y:N.En}(h:Sep B w0 w (RowK 45 2 v (s.length+1) ((flatK N.ax 2 s.toArray).toList++N.ax y)::l)):Sep B w0 w (CY v (s++[y])::l):=by
 unfold CY;rw[List.length_append,List.length_singleton,N.bH N.ax 2 N.bY];exact h
theorem Sep.UL {B:Nat}{w0 w:World}{l:List aO}{v:Value}{s:List N.En}(h:Sep B w0 w (CY v s::l)):N.Row N.ax 2 w v s:=(N.bX (base:=0) (by decide) h.Ie).row
end
section
open N (Nd En)
def Sv (pl:Nat)(s:List En):aO:=fun w X=>∃v,Both (aF pl (.cells #[v] 27)) (CY v s) w X
theorem Jf (pl:Nat)(s:List En):Good (Sv pl s):=
 ⟨fun w w' X ⟨v,h⟩ hk hs=>⟨v,(aJ (aZ _ _) (mJ _ _)).kept w w' X h hk hs⟩,fun w X ⟨v,h⟩=>(aJ (aZ _ _) (mJ _ _)).lt w X h⟩
def XN (p1 p2:Nat)(s:Option En):aO:=Both (aF p1 (.cells #[.string (s.getD (⟨#[]⟩,⟨#[]⟩)).1,.string (s.getD (⟨#[]⟩,⟨#[]⟩)).2] 45)) (aF p2 (.cells #[.bool s.isSome] 4))
def Rt (s:List En)(y:En):List En×Bool:=(s++[y],true)
def Sw (s:Option En)(y:En):Option En×Bool:=(some y,false)
section
variable {B:Nat}{w0 w:World}{l:List aO}{P:List NV}{C:Cx}{x:TX}{d d1:Dk}{pl p1 p2:Nat}
theorem Sep.OO (h:Sep B w0 w l):Sep B w0 w (CY (.slice none 0 0) []::l):=by
 unfold CY;simpa[flatK]using Sep.Qw (e:=45) (k:=2) h
theorem Sep.Jg {s:List En}(h:Sep B w0 w (Sv pl s::l)):∃ao c,Sep B w0 w (aF pl (.cells #[.slice ao s.length c] 27)::CY (.slice ao s.length c) s::l):=by
 obtain⟨hB,hb,Y,⟨gg,X,Z,⟨v,hX⟩,hz,hd,hy⟩,hY⟩:=h;have h0:Hp w (Both (aF pl (.cells #[v] 27)) (CY v s)::l) Y:=⟨aJ (aZ _ _) (mJ _ _),X,Z,hX,hz,hd,hy⟩;have h1:Sep B w0 w (aF pl (.cells #[v] 27)::CY v s::l):=⟨hB,hb,Y,Hp.part (aZ _ _) (mJ _ _) h0,hY⟩;obtain⟨ao,c,rfl⟩:=Sep.uf (n:=s.length) (Sep.pk [_] h1);exact⟨ao,c,h1⟩
theorem Sep.Jh {s:List En}{v:Value}(h:Sep B w0 w (aF pl (.cells #[v] 27)::CY v s::l)):Sep B w0 w (Sv pl s::l):=by
 obtain⟨hB,hb,Y,⟨gg,X,Z,hX,hz,hd,hy⟩,hY⟩:=Sep.join h;exact⟨hB,hb,Y,⟨Jf _ _,X,Z,⟨v,hX⟩,hz,hd,hy⟩,hY⟩
theorem Ji:UD B w0 C x 52 #[.pointer (some ⟨pl,0,none⟩)] Rt (Sv pl) List.length 900000:=by
 intro w d P l s y hb h;unfold Rt at hb⊢;simp only[List.length_append,List.length_singleton]at hb;obtain⟨ao,c,ho⟩:=Sep.Jg (Sep.pk [_,_,_,_] h);have hn:s.length<1000000:=by omega
 have SB:Hid (Sep B w0 ((w.alloc (.cells #[.string y.1,.string y.2] 45)).alloc (.cells #[.string y.1,.string y.2] 45)) (RowK 45 2 (.slice ao s.length c) s.length (flatK N.ax 2 s.toArray).toList::aF (w.heap.size+1) (.cells #[.string y.1,.string y.2] 45)::aF pl (.cells #[.slice ao s.length c] 27)::Tx C.t C.f x::File C.f C.b d::kJ C::Pl P::l)):=
  Sep.pk [_,_] (Sep.aR (ho.alloc (.cells #[.string y.1,.string y.2] 45)) _ _ (by simp))
 have UM:Hid _:=Je (news:=N.ax y) (Sep.blk (Sep.pk [_] SB.out));obtain⟨ps,p0,_⟩:=Sep.c1 ho;clear h ho hb;go_enter Tryz.func52,Tryz.ntmps52
 go_wp2_with (at_builtin;refine UJ rfl rfl N.dT Tryz.underlying27 rfl (by decide) (by decide) _ rfl SB.out rfl UM.out rfl (N.dS y) hn ?_;intro JN c5 w5 s5;have S5:Hid (Sep B w0 w5 (aF pl (.cells #[.slice ao s.length c] 27)::CY (.slice JN (s.length+1) c5) (s++[y])::Tx C.t C.f x::File C.f C.b d::kJ C::Pl P::l)):=Sep.pk [_] (UK (Sep.drop (Sep.pk [_] s5)));clear s5 SB UM;obtain⟨qs,q0,qf⟩:=Sep.c1 S5.out)
 have SF:Hid (Sep B w0 (w5.setCell ⟨pl,0,none⟩ (.slice JN (s.length+1) c5)) (TL C x d P (Sv pl (s++[y])::l))):=by
  have h6:=Sep.kZ (x:=.slice JN (s.length+1) c5) S5.out 0;exact Sep.pb [_,_,_,_] (Sep.Jh h6)
 go_ret;exact⟨rfl,SF.out⟩
theorem Jj:UD B w0 C x 53 #[.pointer (some ⟨p1,0,none⟩),.pointer (some ⟨p2,0,none⟩)] Sw (XN p1 p2) (fun _=>0) 0:=by
 intro w d P l s y hb h;unfold Sw;have h2:=Sep.dV (Sep.pk [_,_,_,_] h);obtain⟨k1,⟨a0,a1⟩,f0,f1⟩:=Sep.c2 h2;obtain⟨k2,b0,g0⟩:=Sep.c1 (Sep.pk [_] h2);have hne:p1≠p2:=Sep.ne h2;have hne':=hne.symm;have SF:Hid (Sep B w0 ((((w.setCell ⟨p1,0,none⟩ (.string y.1)).setCell ⟨p1,1,none⟩ (.string y.2)).setCell ⟨p2,0,none⟩ (.bool true)).alloc (.cells #[.string y.1,.string y.2] 45)) (TL C x d P (XN p1 p2 (some y)::l))):=by
  have h3:=Sep.kZ (x:=.string y.1) h2 0;have h4:=Sep.kZ (x:=.string y.2) h3 1;have h5:=Sep.kZ (x:=.bool true) (Sep.pk [_] h4) 0;exact(Sep.pb [_,_,_,_] (Sep.join (Sep.pk [_] h5))).alloc _
 clear h h2 hb;go_enter Tryz.func53,Tryz.ntmps53;go_wp2;go_ret;exact⟨rfl,SF.out⟩
end
end
end Go.Proofs.YtceoeaemenhbhaaGreatDoor
