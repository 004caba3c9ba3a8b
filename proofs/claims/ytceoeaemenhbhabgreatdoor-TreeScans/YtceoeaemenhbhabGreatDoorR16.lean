/- Walks of the package cowtree and of what it stands on: lemmas, made short. -/
import Derived.Test.YtceoeaemenhbhabGreatDoorR14
import Derived.Test.YtceoeaemenhbhabGreatDoorR15
import Derived.Test.YtceoeaemenhbhabGreatDoorR10
import Derived.Test.YtceoeaemenhbhabGreatDoorR3
set_option maxHeartbeats 16000000
set_option maxRecDepth 100000
set_option linter.unusedVariables false
set_option linter.unusedSimpArgs false
section
namespace Go.Proofs.YtceoeaemenhbhabGreatDoor.P
open N
section
variable {σ:Type}{st:σ->En->σ×Bool}{fr tt:ByteArray}{h:Nat}
theorem J0:∀(l m:List En) (s:σ),kQ st (l++m) s=if(kQ st l s).2=false then kQ st l s else kQ st m (kQ st l s).1
 |[],m,s=>rfl
 |e::l,m,s=>by
  rw[List.cons_append,kQ,kQ];by_cases hb:(st s e).2=false
  ·rw[if_pos hb,if_pos hb];simp
  ·rw[if_neg hb,if_neg hb];exact J0 l m _
theorem Ds (l m:List En):dR fr tt (l++m)=dR fr tt l++dR fr tt m:=List.filter_append ..
theorem Dt {l:List En}(h:∀e∈l,bn e.1 fr=true∨a8 tt e.1=false):dR fr tt l=[]:=by
 unfold dR;rw[List.filter_eq_nil_iff];intro e he hc;simp only[Bool.and_eq_true,Bool.not_eq_true']at hc;rcases h e he with h1|h1
 ·rw[hc.1]at h1;cases h1
 ·rw[hc.2]at h1;cases h1
theorem J4 {fr' OY:ByteArray}{l:List En}(h:∀e∈l,bn e.1 fr'=bn e.1 fr∧a8 OY e.1=a8 tt e.1):dR fr' OY l=dR fr tt l:=by
 unfold dR;refine List.filter_congr fun e he=>?_;rw[(h e he).1,(h e he).2]
theorem qx {k:ByteArray}:a8 tt k=true↔tt=⟨#[]⟩∨bn k tt=true:=by simp[a8]
theorem Bk {k:ByteArray}:a8 tt k=false↔tt≠⟨#[]⟩∧bn k tt=false:=by simp[a8]
theorem RD {k k':ByteArray}(h:a8 tt k'=true)(hk:bn k k'=true):a8 tt k=true:=by
 rcases qx.1 h with h|h
 ·exact qx.2 (.inl h)
 ·exact qx.2 (.inr (cJ hk h))
theorem J5 {k k':ByteArray}(h:a8 tt k=false)(hk:bn k' k=false):a8 tt k'=false:=by
 obtain⟨h1,h2⟩:=Bk.1 h;refine Bk.2 ⟨h1,?_⟩;cases hc:bn k' tt with
 |false=>rfl
 |true=>
  have:=gu h2 hc;rw[hk]at this;cases this
theorem OZ:∀(l:List En) (s:σ),l.Pairwise (fun x y=>bn x.1 y.1=true)->
  (oL st tt l s).1=(kQ st (l.filter fun e=>a8 tt e.1) s).1∧((oL st tt l s).2=none->(kQ st (l.filter fun e=>a8 tt e.1) s).2=true)∧∀b,(oL st tt l s).2=some b->(kQ st (l.filter fun e=>a8 tt e.1) s).2=b
 |[],s,_=>⟨rfl,fun _=>rfl,fun b hb=>by cases hb⟩
 |e::l,s,hp=>by
  obtain⟨p1,p2⟩:=List.pairwise_cons.1 hp;rw[oL];by_cases hh:a8 tt e.1=false
  ·rw[if_pos hh];have:(e::l).filter (fun e=>a8 tt e.1)=[]:=by
    rw[List.filter_eq_nil_iff];intro x hx hc;rcases List.mem_cons.1 hx with rfl|hx
    ·rw[hh]at hc;cases hc
    ·rw[J5 hh (gG (p1 x hx))]at hc;cases hc
   rw[this];exact⟨rfl,fun hc=>by simp at hc,fun b hb=>by cases hb;rfl⟩
  ·rw[if_neg hh];have ht:a8 tt e.1=true:=by simpa using hh
   have:(e::l).filter (fun e=>a8 tt e.1)=e::l.filter (fun e=>a8 tt e.1):=by rw[List.filter_cons_of_pos (by simpa using ht)]
   rw[this,kQ];by_cases hb:(st s e).2=false
   ·rw[if_pos hb,if_pos hb];exact⟨rfl,fun hc=>by simp at hc,fun b hb'=>by simp at hb';rw[<-hb']⟩
   ·rw[if_neg hb,if_neg hb];exact OZ l _ p2
theorem zj {l:List En}(hp:l.Pairwise (fun x y=>bn x.1 y.1=true)):l.drop (iD l fr)=l.filter fun e=>!bn e.1 fr:=by
 induction l with
 |nil=>rfl
 |cons e l ih=>
  obtain⟨p1,p2⟩:=List.pairwise_cons.1 hp;have ih:=ih p2;unfold iD at ih⊢;by_cases he:bn e.1 fr=true
  ·rw[List.countP_cons_of_pos (by simpa using he),List.drop_succ_cons,ih,List.filter_cons_of_neg (by simp[he])]
  ·have hall:∀x∈e::l,bn x.1 fr=false:=fun x hx=>by
    rcases List.mem_cons.1 hx with rfl|hx
    ·simpa using he
    ·cases hc:bn x.1 fr with
     |false=>rfl
     |true=>exact absurd (cJ (p1 x hx) hc) he
   rw[List.countP_eq_zero.2 (fun x hx=>by simp[hall x hx]),List.drop_zero];exact(List.filter_eq_self.2 fun x hx=>by simp[hall x hx]).symm
theorem RJ (l:List En):dR fr tt l=(l.filter fun e=>!bn e.1 fr).filter fun e=>a8 tt e.1:=by
 unfold dR;rw[List.filter_filter];exact List.filter_congr fun e _=>Bool.and_comm _ _
theorem J6 {A B:List (KT h)}{u:KT h}{sA sB:List ByteArray}{s:ByteArray}(hA:A.length=sA.length)(ho:bO (dy (A++u::B) (sA++sB)))(hs:s∈sA){x:En}(hx:x∈bN (u::B)):bn x.1 s=false:=by
 have e1:dy (A++u::B) (sA++sB)=dy A sA++dy (u::B) sB:=by
  unfold dy;rw[List.map_append,mL _ _ (by simpa using hA)]
 rw[e1]at ho;have h1:(true,s)∈dy A sA:=by
  have:=(gX (A.map fun u=>cj h u.2) sA (by simp;omega)).subset (List.mem_map_of_mem (f:=fun s=>((true,s):It)) hs);exact this
 have h2:(false,x.1)∈dy (u::B) sB:=sO hx _ (fun _ h=>h) sB;have:=(List.pairwise_append.1 ho.up).2.2 _ h1 _ h2;simpa[RI]using this
theorem RM {A B:List (KT h)}{u:KT h}{sA sB:List ByteArray}{s:ByteArray}(hA:A.length=sA.length)(ho:bO (dy (A++u::B) (sA++s::sB)))(hB:B≠[]){x:En}(hx:x∈dW h u.2):bn x.1 s=true:=by
 rw[eW hA]at ho;obtain⟨v,B,rfl⟩:∃v B',B=v::B':=by
  cases B with
  |nil=>exact absurd rfl hB
  |cons v B=>exact⟨v,B,rfl⟩
 rw[List.map_cons,iQ]at ho;have h1:=(List.pairwise_append.1 (List.pairwise_append.1 ho.up).2.1).2.2 _ (iU h u.2 x hx) (true,s) (by simp);simpa[RI]using h1
theorem ahead:∀(A:List (KT h)) (sA:List ByteArray),A.length=sA.length->bO (dy A sA)->∀x∈bN A,∃s∈sA,bn x.1 s=true
 |[],_,_,_,x,hx=>by cases hx
 |u::A,[],hl,_,_,_=>by simp at hl
 |u::A,s::sA,hl,ho,x,hx=>by
  have e1:dy (u::A) (s::sA)=cj h u.2++(true,s)::dy A sA:=rfl;rw[e1]at ho;rw[bS]at hx;rcases List.mem_append.1 hx with hx|hx
  ·have h1:=(List.pairwise_append.1 ho.up).2.2 _ (iU h u.2 x hx) (true,s) (by simp);exact⟨s,by simp,by simpa[RI]using h1⟩
  ·obtain⟨s1,h1,h2⟩:=ahead A sA (by simpa using hl) (ho.sub (List.Sublist.trans (List.sublist_cons_self _ _) (List.sublist_append_right _ _))) x hx;exact⟨s1,by simp[h1],h2⟩
theorem zk (sA:List ByteArray)(s:ByteArray)(sB:List ByteArray):(sA++s::sB).getD sA.length ⟨#[]⟩=s:=by simp[List.getD_eq_getElem?_getD]
theorem Fe {A B:List (KT h)}{u:KT h}:((A++u::B).map Prod.fst).getD A.length (0:Int)=u.1:=by simp[List.getD_eq_getElem?_getD]
theorem Du {rec:σ->Int->ByteArray->ByteArray->Option (σ×(Bool×Int))}:∀(B A:List (KT h)) (sA sB:List ByteArray) (s:σ),A.length=sA.length->sB.length+1=B.length->bO (dy (A++B) (sA++sB))->(∀s∈sB,bn fr s=true)->
  (∀u∈B,∀s fr' OY,rec s u.1 fr' OY=some ((kQ st (dR fr' OY (dW h u.2)) s).1,((kQ st (dR fr' OY (dW h u.2)) s).2,0)))->
  fM rec (aU (h+1) (bH (A++B) (sA++sB))) fr tt B.length A.length s=some ((kQ st (dR fr tt (bN B)) s).1,((kQ st (dR fr tt (bN B)) s).2,0))
 |[],_,_,_,_,_,hl,_,_,_=>by simp at hl
 |u::B,A,sA,sB,s,hA,hl,ho,hfr,hrec=>by
  have hlB:sB.length=B.length:=by simpa using hl
  rw[List.length_cons,fM,bQ];simp only;rw[if_neg (by simp;omega),Fe];have Vl:∀x∈bN (u::B),bn x.1 (ju (sA++sB) A.length fr)=bn x.1 fr:=fun x hx=>by
   unfold ju;split
   ·rename_i hc
    have hm:(sA++sB).getD (A.length-1) ⟨#[]⟩∈sA:=by
     rw[hA,List.getD_eq_getElem?_getD,List.getElem?_append_left (by omega),List.getElem?_eq_getElem (by omega)];exact List.getElem_mem _
    rw[J6 hA ho hm hx];cases hx2:bn x.1 fr with
    |false=>rfl
    |true=>have:=cJ hx2 hc.2;rw[J6 hA ho hm hx]at this;cases this
   ·rfl
  have key:(a8 (gB (sA++sB) A.length tt) (ju (sA++sB) A.length fr)=false->dR fr tt (bN (u::B))=[])∧∀x∈dW h u.2,a8 (gB (sA++sB) A.length tt) x.1=a8 tt x.1:=by
   have plain:gB (sA++sB) A.length tt=tt->(a8 (gB (sA++sB) A.length tt) (ju (sA++sB) A.length fr)=false->dR fr tt (bN (u::B))=[])∧∀x∈dW h u.2,a8 (gB (sA++sB) A.length tt) x.1=a8 tt x.1:=fun e=>by
    rw[e];refine⟨fun hc=>Dt fun x hx=>?_,fun _ _=>rfl⟩;cases h1:bn x.1 fr with
    |true=>exact .inl rfl
    |false=>exact .inr (J5 hc (by rw[Vl x hx,h1]))
   cases sB with
   |nil=>
    apply plain;unfold gB;rw[if_neg (by simp;omega)]
   |cons s1 sB=>
    by_cases hs:a8 tt s1=true
    ·have e:gB (sA++s1::sB) A.length tt=s1:=by
      unfold gB;rw[hA,zk,if_pos ⟨by simp,hs⟩]
     have Yg:B≠[]:=by intro e;rw[e]at hlB;simp at hlB
     rw[e];refine⟨fun hc=>?_,fun x hx=>?_⟩
     ·exfalso;have h1:bn (ju (sA++s1::sB) A.length fr) s1=true:=by
       unfold ju;split
       ·rename_i hc2
        have hp:=kv (h:=h) (K:=A++u::B) (ss:=sA++s1::sB) (by simp at hl⊢;omega) ho;have h2:sA.length-1<sA.length:=by omega
        rw[hA,List.getD_eq_getElem?_getD,List.getElem?_append_left (by omega),List.getElem?_eq_getElem h2];exact(List.pairwise_append.1 hp).2.2 _ (List.getElem_mem h2) s1 (by simp)
       ·exact hfr s1 (by simp)
      rw[Bk]at hc;rw[h1]at hc;cases hc.2
     ·have h1:=RM hA ho Yg hx;rw[RD hs h1];exact qx.2 (.inr h1)
    ·apply plain;unfold gB;rw[hA,zk,if_neg (fun hc=>hs hc.2)]
  by_cases hh:a8 (gB (sA++sB) A.length tt) (ju (sA++sB) A.length fr)=false
  ·rw[if_pos hh,key.1 hh];rfl
  ·rw[if_neg hh,hrec u (by simp)];have e1:dR (ju (sA++sB) A.length fr) (gB (sA++sB) A.length tt) (dW h u.2)=dR fr tt (dW h u.2):=J4 fun x hx=>⟨Vl x (by rw[bS];exact List.mem_append_left _ hx),key.2 x hx⟩;rw[e1,bS,Ds,J0];simp only;cases hb:(kQ st (dR fr tt (dW h u.2)) s).2 with
   |false=>
    rw[if_pos (.inr rfl),if_pos rfl,hb]
   |true=>
    rw[if_neg (by simp),if_neg (by simp)];cases sB with
    |nil=>
     have:B=[]:=List.length_eq_zero_iff.1 (by simpa using hlB.symm);subst this;rw[show([]:List (KT h)).length=0 from rfl,fM];rfl
    |cons s1 sB=>
     have:=Du B (A++[u]) (sA++[s1]) sB (kQ st (dR fr tt (dW h u.2)) s).1 (by simp;omega) (by simpa using hlB) (by simpa using ho) (fun s hs=>hfr s (by simp[hs])) (fun v hv=>hrec v (by simp[hv]));rw[bQ]at this;simpa using this
variable {room:Nat}{d:Dk}{S:Dr}{x:TX}
theorem uU {id depth:Int}{f:Nat}{s:σ}{l:List En}(hrd:dC x d id depth=(⟨true,l,[],[]⟩,0))(hsm:bW ⟨true,l,[],[]⟩=true)(hrt:dm ⟨true,l,[],[]⟩=true)(hdp:depth<=1000)(hp:l.Pairwise (fun x y=>bn x.1 y.1=true)):
  dO x d st (f+1) s id depth fr tt=some ((kQ st (dR fr tt l) s).1,((kQ st (dR fr tt l) s).2,0)):=by
 rw[dO,hrd,if_neg (by simp),if_neg (by rw[hsm,hrt];simp;omega)];obtain⟨a1,a2,a3⟩:=OZ (st:=st) (tt:=tt) (l.filter fun e=>!bn e.1 fr) s (hp.sublist (List.filter_sublist ..));simp only;rw[RJ,zj hp];cases hc:(oL st tt (l.filter fun e=>!bn e.1 fr) s).2 with
 |none=>
  have:=a2 hc;simp only;rw[<-a1];simp only[List.length_nil,Nat.zero_sub];rw[fM,this]
 |some b=>
  simp only;rw[a3 b hc,<-a1]
theorem Dv (hr:room<=16384):∀(h:Nat) (u:KT h) (depth:Int) (f:Nat) (fr tt:ByteArray) (s:σ),Gb room d (eY x) h u.2->(eY x).vw d u.1=(aU h u.2,0)->depth+h<24->h<f->
  dO x d st f s u.1 depth fr tt=some ((kQ st (dR fr tt (dW h u.2)) s).1,((kQ st (dR fr tt (dW h u.2)) s).2,0))
 |h,_,_,0,_,_,_,_,_,_,hf=>absurd hf (by omega)
 |0,u,depth,f+1,fr,tt,s,G,rd,hd,hf=>by
  have hrd:dC x d u.1 depth=(aU 0 u.2,0):=by
   have h1:=(eY x).gA d u.1 depth (by omega);rw[rd]at h1;rw[<-h1];unfold Dr.read;rw[if_neg (by simp[eY])];rfl
  exact uU (l:=u.2) hrd (G.sm hr) (Db hr G.sd _ G.wl G.us G.od G.vl) (by omega) (bO.leaf G.od G.vl:Rg (show List En from u.2)).1
 |h+1,u,depth,f+1,fr,tt,s,G,rd,hd,hf=>by
  obtain⟨p,b⟩:=u;obtain⟨K,ss,rfl⟩:=fh b;have hrd:dC x d p depth=(aU (h+1) (bH K ss),0):=by
   have h1:=(eY x).gA d p depth (by omega);rw[rd]at h1;rw[<-h1];unfold Dr.read;rw[if_neg (by simp[eY])];rfl
  have R0:=G.rw;have hl:ss.length+1=K.length:=G.wl.1;obtain⟨sA,sB,rfl,hch,k1,k2⟩:=wJ (key:=fr) (kv (by omega) R0.od);obtain⟨A,B,rfl,hA⟩:∃A B,K=A++B∧A.length=sA.length:=⟨K.take sA.length,K.drop sA.length,(List.take_append_drop _ _).symm,by rw[List.length_take];simp at hl;omega⟩;have hB:sB.length+1=B.length:=by simp at hl;omega
  rw[dO,hrd,if_neg (by simp),if_neg (by rw[G.sm hr,Db hr G.sd _ G.wl G.us G.od G.vl];simp;omega)];have e1:(aU (h+1) (bH (A++B) (sA++sB))).es=[]:=rfl;have e2:(aU (h+1) (bH (A++B) (sA++sB))).ks.length=A.length+B.length:=by rw[bQ];simp
  have e3:(aU (h+1) (bH (A++B) (sA++sB))).ss=sA++sB:=rfl;simp only[e1,e2,e3,hch,List.drop_nil,oL];rw[<-hA,Nat.add_sub_cancel_left];have:=Du (st:=st) (fr:=fr) (tt:=tt) (rec:=fun s id fr tt=>dO x d st f s id (depth+1) fr tt) B A sA sB s hA hB R0.od k2 fun v hv s' fr' OY=>by
   obtain⟨B1,B2,rfl⟩:=List.append_of_mem hv;have hwz:=R0.wl v (by simp);have hsub:(bj h v.2).Sublist (aV (A++(B1++v::B2))):=by
    rw[bf,bf,bD,bX];exact List.Sublist.trans (List.sublist_cons_self _ _) (List.Sublist.trans (List.sublist_append_left _ _) (List.Sublist.trans (List.sublist_append_right _ _) (List.sublist_append_right _ _)))
   have Yh:bO (cj h v.2):=by
    have:(cj h v.2).Sublist (dy (A++(B1++v::B2)) (sA++sB)):=by
     exact List.Sublist.trans (List.sublist_flatten_of_mem (List.mem_map_of_mem (f:=fun u:KT h=>cj h u.2) (by simp))) (qu _ _)
    exact R0.od.sub this
   have Gw:Gb room d (eY x) h v.2:=⟨G.sd,hwz.1,hwz.2,fun p hp=>R0.us p (hsub.subset hp),R0.nd.sublist hsub,fun y hy=>R0.is y (by rw[cY,cY,dF];simp[nV,hy]),Yh,fun y hy=>R0.vl y (by rw[cm,cm,bS];simp[hy])⟩;exact Dv hr h v (depth+1) f fr' OY s' Gw (R0.is (v.1,aU h v.2) (by rw[cY,cY,dF];simp[nV])) (by omega) (by omega)
  rw[this,oK,cm,Ds];have eA:dR fr tt (bN A)=[]:=by
   refine Dt fun y hy=>.inl ?_;have hoA:bO (dy A sA):=by
    have:=R0.od;unfold dy at this⊢;rw[List.map_append,mL _ _ (by simpa using hA)]at this;exact this.sub (List.sublist_append_left _ _)
   obtain⟨s1,h1,h2⟩:=ahead A sA hA hoA y hy;exact gu (k1 s1 h1) h2
  rw[eA,List.nil_append]
end
end Go.Proofs.YtceoeaemenhbhabGreatDoor.P
end
section
namespace Go.Proofs.YtceoeaemenhbhabGreatDoor.P
open N
def Dw:(h:Nat)->Int->KT h->List Pg
 |0,dp,u=>[(u.1,dp,aU 0 u.2)]
 |h+1,dp,u=>(u.1,dp,aU (h+1) u.2)::((show List (KT h)from u.2.1).map (Dw h (dp+1))).flatten
theorem sT {h:Nat}(dp p:Int)(K:List (KT h))(ss:List ByteArray):Dw (h+1) dp (p,bH K ss)=(p,dp,⟨false,[],K.map Prod.fst,ss⟩)::(K.map (Dw h (dp+1))).flatten:=rfl
theorem wR:∀(h:Nat) (dp:Int) (u:KT h),(Dw h dp u).map Prod.fst=dN u
 |0,dp,u=>rfl
 |h+1,dp,(p,b)=>by
  obtain⟨K,ss,rfl⟩:=fh b;have e:∀K:List (KT h),((K.map (Dw h (dp+1))).flatten).map Prod.fst=aV K:=fun K=>by
   induction K with
   |nil=>rfl
   |cons v K ih=>rw[List.map_cons,List.flatten_cons,List.map_append,ih,wR h (dp+1) v,bD]
  rw[sT,List.map_cons,e K];rfl
section
variable {room:Nat}{d:Dk}{x:TX}
theorem qy (h:Nat)(dp:Int)(u:KT h):(Dw h dp u).length=(dN u).length:=by rw[<-wR h dp u,List.length_map]
theorem J7 {h:Nat}{rec:List Pg->Int->Option (List Pg×Int)}{dp:Int}:∀(K:List (KT h)) (s:List Pg),(aV K).Nodup->(∀k∈aV K,∀p∈s,p.1≠k)->s.length+(aV K).length<=100000->
  (∀u∈K,∀s:List Pg,(∀k∈dN u,∀p∈s,p.1≠k)->s.length+(dN u).length<=100000->rec s u.1=some (s++Dw h dp u,0))->
  tU rec (K.map Prod.fst) s=some (s++(K.map (Dw h dp)).flatten,0)
 |[],s,_,_,_,_=>by simp[tU]
 |u::K,s,nd,hn,hl,hrec=>by
  rw[bD]at nd hn hl;obtain⟨n1,n2,n3⟩:=List.nodup_append.1 nd;rw[List.length_append]at hl;have r1:=hrec u (by simp) s (fun k hk=>hn k (List.mem_append_left _ hk)) (by omega);have q1:=J7 (dp:=dp) K (s++Dw h dp u) n2 (fun k hk p hp=>by
   rcases List.mem_append.1 hp with hp|hp
   ·exact hn k (List.mem_append_right _ hk) p hp
   ·have h1:p.1∈dN u:=by rw[<-wR h dp u];exact List.mem_map_of_mem hp
    exact fun e=>n3 p.1 h1 k hk e) (by rw[List.length_append,qy];omega) (fun v hv=>hrec v (by simp[hv]))
  rw[List.map_cons,tU,r1];simp only;rw[if_neg (by simp),q1];simp
theorem Dx (hr:room<=16384):∀(h:Nat) (u:KT h) (depth:Int) (f:Nat) (s:List Pg),Gb room d (eY x) h u.2->(eY x).vw d u.1=(aU h u.2,0)->(dN u).Nodup->(∀k∈dN u,∀p∈s,p.1≠k)->s.length+(dN u).length<=100000->0<=depth->depth+h<24->h<f->
  fI x d f s u.1 depth=some (s++Dw h depth u,0)
 |h,_,_,0,_,_,_,_,_,_,_,_,hf=>absurd hf (by omega)
 |0,u,depth,f+1,s,G,rd,nd,hn,hl,h0,hd,hf=>by
  have hrd:dC x d u.1 depth=(aU 0 u.2,0):=by
   have h1:=(eY x).gA d u.1 depth (by omega);rw[rd]at h1;rw[<-h1];unfold Dr.read;rw[if_neg (by simp[eY])];rfl
  have e0:dN u=[u.1]:=rfl;have h1:(s.any fun p=>decide (p.1=u.1))=false:=by
   rw[List.any_eq_false];intro p hp;simpa using hn u.1 (by rw[e0];simp) p hp
  rw[fI,hrd,if_neg (by simp),if_neg (by rw[G.sm hr,h1];simp;omega)];rfl
 |h+1,(p,b),depth,f+1,s,G,rd,nd,hn,hl,h0,hd,hf=>by
  obtain⟨K,ss,rfl⟩:=fh b;have hrd:dC x d p depth=(aU (h+1) (bH K ss),0):=by
   have h1:=(eY x).gA d p depth (by omega);rw[rd]at h1;rw[<-h1];unfold Dr.read;rw[if_neg (by simp[eY])];rfl
  have R0:=G.rw;have e0:dN ((p,bH K ss):KT (h+1))=p::aV K:=rfl;rw[e0]at nd hn hl;obtain⟨n1,n2⟩:=List.nodup_cons.1 nd;have h1:(s.any fun q=>decide (q.1=p))=false:=by
   rw[List.any_eq_false];intro q hq;simpa using hn p (by simp) q hq
  rw[List.length_cons]at hl;rw[fI,hrd,if_neg (by simp),if_neg (by rw[G.sm hr,h1];simp;omega)];have:=J7 (h:=h) (rec:=fun s k=>fI x d f s k (depth+1)) (dp:=depth+1) K (s++[(p,depth,aU (h+1) (bH K ss))]) n2 (fun k hk q hq=>by
   rcases List.mem_append.1 hq with hq|hq
   ·exact hn k (List.mem_cons_of_mem _ hk) q hq
   ·rw[List.mem_singleton.1 hq];exact fun e=>n1 (by rw[show p=k from e];exact hk)) (by rw[List.length_append,List.length_singleton];omega) (fun v hv s' hs' hl'=>by
   obtain⟨B1,B2,rfl⟩:=List.append_of_mem hv
   have hwz:=R0.wl v (by simp)
   have hsub:(bj h v.2).Sublist (aV (B1++v::B2)):=by
    rw[bf,bD,bX]
    exact List.Sublist.trans (List.sublist_cons_self _ _) (List.Sublist.trans (List.sublist_append_left _ _) (List.sublist_append_right _ _))
   have Yh:bO (cj h v.2):=R0.od.sub (List.Sublist.trans (List.sublist_flatten_of_mem (List.mem_map_of_mem (f:=fun u:KT h=>cj h u.2) (by simp))) (qu _ _))
   have Gw:Gb room d (eY x) h v.2:=⟨G.sd,hwz.1,hwz.2,fun p hp=>R0.us p (hsub.subset hp),R0.nd.sublist hsub,fun y hy=>R0.is y (by rw[cY,dF];simp[nV,hy]),Yh,fun y hy=>R0.vl y (by rw[cm,bS];simp[hy])⟩
   exact Dx hr h v (depth+1) f s' Gw (R0.is (v.1,aU h v.2) (by rw[cY,dF];simp[nV])) (R0.nd.sublist (by rw[bf,bD];exact List.Sublist.trans (List.sublist_append_left _ _) (List.sublist_append_right _ _))) hs' hl' (by omega) (by omega) (by omega))
  rw[sT];show tU (fun s k=>fI x d f s k (depth+1)) (K.map Prod.fst) _=_;rw[this];simp[bQ]
end
end Go.Proofs.YtceoeaemenhbhabGreatDoor.P
end
section
namespace Go.Proofs.YtceoeaemenhbhabGreatDoor.P
open N
def uV (sA:List ByteArray)(lo:ByteArray):ByteArray:=sA.getLast?.getD lo
def Dy (sB:List ByteArray)(hi:ByteArray):ByteArray:=sB.head?.getD hi
def Bnd (lo hi:ByteArray)(l:List It):Prop:=∀x∈l,bn x.2 lo=false∧(hi=⟨#[]⟩∨bn x.2 hi=true)
def WB:(h:Nat)->BT h->ByteArray->ByteArray->Prop
 |0,l,lo,hi=>dm (aU 0 l)=true∧bW (aU 0 l)=true∧dX (aU 0 l)<=240∧(show List En from l)≠[]∧∀x∈(show List En from l),bn x.1 lo=false∧(hi=⟨#[]⟩∨bn x.1 hi=true)
 |h+1,t,lo,hi=>dm (aU (h+1) t)=true∧bW (aU (h+1) t)=true∧dX (aU (h+1) t)<=240∧t.2.length+1=t.1.length∧∀(A:List (KT h)) (u:KT h) (B:List (KT h)) (sA sB:List ByteArray),t.1=A++u::B->t.2=sA++sB->A.length=sA.length->
   bn (uV sA lo) lo=false∧(hi=⟨#[]⟩∨bn hi (Dy sB hi)=false)∧WB h u.2 (uV sA lo) (Dy sB hi)
theorem J8 (k:ByteArray):bn k ⟨#[]⟩=false:=by
 unfold bn;rw[show(⟨#[]⟩:ByteArray).toList=[]from by simp];cases k.toList<;>rfl
section
variable {room:Nat}{d:Dk}{S:Dr}
theorem O0 (hr:room<=16384):∀(h:Nat) (b:BT h) (lo hi:ByteArray),Gb room d S h b->Bnd lo hi (cj h b)->WB h b lo hi
 |0,b,lo,hi,G,bd=>by
  refine⟨kt b G.od G.vl,G.sm hr,G.sz,G.wl,fun x hx=>?_⟩;exact bd (false,x.1) (List.mem_map_of_mem (f:=fun(x:En)=>((false,x.1):It)) hx)
 |h+1,b,lo,hi,G,bd=>by
  obtain⟨K,ss,rfl⟩:=fh b;have R0:=G.rw;refine⟨Db hr G.sd _ G.wl G.us G.od G.vl,G.sm hr,G.sz,G.wl.1,fun A u B sA sB e1 e2 hA=>?_⟩;have e1:K=A++u::B:=e1;have e2:ss=sA++sB:=e2;subst e1 e2;have hl:(sA++sB).length+1=(A++u::B).length:=G.wl.1;have hB:B.length=sB.length:=by simp at hl;omega
  have hwz:=R0.wl u (by simp);have bd:Bnd lo hi (dy (A++u::B) (sA++sB)):=bd;have od:bO (dy (A++u::B) (sA++sB)):=R0.od;rw[eW hA]at bd od;have hsub:(bj h u.2).Sublist (aV (A++u::B)):=by
   rw[bf,bD,bX];exact List.Sublist.trans (List.sublist_cons_self _ _) (List.Sublist.trans (List.sublist_append_left _ _) (List.sublist_append_right _ _))
  have Gw:Gb room d S h u.2:=⟨G.sd,hwz.1,hwz.2,fun p hp=>R0.us p (hsub.subset hp),R0.nd.sublist hsub,fun y hy=>R0.is y (by rw[cY,dF];simp[nV,hy]),od.sub (List.Sublist.trans (List.sublist_append_left _ _) (List.sublist_append_right _ _)),fun y hy=>R0.vl y (by rw[cm,bS];simp[hy])⟩;have Vm:∀s∈sA,(true,s)∈dy A sA:=fun s hs=>by
   have:=(gX (A.map fun(u:KT h)=>cj h u.2) sA (by simp;omega)).subset (List.mem_map_of_mem (f:=fun s=>((true,s):It)) hs);exact this
  have hlast:uV sA lo=lo∨uV sA lo∈sA:=by
   unfold uV;cases hs:sA.getLast? with
   |none=>exact .inl rfl
   |some s=>exact .inr (List.mem_of_getLast? hs)
  have hhead:(sB=[]∧Dy sB hi=hi)∨∃s lr,sB=s::lr∧Dy sB hi=s:=by
   cases sB with
   |nil=>exact .inl ⟨rfl,rfl⟩
   |cons s lr=>exact .inr ⟨s,lr,rfl,rfl⟩
  have inH:∀s lr,sB=s::lr->(true,s)∈jy (B.map fun u=>cj h u.2) sB:=fun s lr e=>by
   subst e;cases B with
   |nil=>simp at hB
   |cons v B=>rw[List.map_cons,iQ];simp
  obtain⟨p1,p2,p3⟩:=List.pairwise_append.1 od.up;obtain⟨p4,p5,p6⟩:=List.pairwise_append.1 p2;refine⟨?_,?_,O0 hr h u.2 _ _ Gw fun x hx=>⟨?_,?_⟩⟩
  ·rcases hlast with e|hm
   ·rw[e];exact dH _
   ·exact(bd _ (List.mem_append_left _ (Vm _ hm))).1
  ·rcases hhead with⟨_,e⟩| ⟨s,lr,es,e⟩
   ·rw[e];exact .inr (dH _)
   ·rw[e];rcases(bd _ (List.mem_append_right _ (List.mem_append_right _ (inH s lr es)))).2 with h1|h1
    ·exact .inl h1
    ·exact .inr (gG h1)
  ·rcases hlast with e|hm
   ·rw[e];exact(bd x (List.mem_append_right _ (List.mem_append_left _ hx))).1
   ·have h1:=p3 _ (Vm _ hm) x (List.mem_append_left _ hx);by_cases hb:x.1=true
    ·have h2:bn (uV sA lo) x.2=true:=by simpa[RI,hb]using h1
     exact gG h2
    ·simpa[RI,hb]using h1
  ·rcases hhead with⟨_,e⟩| ⟨s,lr,es,e⟩
   ·rw[e];exact(bd x (List.mem_append_right _ (List.mem_append_left _ hx))).2
   ·rw[e];have h1:=p6 x hx (true,s) (inH s lr es);exact .inr (by simpa[RI]using h1)
theorem NY (hr:room<=16384){h:Nat}{b:BT h}(G:Gb room d S h b):WB h b ⟨#[]⟩ ⟨#[]⟩:=O0 hr h b _ _ G fun x _=>⟨J8 _,.inl rfl⟩
end
end Go.Proofs.YtceoeaemenhbhabGreatDoor.P
end
section
namespace Go.Proofs.YtceoeaemenhbhabGreatDoor.P
open N
section
variable {x:TX}{d:Dk}{key:ByteArray}
variable {σ:Type}{st:σ->En->σ×Bool}{fr tt:ByteArray}
end
end Go.Proofs.YtceoeaemenhbhabGreatDoor.P
end
section
namespace Go.Proofs.YtceoeaemenhbhabGreatDoor.P
open N
section
variable {room:Nat}{d:Dk}{S:Dr}{x:TX}{root:Int}{E:List En}{X:List Int}{H:Nat}
theorem TS.low (T:TS room d S root E X H)(hE:E.length<=200):H<=7:=by
 rcases T.cnt.2 with h|h
 ·omega
 ·rcases Nat.lt_or_ge 7 H with h7|h7
  ·have:2^8<=2^H:=Nat.pow_le_pow_right (by omega) h7;omega
  ·exact h7
def Cap (room:Nat)(d:Dk)(E:List En):Prop:=∀(S:Dr) (root:Int) (X:List Int) (H:Nat),TS room d S root E X H->(X.length:Int)+4*H+4< (room:Int)-2
theorem wS (hE:E.length<=200)(hr:400<=room):Cap room d E:=fun S root X H T=>by
 have h1:=T.cnt.1;have h2:=T.low hE;omega
theorem TS.flat (T:TS room d S root E X H)(hE:E.length<=3)(hz:cD E<80):H=0∧X.length<=1:=by
 rcases T with⟨a,b,c,e,f⟩| ⟨h,u,a,G,tb,e,rfl,rfl⟩
 ·subst c;exact⟨f,by simp⟩
 ·have T':TS room d S root E (dN u) h:=.inr ⟨h,u,a,G,tb,e,rfl,rfl⟩
  match h,u,G,tb,e,T' with
  |0,u,G,tb,e,T'=>exact⟨rfl,by simp[bX,bj,lq]⟩
  |1,u,G,tb,e,T'=>
   exfalso;obtain⟨p,b⟩:=u;obtain⟨K,ss,rfl⟩:=fh b;have hl:ss.length+1=K.length:=G.g.wl.1;have h1:K.length≠1:=tb;have kp:∀i,KP K ss i:=G.g.wl.2.1
   match K,ss,hl,h1,kp,e with
   |[],ss,hl,h1,kp,e=>simp at hl
   |[u],ss,hl,h1,kp,e=>exact h1 rfl
   |u::v::K,[],hl,h1,kp,e=>simp at hl
   |u::v::K,s::ss,hl,h1,kp,e=>
    have k0:=(kp 0 [] u v K [] s ss rfl rfl rfl).1 rfl;have e1:(show List En from u.2)++((show List En from v.2)++bN K)=E:=by rw[<-e];rfl
    have hz2:cD (show List En from u.2)+(cD (show List En from v.2)+cD (bN K))<80:=by rw[<-jf,<-jf,e1];exact hz
    have h3:bP 0 u.2=cD (show List En from u.2):=rfl;have h4:bP 0 v.2=cD (show List En from v.2):=rfl;have h5:=k0 (by rw[h3];omega);rw[nW,h3,h4,if_pos rfl]at h5;omega
  |h+2,u,G,tb,e,T'=>
   exfalso;rcases T'.cnt.2 with h0|h0
   ·omega
   ·have:2^2<=2^(h+2):=Nat.pow_le_pow_right (by omega) (by omega);omega
theorem sU (hE:E.length<=3)(hz:cD E<80)(hr:8<=room):Cap room d E:=fun S root X H T=>by
 obtain⟨h1,h2⟩:=T.flat hE hz;omega
theorem Dz {σ:Type}{st:σ->En->σ×Bool}{fr tt:ByteArray}{s:σ}(hr:room<=16384)(T:TS room d (eY x) root E X H)(hH:H+1<24):∃b,dO x d st 25 s root 0 fr tt=some ((kQ st (dR fr tt E) s).1,(b,0)):=by
 rcases T with⟨rfl,rfl,rfl,sd,rfl⟩| ⟨h,u,rfl,G,tb,rfl,rfl,rfl⟩
 ·have hrd:dC x d 0 0=(⟨true,[],[],[]⟩,0):=by unfold dC;rw[if_pos rfl];rfl
  exact⟨_,uU (l:=[]) hrd (by decide) (by decide) (by omega) List.Pairwise.nil⟩
 ·exact⟨_,Dv hr h u 0 25 fr tt s G.g G.rd (by omega) (by omega)⟩
def Vn (s:List Pg)(root:Int)(E:List En)(X:List Int)(H:Nat):Prop:=
 (root=0∧s=[]∧E=[]∧X=[]∧H=0)∨(root≠0∧∃h,∃u:KT h,u.1=root∧s=Dw h 0 u∧WB h u.2 ⟨#[]⟩ ⟨#[]⟩∧dW h u.2=E∧dN u=X∧X.Nodup∧h=H∧Rg E)
theorem NZ (hr:room<=16384)(T:TS room d (eY x) root E X H)(hH:H+1<24)(hX:X.length<=100000):∃s,Vn s root E X H∧(root≠0->fI x d 25 [] root 0=some (s,0)):=by
 have hrg:=T.rg;rcases T with⟨rfl,rfl,rfl,sd,rfl⟩| ⟨h,u,rfl,G,tb,rfl,rfl,rfl⟩
 ·exact⟨[],.inl ⟨rfl,rfl,rfl,rfl,rfl⟩,fun h=>absurd rfl h⟩
 ·have h0:u.1≠0:=by have:=G.us.lo;omega
  refine⟨Dw h 0 u,.inr ⟨h0,h,u,rfl,rfl,NY hr G.g,rfl,rfl,G.Jw.2.1,rfl,hrg⟩,fun _=>?_⟩;have:=Dx hr h u 0 25 [] G.g G.rd G.Jw.2.1 (fun _ _ _ hp=>by cases hp) (by simpa using hX) (by omega) (by omega) (by omega);simpa using this
theorem O8:∀(l s:List En),kQ (fun(s:List En) y=>(s++[y],true)) l s=(s++l,true)
 |[],s=>by simp[kQ]
 |y::l,s=>by
  rw[kQ,if_neg (by simp)];show kQ _ l (s++[y])=_;rw[O8 l (s++[y])];simp
theorem Vo:∀(l:List En),(kQ (fun(s:Option En) y=>(some y,false)) l none).1=l.head?
 |[]=>rfl
 |y::l=>by rw[kQ,if_pos rfl];rfl
end
end Go.Proofs.YtceoeaemenhbhabGreatDoor.P
end
section
namespace Go.Proofs.YtceoeaemenhbhabGreatDoor.P
open Go.Shelf Go.RowKit Go.Lib Go.Sort
open N (Nd nd0 cC dm dX cD bR iF fO Sm dt En Ae xH kM pH eU cF fY jq lJ kW jo pE Rg bn cH fE kJ)
def cI (B:Nat)(w0:World)(d:Dk)(C:Cx)(E:List En)(k:Nat)(l:List aN)(w:World):Prop:=
 ∃r x d1 P X H,Sep B w0 w (TL (C.dM r) x d1 P l)∧bh d d1∧Tx d.room d x r E X H∧Mn d.room x X∧x.cnt<=1000*k
section
variable {B:Nat}{w0 w w':World}{C:Cx}{d:Dk}{l:List aN}{key val fr tt:ByteArray}{E:List En}{k:Nat}
theorem cI.of (h:cI B w0 d C E k l w){l':List aN}(f:∀r x d1 P,Sep B w0 w (TL (C.dM r) x d1 P l)->Sep B w0 w' (TL (C.dM r) x d1 P l')):cI B w0 d C E k l' w':=by
 obtain⟨r,x,d1,P,X,H,s,r1⟩:=h;exact⟨r,x,d1,P,X,H,f _ _ _ _ s,r1⟩
theorem cI.rg (h:cI B w0 d C E k l w):Rg E:=by
 obtain⟨r,x,d1,P,X,H,_,_,t,_⟩:=h;exact t.ts.rg
theorem cI.om {root:Int}{x:TX}{X:List Int}{H:Nat}(T:Tx d.room d x root E X H)(hE:E.length<=1000):H<=9∧X.length<=1800:=by
 have h1:=T.ts.cnt.1;rcases T.ts.cnt.2 with h|h
 ·omega
 ·rcases Nat.lt_or_ge 9 H with h7|h7
  ·have:2^10<=2^H:=Nat.pow_le_pow_right (by omega) h7;omega
  ·omega
theorem Kc {X:List Int}{H:Nat}{x:TX}{r er:Int}{P:List NV}{d1:Dk}{E':List En}(cap:Cap d.room d E)(hd:bh d d1)(T:Tx d.room d x r E X H)(M:Mn d.room x X)(hE:E.length<=200)(hE':E'.length<=201)(hk:x.cnt<=1000*k)(g:GX B w0 (C.dM r) x d P l X H E' er w):er=0∧cI B w0 d C E' (k+1) l w:=by
 obtain⟨P',d',m1,m2,m3⟩:=g;rcases m3 with⟨_,hc,_⟩| ⟨he,x',r',X',H',T',M',hcnt,s⟩
 ·have h1:=hc M;have h2:=M.cap;have h3:=cap _ _ _ _ T.ts;omega
 ·refine⟨he,r',x',d',P',X',H',s,m2,T',M' M,?_⟩;have h1:=T.ts.low hE;have h2:=T.ts.cnt.1;have h4:=T'.ts.cnt.1;have h5:H'<=7:=by
   rcases T'.ts.cnt.2 with h|h
   ·omega
   ·rcases Nat.lt_or_ge 7 H' with h7|h7
    ·have:2^8<=2^H':=Nat.pow_le_pow_right (by omega) h7;omega
    ·exact h7
  omega
theorem qz (T:bY B w0)(hr:d.room<=16384)(h0:C.err=0)(hm:cF key val=true)(cap:Cap d.room d E)(hE:E.length<=200)(hk:k<=700)(h:cI B w0 d C E k l w):
  Calls Tryz.prog 10 #[ptr C.tq,.string key,.string val] w fun e w'=>e=.returned (.int .i64 0)∧cI B w0 d C (jq E key val) (k+1) l w':=by
 obtain⟨r,x,d1,P,X,H,s,hd,TT,M,hc⟩:=h;have hh:=cI.om TT (by omega);refine(Re (key:=key) (val:=val) T hr hd s h0 hm TT (by omega) (by omega) (by omega)).mono fun e w' ⟨er,he,g⟩=>?_;obtain⟨h1,h2⟩:=Kc cap hd TT M hE (by
  have:=qw key val E
  have e1:(Fq key val E).length=(jq E key val).length:=by unfold Fq;rw[if_pos (by rw[hm,fE TT.ts.rg];rfl)]
  omega) hc g
 rw[h1]at he;exact⟨he,h2⟩
theorem DA (T:bY B w0)(hr:d.room<=16384)(h0:C.err=0)(cap:Cap d.room d E)(hE:E.length<=200)(hk:k<=700)(h:cI B w0 d C E k l w):
  Calls Tryz.prog 17 #[ptr C.tq,.string key] w fun e w'=>e=.returned (.tuple #[.bool (jo E key),.int .i64 0])∧cI B w0 d C (lJ E key) (k+1) l w':=by
 obtain⟨r,x,d1,P,X,H,s,hd,TT,M,hc⟩:=h;have hh:=cI.om TT (by omega);refine(Rf (key:=key) T hr hd s h0 TT (by omega) (by omega) (by omega)).mono fun e w' ⟨er,he,g⟩=>?_;obtain⟨h1,h2⟩:=Kc cap hd TT M hE (by
  have:=List.length_filter_le (fun x:En=>!decide (x.1=key)) E
  show(List.filter _ _).length<=_
  omega) hc g
 rw[h1]at he;exact⟨by rw[he];simp,h2⟩
theorem RN (h0:C.err=0)(h1:eU key val≠0)(h:cI B w0 d C E k l w):
  Calls Tryz.prog 10 #[ptr C.tq,.string key,.string val] w fun e w'=>e=.returned (.int .i64 (eU key val))∧cI B w0 d C E k l w':=by
 obtain⟨r,x,d1,P,X,H,s,hd,TT,M,hc⟩:=h;exact(Nc (C:=C.dM r) s h0 h1).mono fun e w' ⟨he,s'⟩=>⟨he,r,x,d1,P,X,H,s',hd,TT,M,hc⟩
theorem DB (T:bY B w0)(hr:d.room<=16384)(h0:C.err=0)(hE:E.length<=1000)(h:cI B w0 d C E k l w):
  Calls Tryz.prog 21 #[ptr C.tq,.string key] w fun e w'=>e=.returned (.tuple #[.string (pE E key),.bool (jo E key),.int .i64 0])∧cI B w0 d C E k l w':=by
 obtain⟨r,x,d1,P,X,H,s,hd,TT,M,hc⟩:=h;have hh:=cI.om TT (by omega);refine(Rk (key:=key) T hr hd s h0 TT (by omega)).mono fun e w' ⟨he,P',d',m1,m2,s'⟩=>⟨he,r,x,d',P',X,H,s',m2,TT,M,hc⟩
theorem fJ (T:bY B w0)(hr:d.room<=16384)(h0:C.err=0)(hE:E.length<=1000)(h:cI B w0 d C E k l w):
  Calls Tryz.prog 11 #[ptr C.tq,.string fr,.string tt] w fun e w'=>∃ao c,e=.returned (.tuple #[.slice ao (dR fr tt E).length c,.int .i64 0])∧cI B w0 d C E k (mX (.slice ao (dR fr tt E).length c) (dR fr tt E)::l) w':=by
 obtain⟨r,x,d1,P,X,H,s,hd,TT,M,hc⟩:=h;have hh:=cI.om TT (by omega);obtain⟨b,hb⟩:=Dz (st:=Rp) (fr:=fr) (tt:=tt) (s:=[]) hr TT.ts (by omega);have e1:(kQ Rp (dR fr tt E) []).1=dR fr tt E:=by
  have:=O8 (dR fr tt E) [];rw[show kQ Rp (dR fr tt E) []=_ from this];rfl
 rw[e1]at hb;have hl:(dR fr tt E).length<=900000:=by
  have:=List.length_filter_le (fun e:En=>!bn e.1 fr&&a8 tt e.1) E;unfold dR;omega
 refine(Rt (C:=C.dM r) T hr TT.ts.sd.x TT.ts.sd.bz h0 (TT.ts.wf hr) hd hb hl (fun _=>rfl) (fun h=>absurd rfl h) s).mono fun e w' ⟨v,he,h2,_,P',d',m1,m2,s'⟩=>?_;obtain⟨ao,c,rfl⟩:=h2 rfl;exact⟨ao,c,he,r,x,d',P',X,H,s',m2,TT,M,hc⟩
theorem zl (T:bY B w0)(hr:d.room<=16384)(h0:C.err=0)(hE:E.length<=1000)(h:cI B w0 d C E k l w):
  Calls Tryz.prog 14 #[ptr C.tq,.string fr] w fun e w'=>e=.returned (.tuple #[.agg #[.string ((dR fr ⟨#[]⟩ E).head?.getD (⟨#[]⟩,⟨#[]⟩)).1,.string ((dR fr ⟨#[]⟩ E).head?.getD (⟨#[]⟩,⟨#[]⟩)).2],.bool (dR fr ⟨#[]⟩ E).head?.isSome,.int .i64 0])∧cI B w0 d C E k l w':=by
 obtain⟨r,x,d1,P,X,H,s,hd,TT,M,hc⟩:=h;have hh:=cI.om TT (by omega);obtain⟨b,hb⟩:=Dz (st:=Vh) (fr:=fr) (tt:=⟨#[]⟩) (s:=none) hr TT.ts (by omega);have e1:(kQ Vh (dR fr ⟨#[]⟩ E) none).1=(dR fr ⟨#[]⟩ E).head?:=Vo _;rw[e1]at hb;exact(Ru (C:=C.dM r) T hr TT.ts.sd.x TT.ts.sd.bz h0 (TT.ts.wf hr) hd hb s).mono fun e w' ⟨he,P',d',m1,m2,s'⟩=>⟨he,r,x,d',P',X,H,s',m2,TT,M,hc⟩
theorem N0 (h:cI B w0 d C E k l w)(h0:C.err=0):Calls Tryz.prog 22 #[ptr C.tq] w fun e w'=>e=.returned (.int .i64 0)∧w=w':=by
 obtain⟨r,x,d1,P,X,H,s,hd,TT,M,hc⟩:=h;have:=OD s;rw[show(C.dM r).err=0 from h0]at this;exact this
def Vp (B:Nat)(w0:World)(d:Dk)(C:Cx)(E:List En)(k:Nat)(l:List aN)(V:List ze)(r:Int)(X:List Int)(H:Nat)(w:World):Prop:=
 ∃x d1 P,Sep B w0 w (TL (C.dM r) x d1 P l)∧bh d d1∧Tx d.room d x r E X H∧Mn d.room x X∧x.cnt<=1000*k∧Vn (V.map Fu) r E X H∧∀v∈V,v.2.2∈P
theorem Vp.Yi {V:List ze}{r:Int}{X:List Int}{H:Nat}(h:Vp B w0 d C E k l V r X H w):cI B w0 d C E k l w:=by
 obtain⟨x,d1,P,s,hd,TT,M,hc,_⟩:=h;exact⟨r,x,d1,P,X,H,s,hd,TT,M,hc⟩
theorem sV (T:bY B w0)(hr:d.room<=16384)(h0:C.err=0)(hE:E.length<=1000)(h:cI B w0 d C E k l w):
  Calls Tryz.prog 19 #[ptr C.tq] w fun e w'=>∃ao c V r X H,e=.returned (.tuple #[.slice ao V.length c,.int .i64 0])∧Vp B w0 d C E k (Dq (.slice ao V.length c) V::l) V r X H w':=by
 obtain⟨r,x,d1,P,X,H,s,hd,TT,M,hc⟩:=h;have hh:=cI.om TT (by omega);obtain⟨sp,hw,hp⟩:=NZ hr TT.ts (by omega) (by omega);refine(Rz (C:=C.dM r) (s:=sp) hd s fun u pd pl hu=>?_).mono fun e w' ⟨ao,c,V,he,hV,P',d',m0,m1,m2,s'⟩=>⟨ao,c,V,r,X,H,he,x,d',P',s',m2,TT,M,hc,by rw[hV];exact hw,m0⟩;by_cases hz:r=0
 ·have:sp=[]:=by
   rcases hw with⟨_,e,_⟩| ⟨e,_⟩
   ·exact e
   ·exact absurd hz e
  subst this;exact NT (C:=C.dM r) h0 hz hd hu
 ·exact NU (C:=C.dM r) T hr TT.ts.sd.x TT.ts.sd.bz h0 hz (TT.ts.wf hr) hd (hp hz) hu
end
end Go.Proofs.YtceoeaemenhbhabGreatDoor.P
end
section
namespace Go.Proofs.YtceoeaemenhbhabGreatDoor.P
open Go.Shelf Go.RowKit Go.Lib Go.Sort
open N (Nd En eU cF jq lJ jo pE Rg bn cD)
section
variable {B:Nat}{w0 w w':World}{C:Cx}{d:Dk}{l:List aN}
theorem mR {n:Int}(h2:2<=n)(h:n<=16384):(Dk.new n).room=n.toNat:=by
 unfold Dk.room Dk.new;simp only[List.length_replicate];omega
theorem Kd {tq t f b room:Nat}(hr:d.room=room)(h2:2<=room)(s:Sep B w0 w (TL ⟨0,tq,t,f,b,0,0⟩ (TX.new [] 2 room) d [] l)):cI B w0 d ⟨0,tq,t,f,b,0,0⟩ [] 0 l w:=by
 subst hr;have ok:=TX.zL [] 2 h2;have hfr:∀p,(TX.new [] 2 d.room).fresh p=none:=fun _=>rfl;refine⟨0,TX.new [] 2 d.room,d,[],[],0,s,bh.refl d,⟨.inl ⟨rfl,rfl,rfl,sd0 ok (fun q c hc=>by rw[hfr q]at hc;cases hc),rfl⟩,fun p hp=>by rw[hfr p]at hp;cases hp⟩,⟨fun _ hp=>(by cases hp),?_⟩,?_⟩
 ·have hp:(TX.new [] 2 d.room).pages=2:=by
   show cP 2 d.room=2;unfold cP;omega
  have hf:(TX.new [] 2 d.room).free=[]:=by
   show ub [] [(2,(cP 2 d.room:Int)-1)]=[];have hc:=nw [] [(2,(cP 2 d.room:Int)-1)];have hi:=nE [] [(2,(cP 2 d.room:Int)-1)];generalize ub [] [(2,(cP 2 d.room:Int)-1)]=m at*;cases m with
   |nil=>rfl
   |cons r s=>
    obtain⟨⟨a1,a2,a3⟩,_⟩:=bB.1 hc;have h1:=((hi r.1).1 ⟨a1,by omega,r,by simp,by omega,a2⟩).1;obtain⟨_,_,q,hq,_⟩:=h1;cases hq
  unfold TX.cap;rw[hp,hf];show(jd []:Int)+_+_=_;rw[pB];simp
 ·exact Nat.zero_le _
theorem Bl {n:Int}(h2:2<=n)(h3:n<=16384)(h:Sep B w0 w l):Calls Tryz.prog 8 #[.int .i64 n] w fun e w'=>∃C:Cx,e=.returned (ptr C.tq)∧C.err=0∧cI B w0 (Dk.new n) C [] 0 l w':=by
 have HR:Hid ((Dk.new n).room=n.toNat∧2<=n.toNat∧n.toNat<=16384):=⟨mR h2 h3,by omega,by omega⟩;have CD:Hid _:=TF n h;clear h h2 h3;generalize Dk.new n=d0 at*;go_enter Tryz.func8,Tryz.ntmps8
 go_wp2_with fail
 refine Calls.mono CD.out ?_;rintro e w2 ⟨b,rfl,s2⟩;have CF:Hid _:=TI s2;clear CD s2
 go_wp2_with fail
 refine Calls.mono CF.out ?_;rintro e w3 ⟨f,rfl,s3⟩;have CT:=Xj s3 (by rw[HR.out.1];exact HR.out.2.2) (v:=.slice none 0 0) (fr:=[]) ⟨none,0,rfl,Nat.le_refl _,fun _=>rfl,fun h=>absurd rfl h⟩ (by simp) 2;rw[HR.out.1]at CT;have CT2:Hid _:=CT;clear CF s3 CT
 go_wp2_with fail
 refine Calls.mono CT2.out ?_;rintro e w4 ⟨t,rfl,s4⟩;have CN:Hid _:=UJ (root:=0) s4;clear CT2 s4
 go_wp2_with fail
 refine Calls.mono CN.out ?_;rintro e w5 ⟨tq,rfl,s5⟩;have SF:Hid _:=s5;clear CN s5;go_wp2;go_ret;exact⟨⟨0,tq,t,f,b,0,0⟩,rfl,rfl,Kd HR.out.1 HR.out.2.1 SF.out⟩
end
end Go.Proofs.YtceoeaemenhbhabGreatDoor.P
end
section
namespace Go.Proofs.YtceoeaemenhbhabGreatDoor.P
open Go.Shelf Go.RowKit Go.Lib Go.Sort
open N (Nd En eU cF jq lJ jo pE Rg bn cD)
section
variable {B:Nat}{w0 w w':World}{C:Cx}{d:Dk}{l:List aN}{E:List En}{k:Nat}
theorem cI.blk (h:cI B w0 d C E k l w)(o:Obj):cI B w0 d C E k (ax w.heap.size o::l) (w.alloc o):=h.of fun _ _ _ _ s=>Sep.pb [_,_,_,_] (s.aO o)
theorem cI.sep (h:cI B w0 d C E k l w):Sep B w0 w l:=by
 obtain⟨r,x,d1,P,X,H,s,_⟩:=h;exact Sep.drop (Sep.drop (Sep.drop (Sep.drop s)))
theorem RP {V:List ze}{r:Int}{X:List Int}{H:Nat}{P:List NV}{x:TX}{d1:Dk}(hw:Vn (V.map Fu) r E X H):V.length=X.length:=by
 rcases hw with⟨_,h1,_,h2,_⟩| ⟨_,h,u,_,h1,_,_,h2,_⟩
 ·have:=congrArg List.length h1;rw[List.length_map]at this;rw[this,h2];rfl
 ·have:=congrArg List.length h1;rw[List.length_map,qy,h2]at this;exact this
theorem Vp.one {V:List ze}{r:Int}{X:List Int}{H:Nat}(h:Vp B w0 d C E k l V r X H w)(hE:E.length<=3)(hz:cD E<80)(hne:E≠[]):V.length=1:=by
 obtain⟨x,d1,P,s,hd,TT,M,hc,hw,_⟩:=h;rw[RP (P:=P) (x:=x) (d1:=d1) hw];have h1:=(TT.ts.flat hE hz).2;rcases hw with⟨_,_,h2,_⟩| ⟨_,hh,u,_,_,_,_,h2,_⟩
 ·exact absurd h2 hne
 ·rw[<-h2,bX]at h1⊢;simp at h1⊢;exact h1
abbrev sA:ByteArray:=⟨#[97]⟩
abbrev sB:ByteArray:=⟨#[98]⟩
abbrev s1:ByteArray:=⟨#[49]⟩
abbrev s2:ByteArray:=⟨#[50]⟩
abbrev s0:ByteArray:=⟨#[]⟩
theorem xE1:jq [] sB s2=[(sB,s2)]:=by decide+kernel
theorem xE2:jq [(sB,s2)] sA s1=[(sA,s1),(sB,s2)]:=by decide+kernel
theorem xSc:dR s0 s0 [(sA,s1),(sB,s2)]=[(sA,s1),(sB,s2)]:=by decide+kernel
theorem xNx:(dR ⟨#[97,97]⟩ s0 [(sA,s1),(sB,s2)]).head?=some (sB,s2):=by decide+kernel
theorem Yj:pE [(sA,s1),(sB,s2)] sA=s1∧jo [(sA,s1),(sB,s2)] sA=true:=by decide+kernel
theorem xDl:lJ [(sA,s1),(sB,s2)] sA=[(sB,s2)]:=by decide+kernel
theorem xGo:jo [(sB,s2)] sA=false:=by decide+kernel
theorem We:cF sB s2=true∧cF sA s1=true∧eU s0 s0=110:=by decide+kernel
theorem Wh:cD ([]:List En)<80∧cD [(sB,s2)]<80∧cD [(sA,s1),(sB,s2)]<80:=by decide+kernel
theorem DC (T:bY B w0)(h:Sep B w0 w l):Calls Tryz.prog 6 #[] w fun e w'=>e=.returned (.bool true)∧Sep B w0 w' l:=by
 have HT:Hid (bY B w0):=T;have KV:(Dk.new 9).room=9:=mR (by omega) (by omega);have HC:Hid (Cap (Dk.new 9).room (Dk.new 9) []∧Cap (Dk.new 9).room (Dk.new 9) [(sB,s2)]∧Cap (Dk.new 9).room (Dk.new 9) [(sA,s1),(sB,s2)]∧(Dk.new 9).room<=16384):=by
  rw[KV];exact⟨sU (by simp) Wh.1 (by omega),sU (by simp) Wh.2.1 (by omega),sU (by simp) Wh.2.2 (by omega),by omega⟩
 have KT:Hid _:=Bl (n:=9) (by omega) (by omega) h;clear h T KV;generalize Dk.new 9=d0 at*;go_enter Tryz.func6,Tryz.ntmps6
 go_wp2_with fail
 refine Calls.mono KT.out ?_;rintro e w1 ⟨C,rfl,hC,h1⟩;have C0:Hid (C.err=0):=hC;have K1:Hid _:=qz (key:=sB) (val:=s2) HT.out HC.out.2.2.2 hC We.1 HC.out.1 (by simp) (by omega) h1;rw[xE1]at K1;clear KT h1 hC;unfold ptr at*
 go_wp2_with fail
 refine Calls.mono K1.out ?_;rintro e w2 ⟨rfl,h2⟩;have K2:Hid _:=qz (key:=sA) (val:=s1) HT.out HC.out.2.2.2 C0.out We.2.1 HC.out.2.1 (by simp) (by omega) h2;rw[xE2]at K2;clear K1 h2;unfold ptr at*
 go_wp2_with fail
 refine Calls.mono K2.out ?_;rintro e w3 ⟨rfl,h3⟩;have K3:Hid _:=fJ (fr:=s0) (tt:=s0) HT.out HC.out.2.2.2 C0.out (by simp) h3;rw[xSc]at K3;clear K2 h3;unfold ptr at*
 go_wp2_with fail
 refine Calls.mono K3.out ?_;rintro e w4 ⟨ao,c,rfl,h4⟩;have K4:Hid _:=zl (fr:=⟨#[97,97]⟩) HT.out HC.out.2.2.2 C0.out (by simp) h4;rw[xNx]at K4;clear K3 h4;unfold ptr at*
 go_wp2_with fail
 refine Calls.mono K4.out ?_;rintro e w5 ⟨rfl,h5⟩;have H6:Hid _:=cI.blk h5 (.cells #[.string sB,.string s2] 38);have K6:Hid _:=DB (key:=sA) HT.out HC.out.2.2.2 C0.out (by simp) H6.out;rw[Yj.1,Yj.2]at K6;clear K4 h5;unfold ptr at*;simp only[Option.getD_some,Option.isSome_some]
 go_wp2_with fail
 generalize w5.alloc (.cells #[.string sB,.string s2] 38)=w6 at*;generalize w5.heap.size=q6 at*;refine Calls.mono K6.out ?_;rintro e w7 ⟨rfl,h7⟩;have K7:Hid _:=DA (key:=sA) HT.out HC.out.2.2.2 C0.out HC.out.2.2.1 (by simp) (by omega) h7;rw[Yj.2,xDl]at K7;clear K6 h7 H6;unfold ptr at*
 go_wp2_with fail
 refine Calls.mono K7.out ?_;rintro e w8 ⟨rfl,h8⟩;have K8:Hid _:=DB (key:=sA) HT.out HC.out.2.2.2 C0.out (by simp) h8;rw[xGo]at K8;clear K7 h8;generalize pE [(sB,s2)] sA=gv at*;unfold ptr at*
 go_wp2_with fail
 refine Calls.mono K8.out ?_;rintro e w9 ⟨rfl,h9⟩;have K9:Hid _:=sV HT.out HC.out.2.2.2 C0.out (by simp) h9;clear K8 h9;unfold ptr at*
 go_wp2_with fail
 refine Calls.mono K9.out ?_;rintro e VH ⟨aw,cw,V,r,X,H,rfl,h10⟩;have hV:V.length=1:=h10.one (by simp) Wh.2.1 (by simp);have H10:Hid _:=h10.Yi;have Yk:Hid _:=RN (key:=s0) (val:=s0) C0.out (by rw[We.2.2];decide) h10.Yi;rw[We.2.2]at Yk;have hs:=h10.Yi.sep;obtain⟨_,⟨b0,b1⟩,_⟩:=Sep.c2 (Sep.pk [_] hs);obtain⟨dx,cap',e',_,_,h3⟩:=Sep.zb (Sep.pk [_,_] hs);obtain⟨rb,Vc,hae,hrb,z0,_⟩:=N.cT h3 0 (by simp) (Below.refl _ _);obtain⟨rb2,Yl,Vq,Ym,z2,_⟩:=N.cT h3 1 (by simp) (Below.refl _ _);have e2:ao=dx:=by injection e'
 subst e2;subst hae;obtain⟨rfl,rfl⟩:rb=rb2∧Vc=Yl:=by cases Vq;exact⟨rfl,rfl⟩
 have z0':VH.cell? ⟨rb,Vc,none⟩=some (.string sA):=z0;have z1':VH.cell? ⟨rb,Vc+2,none⟩=some (.string sB):=z2;clear K9 h10 hs h3 e' Vq z0 z2;rw[hV];unfold ptr at*
 go_wp2_with fail
 refine Calls.mono Yk.out ?_;rintro e w11 ⟨rfl,h11⟩;have H11:Hid _:=h11.sep;have K11:Hid _:=N0 h11 C0.out;clear Yk h11 b0 b1 z0' z1' hrb Ym H10;unfold ptr at*
 go_wp2_with fail
 refine Calls.mono K11.out ?_;rintro e w12 ⟨rfl,rfl⟩;clear K11;go_wp2;go_ret;exact⟨rfl,Sep.drop (Sep.drop (Sep.drop H11.out))⟩
end
end Go.Proofs.YtceoeaemenhbhabGreatDoor.P
end
section
namespace Go.Proofs.YtceoeaemenhbhabGreatDoor.N
open Go.Shelf Go.RowKit Go.Lib Go.Sort
theorem N5 {l:List En}{fr tt:ByteArray}{i:Nat}(h:i<l.length):dR fr tt (l.take (i+1))=dR fr tt (l.take i)++(if(!bn l[i]!.1 fr&&a8 tt l[i]!.1)=true then [l[i]!]else []):=by
 rw[dh h];unfold dR;rw[List.filter_append]
 congr 1
 generalize l[i]! =x;cases c:(!bn x.1 fr&&a8 tt x.1)
 ·simp[c]
 ·simp[c]
theorem lG {l:List En}{fr tt:ByteArray}:(dR fr tt l).length<=l.length:=List.length_filter_le _ _
theorem Ff (v:Value)(l:List En)(fr tt:ByteArray)(w:World)(h:Row ar 2 w v l)(hl:l.length<=100000):
  Calls Tryz.prog 13 #[v,.string fr,.string tt] w (Gv w (dR fr tt l)):=by
 obtain⟨ao,cap,rfl,h1,h2,h3⟩:=h;have H3:Aside (l≠[]->∃b off,ao=some ⟨b,off,none⟩∧b<w.heap.size∧cx ar 2 w b off l):=h3;clear h3;go_enter Tryz.func13,Tryz.ntmps13;go_wp2
 go_loopg [7,8] l.length (fun kx s7 s8 wr=>∃(i:Nat) (dx:Option Addr) (n' c':Nat) (out:List En),s7=.slice dx n' c'∧s8=.int .i64 i∧i<=l.length∧l.length-i<=kx∧out.length<=i∧Hid (dR fr tt (l.take i)=out)∧Aside (dI w.heap.size wr (.slice dx n' c') out)∧Hid (Below w.heap.size w wr))
 case atStart=>exact⟨0,none,0,0,[],rfl,rfl,Nat.zero_le _,Nat.le_refl _,Nat.le_refl _,rfl,dI.empty _ _ _,Below.refl _ _⟩
 case round=>
  obtain⟨i,dx,n',c',out,rfl,rfl,hi,hki,hol,HD,HO,HB⟩:=hrel;by_cases hil:i<l.length
  ·have eV:(i:Int)< (l.length:Int):=by omega
   obtain⟨b,off,rfl,hb,x1,x2⟩:=cT H3.out i hil HB.out;have T:Hid _:=N5 (fr:=fr) (tt:=tt) hil;rw[HD.out]at T;generalize l[i]! =x at*;have key:(∀o2,Hid (out++[x]=o2)->Hid (dR fr tt (l.take (i+1))=o2)->True):=fun _ _ _=>trivial;clear key;have NO:Hid ((!bn x.1 fr&&a8 tt x.1)=false->dR fr tt (l.take (i+1))=out):=fun e=>by
    have:=T.out;rw[if_neg (by rw[e];simp),List.append_nil]at this;exact this
   have YES:Hid ((!bn x.1 fr&&a8 tt x.1)=true->dR fr tt (l.take (i+1))=out++[x]):=fun e=>by
    have:=T.out;rw[if_pos e]at this;exact this
   clear T;cases hg:bn x.1 fr with
   |true=>
    have hs:(!Op.bytesLess x.1.toList fr.toList)=false:=by
     rw[show Op.bytesLess x.1.toList fr.toList=true from hg];rfl
    have T2:Hid (dR fr tt (l.take (i+1))=out):=NO.out (by rw[hg];rfl);clear NO YES hg;go_wp2
    go_roundg (l.length- (i+1))
    case measure=>omega
    case rel=>exact⟨i+1,dx,n',c',out,rfl,by go_num,by omega,Nat.le_refl _,by omega,T2,HO,HB⟩
   |false=>
    have hs:(!Op.bytesLess x.1.toList fr.toList)=true:=by
     rw[show Op.bytesLess x.1.toList fr.toList=false from hg];rfl
    by_cases hz:tt=⟨#[]⟩∨bn x.1 tt=true
    ·have hsp:a8 tt x.1=true:=by
      unfold a8;rcases hz with e|e
      ·simp[e]
      ·simp[e]
     have T2:Hid (dR fr tt (l.take (i+1))=out++[x]):=YES.out (by rw[hg,hsp];rfl);obtain⟨o2,ho2⟩:∃o2,out++[x]=o2:=⟨_,rfl⟩;rw[ho2]at T2;have O2:Hid (out++[x]=o2):=ho2;have l2:o2.length<=i+1:=by rw[<-ho2];simp;omega
     have B2:Hid (Below w.heap.size w (wr.alloc (.cells #[.string x.1,.string x.2] 38))):=HB.out.alloc HB.out.size _;have OA:Aside (dI w.heap.size (wr.alloc (.cells #[.string x.1,.string x.2] 38)) (.slice dx n' c') out):=HO.out.below ((Below.refl _ wr).alloc (Nat.le_refl _) _);have RO:Hid (Row ar 2 (wr.alloc (.cells #[.string x.1,.string x.2] 38)) (.slice (some ⟨wr.heap.size,0,none⟩) 1 1) [x]):=(Cl.new wr #[.string x.1,.string x.2] 38).row;have hsz:=B2.out.size;clear ho2 HO HD NO YES hg hsp;rcases Classical.em (tt=⟨#[]⟩)with h0|h0
     ·subst h0;clear hz
      go_wp2_with (at_builtin;refine mf rfl _ _ rfl w.heap.size _ out rfl OA.out _ [x] rfl RO.out (by simp;omega) hsz o2 O2.out ?_)
      intro a3 n3 c3 w3 O3 B3;have O4:Aside (dI w.heap.size w3 (.slice a3 n3 c3) o2):=O3;have B4:Hid (Below w.heap.size w w3):=B3 _ B2.out;clear O3 B3 OA RO B2 hsz O2;go_wp2
      go_roundg (l.length- (i+1))
      case measure=>omega
      case rel=>exact⟨i+1,a3,n3,c3,o2,rfl,by go_num,by omega,Nat.le_refl _,by omega,T2,O4,B4⟩
     ·have hlt:Op.bytesLess x.1.toList tt.toList=true:=hz.resolve_left h0;have he:tt.toList≠[]:=fun e=>h0 (gq (e.trans (by simp)));have he2:tt.toList.isEmpty=false:=by simpa using he
      clear hz h0
      go_wp2_with (at_builtin;refine mf rfl _ _ rfl w.heap.size _ out rfl OA.out _ [x] rfl RO.out (by simp;omega) hsz o2 O2.out ?_)
      intro a3 n3 c3 w3 O3 B3;have O4:Aside (dI w.heap.size w3 (.slice a3 n3 c3) o2):=O3;have B4:Hid (Below w.heap.size w w3):=B3 _ B2.out;clear O3 B3 OA RO B2 hsz O2;go_wp2
      go_roundg (l.length- (i+1))
      case measure=>omega
      case rel=>exact⟨i+1,a3,n3,c3,o2,rfl,by go_num,by omega,Nat.le_refl _,by omega,T2,O4,B4⟩
    ·have h0:tt≠⟨#[]⟩:=fun e=>hz (.inl e);have hl0:bn x.1 tt=false:=by
      cases e:bn x.1 tt
      ·rfl
      ·exact absurd (.inr e) hz
     have hlt:Op.bytesLess x.1.toList tt.toList=false:=hl0;have he:tt.toList≠[]:=fun e=>h0 (gq (e.trans (by simp)));have he2:tt.toList.isEmpty=false:=by simpa using he
     have T2:Hid (dR fr tt (l.take (i+1))=out):=NO.out (by unfold a8;rw[hl0,decide_eq_false h0];simp);clear NO YES hz hl0 h0;go_wp2
     go_roundg (l.length- (i+1))
     case measure=>omega
     case rel=>exact⟨i+1,dx,n',c',out,rfl,by go_num,by omega,Nat.le_refl _,by omega,T2,HO,HB⟩
  ·have eV:¬(i:Int)< (l.length:Int):=by omega
   obtain rfl:i=l.length:=by omega
   rw[List.take_length]at HD;go_wp2;go_ret;exact⟨_,rfl,by rw[HD.out];exact HO.out.own,HB.out⟩
end Go.Proofs.YtceoeaemenhbhabGreatDoor.N
end
section
namespace Go.Proofs.YtceoeaemenhbhabGreatDoor.P
open Go.Shelf Go.RowKit Go.Lib Go.Sort
open N (Nd En eU cF jq lJ jo pE Rg bn cD)
section
variable {B:Nat}{w0 w w':World}{C:Cx}{d:Dk}{l:List aN}{E:List En}{k:Nat}
theorem cI.below (h:cI B w0 d C E k l w)(hb:Below w.heap.size w w'):cI B w0 d C E k l w':=by
 obtain⟨r,x,d1,P,X,H,s,r1⟩:=h;exact⟨r,x,d1,P,X,H,s.below hb,r1⟩
theorem cI.drop {a:aN}(h:cI B w0 d C E k (a::l) w):cI B w0 d C E k l w:=h.of fun _ _ _ _ s=>Sep.drop (Sep.js s)
theorem cI.row {v:Value}{s:List En}(h:cI B w0 d C E k (mX v s::l) w):N.Row N.ar 2 w v s:=by
 obtain⟨r,x,d1,P,X,H,s9,_⟩:=h;exact Sep.zb (Sep.js s9)
theorem cI.RQ {v:Value}{s:List En}{a:aN}(h:cI B w0 d C E k (a::mX v s::l) w):N.Row N.ar 2 w v s:=by
 obtain⟨r,x,d1,P,X,H,s9,_⟩:=h;exact Sep.zb (Sep.cQ s9)
theorem cI.Vr {v:Value}{s:List En}{a b:aN}(h:cI B w0 d C E k (a::b::mX v s::l) w):N.Row N.ar 2 w v s:=by
 obtain⟨r,x,d1,P,X,H,s9,_⟩:=h;exact Sep.zb (Sep.cO s9)
theorem cI.aar {v:Value}{s:List En}{a b c:aN}(h:cI B w0 d C E k (a::b::c::mX v s::l) w):N.Row N.ar 2 w v s:=by
 obtain⟨r,x,d1,P,X,H,s9,_⟩:=h;exact Sep.zb (Sep.dV s9)
theorem Vs {e:TypeId}{n9 k9:Nat}{v:Value}{cs:List Value}(h:Sep B w0 w l)(hb:Below w.heap.size w w')(o:w'.ownsRow w.heap.size e k9 v n9 cs):Sep B w0 w' (RowK e k9 v n9 cs::l):=
 h.add hb (fw _ _ _ _ _) (X:=fun q=>v.ownBlock=some q) ⟨ownsRow_base_a o (Nat.zero_le _),fun _=>Iff.rfl⟩ (fun q hq=>by
  rcases o.2 with⟨e,_⟩| ⟨g,cap,cur,e,hg,_⟩
  ·rw[e]at hq;simp[Value.ownBlock]at hq
  ·rw[e]at hq;simp[Value.ownBlock]at hq;omega)
theorem cI.aaa {v:Value}{s:List En}(h:cI B w0 d C E k l w)(hb:Below w.heap.size w w')(o:N.aX w.heap.size w' v s):cI B w0 d C E k (mX v s::l) w':=by
 obtain⟨r,x,d1,P,X,H,s9,r1⟩:=h;exact⟨r,x,d1,P,X,H,Sep.Kp (Vs s9 hb o),r1⟩
end
theorem RZ (x:List UInt8):Op.bytesLess x []=false:=by cases x<;>rfl
theorem Ke (x:ByteArray):bn x ⟨#[]⟩=false:=by
 show Op.bytesLess x.toList (ByteArray.toList ⟨#[]⟩)=false;rw[show ByteArray.toList ⟨#[]⟩=[] by simp];exact RZ _
theorem Kf (E:List En):dR ⟨#[]⟩ ⟨#[]⟩ E=E:=by
 unfold dR a8;rw[List.filter_eq_self];intro x _;rw[Ke];simp
theorem R7 {E:List En}{mid:ByteArray}(hm:mid≠⟨#[]⟩):dR ⟨#[]⟩ mid E=E.filter fun e=>bn e.1 mid:=by
 unfold dR a8;refine List.filter_congr fun x _=>?_;rw[Ke,decide_eq_false hm];simp
theorem N6 {E:List En}{mid:ByteArray}:dR mid ⟨#[]⟩ E=E.filter fun e=>!bn e.1 mid:=by
 unfold dR a8;refine List.filter_congr fun x _=>?_;simp
theorem DD {mid:ByteArray}:∀ {E:List En},E.Pairwise (fun a b=>bn a.1 b.1=true)->(E.filter fun e=>bn e.1 mid)++(E.filter fun e=>!bn e.1 mid)=E
 |[],_=>rfl
 |x::E,h=>by
  obtain⟨h1,h2⟩:=List.pairwise_cons.1 h;cases hx:bn x.1 mid with
  |true=>
   rw[List.filter_cons,if_pos hx,List.filter_cons,if_neg (by rw[hx];simp),List.cons_append,DD h2]
  |false=>
   have hn:∀y∈E,bn y.1 mid=false:=fun y hy=>by
    cases hy2:bn y.1 mid
    ·rfl
    ·have:=N.cJ (h1 y hy) hy2;rw[hx]at this;cases this
   rw[List.filter_cons,if_neg (by rw[hx];simp),List.filter_cons,if_pos (by rw[hx];rfl)];rw[List.filter_eq_nil_iff.2 (fun y hy=>by rw[hn y hy];simp),List.nil_append];rw[List.filter_eq_self.2 (fun y hy=>by rw[hn y hy];rfl)]
theorem Kg {E:List En}{mid:ByteArray}(hr:Rg E)(hm:mid≠⟨#[]⟩):dR ⟨#[]⟩ mid E++dR mid ⟨#[]⟩ E=E:=by
 rw[R7 hm,N6];exact DD hr.up
end Go.Proofs.YtceoeaemenhbhabGreatDoor.P
end
