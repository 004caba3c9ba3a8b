/- Walks of the package cowtree and of what it stands on: lemmas, made short. -/
import Derived.Test.YtceoeaemenhbhaaGreatDoorQ14
import Derived.Test.YtceoeaemenhbhaaGreatDoorQ15
import Derived.Test.YtceoeaemenhbhaaGreatDoorQ10
import Derived.Test.YtceoeaemenhbhaaGreatDoorQ13
import Derived.Deep.QuietTactic
import Derived.BigQuiet
set_option maxHeartbeats 16000000
set_option maxRecDepth 100000
set_option linter.unusedVariables false
set_option linter.unusedSimpArgs false
section
namespace Go.Proofs.YtceoeaemenhbhaaGreatDoor.P
open N
section
variable {σ:Type}{st:σ->En->σ×Bool}{fr tt:ByteArray}{h:Nat}
theorem JO:∀(l m:List En) (s:σ),kM st (l++m) s=if(kM st l s).2=false then kM st l s else kM st m (kM st l s).1
 |[],m,s=>rfl
 |e::l,m,s=>by
  rw[List.cons_append,kM,kM];by_cases hb:(st s e).2=false
  ·rw[if_pos hb,if_pos hb];simp
  ·rw[if_neg hb,if_neg hb];exact JO l m _
theorem Dj (l m:List En):iv fr tt (l++m)=iv fr tt l++iv fr tt m:=List.filter_append ..
theorem Dl {l:List En}(h:∀e∈l,bF e.1 fr=true∨bE tt e.1=false):iv fr tt l=[]:=by
 unfold iv;rw[List.filter_eq_nil_iff];intro e he hc;simp only[Bool.and_eq_true,Bool.not_eq_true']at hc;rcases h e he with h1|h1
 ·rw[hc.1]at h1;cases h1
 ·rw[hc.2]at h1;cases h1
theorem JP {fr' OE:ByteArray}{l:List En}(h:∀e∈l,bF e.1 fr'=bF e.1 fr∧bE OE e.1=bE tt e.1):iv fr' OE l=iv fr tt l:=by
 unfold iv;refine List.filter_congr fun e he=>?_;rw[(h e he).1,(h e he).2]
theorem qw {k:ByteArray}:bE tt k=true↔tt=⟨#[]⟩∨bF k tt=true:=by simp[bE]
theorem Bh {k:ByteArray}:bE tt k=false↔tt≠⟨#[]⟩∧bF k tt=false:=by simp[bE]
theorem Rp {k k':ByteArray}(h:bE tt k'=true)(hk:bF k k'=true):bE tt k=true:=by
 rcases qw.1 h with h|h
 ·exact qw.2 (.inl h)
 ·exact qw.2 (.inr (cR hk h))
theorem JQ {k k':ByteArray}(h:bE tt k=false)(hk:bF k' k=false):bE tt k'=false:=by
 obtain⟨h1,h2⟩:=Bh.1 h;refine Bh.2 ⟨h1,?_⟩;cases hc:bF k' tt with
 |false=>rfl
 |true=>
  have:=gh h2 hc;rw[hk]at this;cases this
theorem OG:∀(l:List En) (s:σ),l.Pairwise (fun x y=>bF x.1 y.1=true)->
  (oK st tt l s).1=(kM st (l.filter fun e=>bE tt e.1) s).1∧((oK st tt l s).2=none->(kM st (l.filter fun e=>bE tt e.1) s).2=true)∧∀b,(oK st tt l s).2=some b->(kM st (l.filter fun e=>bE tt e.1) s).2=b
 |[],s,_=>⟨rfl,fun _=>rfl,fun b hb=>by cases hb⟩
 |e::l,s,hp=>by
  obtain⟨p1,p2⟩:=List.pairwise_cons.1 hp;rw[oK];by_cases hh:bE tt e.1=false
  ·rw[if_pos hh];have:(e::l).filter (fun e=>bE tt e.1)=[]:=by
    rw[List.filter_eq_nil_iff];intro x hx hc;rcases List.mem_cons.1 hx with rfl|hx
    ·rw[hh]at hc;cases hc
    ·rw[JQ hh (gy (p1 x hx))]at hc;cases hc
   rw[this];exact⟨rfl,fun hc=>by simp at hc,fun b hb=>by cases hb;rfl⟩
  ·rw[if_neg hh];have ht:bE tt e.1=true:=by simpa using hh
   have:(e::l).filter (fun e=>bE tt e.1)=e::l.filter (fun e=>bE tt e.1):=by rw[List.filter_cons_of_pos (by simpa using ht)]
   rw[this,kM];by_cases hb:(st s e).2=false
   ·rw[if_pos hb,if_pos hb];exact⟨rfl,fun hc=>by simp at hc,fun b hb'=>by simp at hb';rw[<-hb']⟩
   ·rw[if_neg hb,if_neg hb];exact OG l _ p2
theorem zj {l:List En}(hp:l.Pairwise (fun x y=>bF x.1 y.1=true)):l.drop (iB l fr)=l.filter fun e=>!bF e.1 fr:=by
 induction l with
 |nil=>rfl
 |cons e l ih=>
  obtain⟨p1,p2⟩:=List.pairwise_cons.1 hp;have ih:=ih p2;unfold iB at ih⊢;by_cases he:bF e.1 fr=true
  ·rw[List.countP_cons_of_pos (by simpa using he),List.drop_succ_cons,ih,List.filter_cons_of_neg (by simp[he])]
  ·have hall:∀x∈e::l,bF x.1 fr=false:=fun x hx=>by
    rcases List.mem_cons.1 hx with rfl|hx
    ·simpa using he
    ·cases hc:bF x.1 fr with
     |false=>rfl
     |true=>exact absurd (cR (p1 x hx) hc) he
   rw[List.countP_eq_zero.2 (fun x hx=>by simp[hall x hx]),List.drop_zero];exact(List.filter_eq_self.2 fun x hx=>by simp[hall x hx]).symm
theorem Rq (l:List En):iv fr tt l=(l.filter fun e=>!bF e.1 fr).filter fun e=>bE tt e.1:=by
 unfold iv;rw[List.filter_filter];exact List.filter_congr fun e _=>Bool.and_comm _ _
theorem JR {A B:List (KT h)}{u:KT h}{sA sB:List ByteArray}{s:ByteArray}(hA:A.length=sA.length)(ho:bN (dx (A++u::B) (sA++sB)))(hs:s∈sA){x:En}(hx:x∈bM (u::B)):bF x.1 s=false:=by
 have e1:dx (A++u::B) (sA++sB)=dx A sA++dx (u::B) sB:=by
  unfold dx;rw[List.map_append,mK _ _ (by simpa using hA)]
 rw[e1]at ho;have h1:(true,s)∈dx A sA:=by
  have:=(gQ (A.map fun u=>cd h u.2) sA (by simp;omega)).subset (List.mem_map_of_mem (f:=fun s=>((true,s):It)) hs);exact this
 have h2:(false,x.1)∈dx (u::B) sB:=sH hx _ (fun _ h=>h) sB;have:=(List.pairwise_append.1 ho.up).2.2 _ h1 _ h2;simpa[RI]using this
theorem Rs {A B:List (KT h)}{u:KT h}{sA sB:List ByteArray}{s:ByteArray}(hA:A.length=sA.length)(ho:bN (dx (A++u::B) (sA++s::sB)))(hB:B≠[]){x:En}(hx:x∈dT h u.2):bF x.1 s=true:=by
 rw[eQ hA]at ho;obtain⟨v,B,rfl⟩:∃v B',B=v::B':=by
  cases B with
  |nil=>exact absurd rfl hB
  |cons v B=>exact⟨v,B,rfl⟩
 rw[List.map_cons,iO]at ho;have h1:=(List.pairwise_append.1 (List.pairwise_append.1 ho.up).2.1).2.2 _ (iR h u.2 x hx) (true,s) (by simp);simpa[RI]using h1
theorem ahead:∀(A:List (KT h)) (sA:List ByteArray),A.length=sA.length->bN (dx A sA)->∀x∈bM A,∃s∈sA,bF x.1 s=true
 |[],_,_,_,x,hx=>by cases hx
 |u::A,[],hl,_,_,_=>by simp at hl
 |u::A,s::sA,hl,ho,x,hx=>by
  have e1:dx (u::A) (s::sA)=cd h u.2++(true,s)::dx A sA:=rfl;rw[e1]at ho;rw[bR]at hx;rcases List.mem_append.1 hx with hx|hx
  ·have h1:=(List.pairwise_append.1 ho.up).2.2 _ (iR h u.2 x hx) (true,s) (by simp);exact⟨s,by simp,by simpa[RI]using h1⟩
  ·obtain⟨s1,h1,h2⟩:=ahead A sA (by simpa using hl) (ho.sub (List.Sublist.trans (List.sublist_cons_self _ _) (List.sublist_append_right _ _))) x hx;exact⟨s1,by simp[h1],h2⟩
theorem zk (sA:List ByteArray)(s:ByteArray)(sB:List ByteArray):(sA++s::sB).getD sA.length ⟨#[]⟩=s:=by simp[List.getD_eq_getElem?_getD]
theorem EI {A B:List (KT h)}{u:KT h}:((A++u::B).map Prod.fst).getD A.length (0:Int)=u.1:=by simp[List.getD_eq_getElem?_getD]
theorem Dm {rec:σ->Int->ByteArray->ByteArray->Option (σ×(Bool×Int))}:∀(B A:List (KT h)) (sA sB:List ByteArray) (s:σ),A.length=sA.length->sB.length+1=B.length->bN (dx (A++B) (sA++sB))->(∀s∈sB,bF fr s=true)->
  (∀u∈B,∀s fr' OE,rec s u.1 fr' OE=some ((kM st (iv fr' OE (dT h u.2)) s).1,((kM st (iv fr' OE (dT h u.2)) s).2,0)))->
  fH rec (aT (h+1) (bG (A++B) (sA++sB))) fr tt B.length A.length s=some ((kM st (iv fr tt (bM B)) s).1,((kM st (iv fr tt (bM B)) s).2,0))
 |[],_,_,_,_,_,hl,_,_,_=>by simp at hl
 |u::B,A,sA,sB,s,hA,hl,ho,hfr,hrec=>by
  have hlB:sB.length=B.length:=by simpa using hl
  rw[List.length_cons,fH,bP];simp only;rw[if_neg (by simp;omega),EI];have UA:∀x∈bM (u::B),bF x.1 (jt (sA++sB) A.length fr)=bF x.1 fr:=fun x hx=>by
   unfold jt;split
   ·rename_i hc
    have hm:(sA++sB).getD (A.length-1) ⟨#[]⟩∈sA:=by
     rw[hA,List.getD_eq_getElem?_getD,List.getElem?_append_left (by omega),List.getElem?_eq_getElem (by omega)];exact List.getElem_mem _
    rw[JR hA ho hm hx];cases hx2:bF x.1 fr with
    |false=>rfl
    |true=>have:=cR hx2 hc.2;rw[JR hA ho hm hx]at this;cases this
   ·rfl
  have key:(bE (gj (sA++sB) A.length tt) (jt (sA++sB) A.length fr)=false->iv fr tt (bM (u::B))=[])∧∀x∈dT h u.2,bE (gj (sA++sB) A.length tt) x.1=bE tt x.1:=by
   have plain:gj (sA++sB) A.length tt=tt->(bE (gj (sA++sB) A.length tt) (jt (sA++sB) A.length fr)=false->iv fr tt (bM (u::B))=[])∧∀x∈dT h u.2,bE (gj (sA++sB) A.length tt) x.1=bE tt x.1:=fun e=>by
    rw[e];refine⟨fun hc=>Dl fun x hx=>?_,fun _ _=>rfl⟩;cases h1:bF x.1 fr with
    |true=>exact .inl rfl
    |false=>exact .inr (JQ hc (by rw[UA x hx,h1]))
   cases sB with
   |nil=>
    apply plain;unfold gj;rw[if_neg (by simp;omega)]
   |cons s1 sB=>
    by_cases hs:bE tt s1=true
    ·have e:gj (sA++s1::sB) A.length tt=s1:=by
      unfold gj;rw[hA,zk,if_pos ⟨by simp,hs⟩]
     have Xj:B≠[]:=by intro e;rw[e]at hlB;simp at hlB
     rw[e];refine⟨fun hc=>?_,fun x hx=>?_⟩
     ·exfalso;have h1:bF (jt (sA++s1::sB) A.length fr) s1=true:=by
       unfold jt;split
       ·rename_i hc2
        have hp:=ky (h:=h) (K:=A++u::B) (ss:=sA++s1::sB) (by simp at hl⊢;omega) ho;have h2:sA.length-1<sA.length:=by omega
        rw[hA,List.getD_eq_getElem?_getD,List.getElem?_append_left (by omega),List.getElem?_eq_getElem h2];exact(List.pairwise_append.1 hp).2.2 _ (List.getElem_mem h2) s1 (by simp)
       ·exact hfr s1 (by simp)
      rw[Bh]at hc;rw[h1]at hc;cases hc.2
     ·have h1:=Rs hA ho Xj hx;rw[Rp hs h1];exact qw.2 (.inr h1)
    ·apply plain;unfold gj;rw[hA,zk,if_neg (fun hc=>hs hc.2)]
  by_cases hh:bE (gj (sA++sB) A.length tt) (jt (sA++sB) A.length fr)=false
  ·rw[if_pos hh,key.1 hh];rfl
  ·rw[if_neg hh,hrec u (by simp)];have e1:iv (jt (sA++sB) A.length fr) (gj (sA++sB) A.length tt) (dT h u.2)=iv fr tt (dT h u.2):=JP fun x hx=>⟨UA x (by rw[bR];exact List.mem_append_left _ hx),key.2 x hx⟩;rw[e1,bR,Dj,JO];simp only;cases hb:(kM st (iv fr tt (dT h u.2)) s).2 with
   |false=>
    rw[if_pos (.inr rfl),if_pos rfl,hb]
   |true=>
    rw[if_neg (by simp),if_neg (by simp)];cases sB with
    |nil=>
     have:B=[]:=List.length_eq_zero_iff.1 (by simpa using hlB.symm);subst this;rw[show([]:List (KT h)).length=0 from rfl,fH];rfl
    |cons s1 sB=>
     have:=Dm B (A++[u]) (sA++[s1]) sB (kM st (iv fr tt (dT h u.2)) s).1 (by simp;omega) (by simpa using hlB) (by simpa using ho) (fun s hs=>hfr s (by simp[hs])) (fun v hv=>hrec v (by simp[hv]));rw[bP]at this;simpa using this
variable {room:Nat}{d:Dk}{S:Dr}{x:TX}
theorem uT {id depth:Int}{f:Nat}{s:σ}{l:List En}(hrd:dD x d id depth=(⟨true,l,[],[]⟩,0))(hsm:bV ⟨true,l,[],[]⟩=true)(hrt:dm ⟨true,l,[],[]⟩=true)(hdp:depth<=1000)(hp:l.Pairwise (fun x y=>bF x.1 y.1=true)):
  dN x d st (f+1) s id depth fr tt=some ((kM st (iv fr tt l) s).1,((kM st (iv fr tt l) s).2,0)):=by
 rw[dN,hrd,if_neg (by simp),if_neg (by rw[hsm,hrt];simp;omega)];obtain⟨a1,a2,a3⟩:=OG (st:=st) (tt:=tt) (l.filter fun e=>!bF e.1 fr) s (hp.sublist (List.filter_sublist ..));simp only;rw[Rq,zj hp];cases hc:(oK st tt (l.filter fun e=>!bF e.1 fr) s).2 with
 |none=>
  have:=a2 hc;simp only;rw[<-a1];simp only[List.length_nil,Nat.zero_sub];rw[fH,this]
 |some b=>
  simp only;rw[a3 b hc,<-a1]
theorem Dn (hr:room<=16384):∀(h:Nat) (u:KT h) (depth:Int) (f:Nat) (fr tt:ByteArray) (s:σ),Gb room d (eR x) h u.2->(eR x).vw d u.1=(aT h u.2,0)->depth+h<24->h<f->
  dN x d st f s u.1 depth fr tt=some ((kM st (iv fr tt (dT h u.2)) s).1,((kM st (iv fr tt (dT h u.2)) s).2,0))
 |h,_,_,0,_,_,_,_,_,_,hf=>absurd hf (by omega)
 |0,u,depth,f+1,fr,tt,s,G,rd,hd,hf=>by
  have hrd:dD x d u.1 depth=(aT 0 u.2,0):=by
   have h1:=(eR x).gi d u.1 depth (by omega);rw[rd]at h1;rw[<-h1];unfold Dr.read;rw[if_neg (by simp[eR])];rfl
  exact uT (l:=u.2) hrd (G.sm hr) (CW hr G.sd _ G.wl G.us G.od G.vl) (by omega) (bN.leaf G.od G.vl:Rg (show List En from u.2)).1
 |h+1,u,depth,f+1,fr,tt,s,G,rd,hd,hf=>by
  obtain⟨p,b⟩:=u;obtain⟨K,ss,rfl⟩:=fp b;have hrd:dD x d p depth=(aT (h+1) (bG K ss),0):=by
   have h1:=(eR x).gi d p depth (by omega);rw[rd]at h1;rw[<-h1];unfold Dr.read;rw[if_neg (by simp[eR])];rfl
  have R0:=G.rw;have hl:ss.length+1=K.length:=G.wl.1;obtain⟨sA,sB,rfl,hch,k1,k2⟩:=wH (key:=fr) (ky (by omega) R0.od);obtain⟨A,B,rfl,hA⟩:∃A B,K=A++B∧A.length=sA.length:=⟨K.take sA.length,K.drop sA.length,(List.take_append_drop _ _).symm,by rw[List.length_take];simp at hl;omega⟩;have hB:sB.length+1=B.length:=by simp at hl;omega
  rw[dN,hrd,if_neg (by simp),if_neg (by rw[G.sm hr,CW hr G.sd _ G.wl G.us G.od G.vl];simp;omega)];have e1:(aT (h+1) (bG (A++B) (sA++sB))).es=[]:=rfl;have e2:(aT (h+1) (bG (A++B) (sA++sB))).ks.length=A.length+B.length:=by rw[bP];simp
  have e3:(aT (h+1) (bG (A++B) (sA++sB))).ss=sA++sB:=rfl;simp only[e1,e2,e3,hch,List.drop_nil,oK];rw[<-hA,Nat.add_sub_cancel_left];have:=Dm (st:=st) (fr:=fr) (tt:=tt) (rec:=fun s id fr tt=>dN x d st f s id (depth+1) fr tt) B A sA sB s hA hB R0.od k2 fun v hv s' fr' OE=>by
   obtain⟨B1,B2,rfl⟩:=List.append_of_mem hv;have hwz:=R0.wl v (by simp);have hsub:(bh h v.2).Sublist (aV (A++(B1++v::B2))):=by
    rw[bf,bf,bB,bW];exact List.Sublist.trans (List.sublist_cons_self _ _) (List.Sublist.trans (List.sublist_append_left _ _) (List.Sublist.trans (List.sublist_append_right _ _) (List.sublist_append_right _ _)))
   have Xk:bN (cd h v.2):=by
    have:(cd h v.2).Sublist (dx (A++(B1++v::B2)) (sA++sB)):=by
     exact List.Sublist.trans (List.sublist_flatten_of_mem (List.mem_map_of_mem (f:=fun u:KT h=>cd h u.2) (by simp))) (ql _ _)
    exact R0.od.sub this
   have Gw:Gb room d (eR x) h v.2:=⟨G.sd,hwz.1,hwz.2,fun p hp=>R0.us p (hsub.subset hp),R0.nd.sublist hsub,fun y hy=>R0.is y (by rw[df,df,dG];simp[nV,hy]),Xk,fun y hy=>R0.vl y (by rw[cf,cf,bR];simp[hy])⟩;exact Dn hr h v (depth+1) f fr' OE s' Gw (R0.is (v.1,aT h v.2) (by rw[df,df,dG];simp[nV])) (by omega) (by omega)
  rw[this,oJ,cf,Dj];have eA:iv fr tt (bM A)=[]:=by
   refine Dl fun y hy=>.inl ?_;have hoA:bN (dx A sA):=by
    have:=R0.od;unfold dx at this⊢;rw[List.map_append,mK _ _ (by simpa using hA)]at this;exact this.sub (List.sublist_append_left _ _)
   obtain⟨s1,h1,h2⟩:=ahead A sA hA hoA y hy;exact gh (k1 s1 h1) h2
  rw[eA,List.nil_append]
end
end Go.Proofs.YtceoeaemenhbhaaGreatDoor.P
end
section
namespace Go.Proofs.YtceoeaemenhbhaaGreatDoor.P
open N
def EW:(h:Nat)->Int->KT h->List Pg
 |0,dp,u=>[(u.1,dp,aT 0 u.2)]
 |h+1,dp,u=>(u.1,dp,aT (h+1) u.2)::((show List (KT h)from u.2.1).map (EW h (dp+1))).flatten
theorem zl {h:Nat}(dp p:Int)(K:List (KT h))(ss:List ByteArray):EW (h+1) dp (p,bG K ss)=(p,dp,⟨false,[],K.map Prod.fst,ss⟩)::(K.map (EW h (dp+1))).flatten:=rfl
theorem qx:∀(h:Nat) (dp:Int) (u:KT h),(EW h dp u).map Prod.fst=dM u
 |0,dp,u=>rfl
 |h+1,dp,(p,b)=>by
  obtain⟨K,ss,rfl⟩:=fp b;have e:∀K:List (KT h),((K.map (EW h (dp+1))).flatten).map Prod.fst=aV K:=fun K=>by
   induction K with
   |nil=>rfl
   |cons v K ih=>rw[List.map_cons,List.flatten_cons,List.map_append,ih,qx h (dp+1) v,bB]
  rw[zl,List.map_cons,e K];rfl
section
variable {room:Nat}{d:Dk}{x:TX}
theorem Dp (h:Nat)(dp:Int)(u:KT h):(EW h dp u).length=(dM u).length:=by rw[<-qx h dp u,List.length_map]
theorem JS {h:Nat}{rec:List Pg->Int->Option (List Pg×Int)}{dp:Int}:∀(K:List (KT h)) (s:List Pg),(aV K).Nodup->(∀k∈aV K,∀p∈s,p.1≠k)->s.length+(aV K).length<=100000->
  (∀u∈K,∀s:List Pg,(∀k∈dM u,∀p∈s,p.1≠k)->s.length+(dM u).length<=100000->rec s u.1=some (s++EW h dp u,0))->
  tR rec (K.map Prod.fst) s=some (s++(K.map (EW h dp)).flatten,0)
 |[],s,_,_,_,_=>by simp[tR]
 |u::K,s,nd,hn,hl,hrec=>by
  rw[bB]at nd hn hl;obtain⟨n1,n2,n3⟩:=List.nodup_append.1 nd;rw[List.length_append]at hl;have r1:=hrec u (by simp) s (fun k hk=>hn k (List.mem_append_left _ hk)) (by omega);have q1:=JS (dp:=dp) K (s++EW h dp u) n2 (fun k hk p hp=>by
   rcases List.mem_append.1 hp with hp|hp
   ·exact hn k (List.mem_append_right _ hk) p hp
   ·have h1:p.1∈dM u:=by rw[<-qx h dp u];exact List.mem_map_of_mem hp
    exact fun e=>n3 p.1 h1 k hk e) (by rw[List.length_append,Dp];omega) (fun v hv=>hrec v (by simp[hv]))
  rw[List.map_cons,tR,r1];simp only;rw[if_neg (by simp),q1];simp
theorem Dq (hr:room<=16384):∀(h:Nat) (u:KT h) (depth:Int) (f:Nat) (s:List Pg),Gb room d (eR x) h u.2->(eR x).vw d u.1=(aT h u.2,0)->(dM u).Nodup->(∀k∈dM u,∀p∈s,p.1≠k)->s.length+(dM u).length<=100000->0<=depth->depth+h<24->h<f->
  fE x d f s u.1 depth=some (s++EW h depth u,0)
 |h,_,_,0,_,_,_,_,_,_,_,_,hf=>absurd hf (by omega)
 |0,u,depth,f+1,s,G,rd,nd,hn,hl,h0,hd,hf=>by
  have hrd:dD x d u.1 depth=(aT 0 u.2,0):=by
   have h1:=(eR x).gi d u.1 depth (by omega);rw[rd]at h1;rw[<-h1];unfold Dr.read;rw[if_neg (by simp[eR])];rfl
  have e0:dM u=[u.1]:=rfl;have h1:(s.any fun p=>decide (p.1=u.1))=false:=by
   rw[List.any_eq_false];intro p hp;simpa using hn u.1 (by rw[e0];simp) p hp
  rw[fE,hrd,if_neg (by simp),if_neg (by rw[G.sm hr,h1];simp;omega)];rfl
 |h+1,(p,b),depth,f+1,s,G,rd,nd,hn,hl,h0,hd,hf=>by
  obtain⟨K,ss,rfl⟩:=fp b;have hrd:dD x d p depth=(aT (h+1) (bG K ss),0):=by
   have h1:=(eR x).gi d p depth (by omega);rw[rd]at h1;rw[<-h1];unfold Dr.read;rw[if_neg (by simp[eR])];rfl
  have R0:=G.rw;have e0:dM ((p,bG K ss):KT (h+1))=p::aV K:=rfl;rw[e0]at nd hn hl;obtain⟨n1,n2⟩:=List.nodup_cons.1 nd;have h1:(s.any fun q=>decide (q.1=p))=false:=by
   rw[List.any_eq_false];intro q hq;simpa using hn p (by simp) q hq
  rw[List.length_cons]at hl;rw[fE,hrd,if_neg (by simp),if_neg (by rw[G.sm hr,h1];simp;omega)];have:=JS (h:=h) (rec:=fun s k=>fE x d f s k (depth+1)) (dp:=depth+1) K (s++[(p,depth,aT (h+1) (bG K ss))]) n2 (fun k hk q hq=>by
   rcases List.mem_append.1 hq with hq|hq
   ·exact hn k (List.mem_cons_of_mem _ hk) q hq
   ·rw[List.mem_singleton.1 hq];exact fun e=>n1 (by rw[show p=k from e];exact hk)) (by rw[List.length_append,List.length_singleton];omega) (fun v hv s' hs' hl'=>by
   obtain⟨B1,B2,rfl⟩:=List.append_of_mem hv
   have hwz:=R0.wl v (by simp)
   have hsub:(bh h v.2).Sublist (aV (B1++v::B2)):=by
    rw[bf,bB,bW]
    exact List.Sublist.trans (List.sublist_cons_self _ _) (List.Sublist.trans (List.sublist_append_left _ _) (List.sublist_append_right _ _))
   have Xk:bN (cd h v.2):=R0.od.sub (List.Sublist.trans (List.sublist_flatten_of_mem (List.mem_map_of_mem (f:=fun u:KT h=>cd h u.2) (by simp))) (ql _ _))
   have Gw:Gb room d (eR x) h v.2:=⟨G.sd,hwz.1,hwz.2,fun p hp=>R0.us p (hsub.subset hp),R0.nd.sublist hsub,fun y hy=>R0.is y (by rw[df,dG];simp[nV,hy]),Xk,fun y hy=>R0.vl y (by rw[cf,bR];simp[hy])⟩
   exact Dq hr h v (depth+1) f s' Gw (R0.is (v.1,aT h v.2) (by rw[df,dG];simp[nV])) (R0.nd.sublist (by rw[bf,bB];exact List.Sublist.trans (List.sublist_append_left _ _) (List.sublist_append_right _ _))) hs' hl' (by omega) (by omega) (by omega))
  rw[zl];show tR (fun s k=>fE x d f s k (depth+1)) (K.map Prod.fst) _=_;rw[this];simp[bP]
end
end Go.Proofs.YtceoeaemenhbhaaGreatDoor.P
end
section
namespace Go.Proofs.YtceoeaemenhbhaaGreatDoor.P
open N
def uU (sA:List ByteArray)(lo:ByteArray):ByteArray:=sA.getLast?.getD lo
def Ds (sB:List ByteArray)(hi:ByteArray):ByteArray:=sB.head?.getD hi
def YY (lo hi:ByteArray)(l:List It):Prop:=∀x∈l,bF x.2 lo=false∧(hi=⟨#[]⟩∨bF x.2 hi=true)
def WB:(h:Nat)->BT h->ByteArray->ByteArray->Prop
 |0,l,lo,hi=>dm (aT 0 l)=true∧bV (aT 0 l)=true∧dU (aT 0 l)<=240∧(show List En from l)≠[]∧∀x∈(show List En from l),bF x.1 lo=false∧(hi=⟨#[]⟩∨bF x.1 hi=true)
 |h+1,t,lo,hi=>dm (aT (h+1) t)=true∧bV (aT (h+1) t)=true∧dU (aT (h+1) t)<=240∧t.2.length+1=t.1.length∧∀(A:List (KT h)) (u:KT h) (B:List (KT h)) (sA sB:List ByteArray),t.1=A++u::B->t.2=sA++sB->A.length=sA.length->
   bF (uU sA lo) lo=false∧(hi=⟨#[]⟩∨bF hi (Ds sB hi)=false)∧WB h u.2 (uU sA lo) (Ds sB hi)
theorem JT (k:ByteArray):bF k ⟨#[]⟩=false:=by
 unfold bF;rw[show(⟨#[]⟩:ByteArray).toList=[]from by simp];cases k.toList<;>rfl
section
variable {room:Nat}{d:Dk}{S:Dr}
theorem OH (hr:room<=16384):∀(h:Nat) (b:BT h) (lo hi:ByteArray),Gb room d S h b->YY lo hi (cd h b)->WB h b lo hi
 |0,b,lo,hi,G,bd=>by
  refine⟨ku b G.od G.vl,G.sm hr,G.sz,G.wl,fun x hx=>?_⟩;exact bd (false,x.1) (List.mem_map_of_mem (f:=fun(x:En)=>((false,x.1):It)) hx)
 |h+1,b,lo,hi,G,bd=>by
  obtain⟨K,ss,rfl⟩:=fp b;have R0:=G.rw;refine⟨CW hr G.sd _ G.wl G.us G.od G.vl,G.sm hr,G.sz,G.wl.1,fun A u B sA sB e1 e2 hA=>?_⟩;have e1:K=A++u::B:=e1;have e2:ss=sA++sB:=e2;subst e1 e2;have hl:(sA++sB).length+1=(A++u::B).length:=G.wl.1;have hB:B.length=sB.length:=by simp at hl;omega
  have hwz:=R0.wl u (by simp);have bd:YY lo hi (dx (A++u::B) (sA++sB)):=bd;have od:bN (dx (A++u::B) (sA++sB)):=R0.od;rw[eQ hA]at bd od;have hsub:(bh h u.2).Sublist (aV (A++u::B)):=by
   rw[bf,bB,bW];exact List.Sublist.trans (List.sublist_cons_self _ _) (List.Sublist.trans (List.sublist_append_left _ _) (List.sublist_append_right _ _))
  have Gw:Gb room d S h u.2:=⟨G.sd,hwz.1,hwz.2,fun p hp=>R0.us p (hsub.subset hp),R0.nd.sublist hsub,fun y hy=>R0.is y (by rw[df,dG];simp[nV,hy]),od.sub (List.Sublist.trans (List.sublist_append_left _ _) (List.sublist_append_right _ _)),fun y hy=>R0.vl y (by rw[cf,bR];simp[hy])⟩;have UB:∀s∈sA,(true,s)∈dx A sA:=fun s hs=>by
   have:=(gQ (A.map fun(u:KT h)=>cd h u.2) sA (by simp;omega)).subset (List.mem_map_of_mem (f:=fun s=>((true,s):It)) hs);exact this
  have hlast:uU sA lo=lo∨uU sA lo∈sA:=by
   unfold uU;cases hs:sA.getLast? with
   |none=>exact .inl rfl
   |some s=>exact .inr (List.mem_of_getLast? hs)
  have hhead:(sB=[]∧Ds sB hi=hi)∨∃s lh,sB=s::lh∧Ds sB hi=s:=by
   cases sB with
   |nil=>exact .inl ⟨rfl,rfl⟩
   |cons s lh=>exact .inr ⟨s,lh,rfl,rfl⟩
  have YZ:∀s lh,sB=s::lh->(true,s)∈jx (B.map fun u=>cd h u.2) sB:=fun s lh e=>by
   subst e;cases B with
   |nil=>simp at hB
   |cons v B=>rw[List.map_cons,iO];simp
  obtain⟨p1,p2,p3⟩:=List.pairwise_append.1 od.up;obtain⟨p4,p5,p6⟩:=List.pairwise_append.1 p2;refine⟨?_,?_,OH hr h u.2 _ _ Gw fun x hx=>⟨?_,?_⟩⟩
  ·rcases hlast with e|hm
   ·rw[e];exact dI _
   ·exact(bd _ (List.mem_append_left _ (UB _ hm))).1
  ·rcases hhead with⟨_,e⟩| ⟨s,lh,es,e⟩
   ·rw[e];exact .inr (dI _)
   ·rw[e];rcases(bd _ (List.mem_append_right _ (List.mem_append_right _ (YZ s lh es)))).2 with h1|h1
    ·exact .inl h1
    ·exact .inr (gy h1)
  ·rcases hlast with e|hm
   ·rw[e];exact(bd x (List.mem_append_right _ (List.mem_append_left _ hx))).1
   ·have h1:=p3 _ (UB _ hm) x (List.mem_append_left _ hx);by_cases hb:x.1=true
    ·have h2:bF (uU sA lo) x.2=true:=by simpa[RI,hb]using h1
     exact gy h2
    ·simpa[RI,hb]using h1
  ·rcases hhead with⟨_,e⟩| ⟨s,lh,es,e⟩
   ·rw[e];exact(bd x (List.mem_append_right _ (List.mem_append_left _ hx))).2
   ·rw[e];have h1:=p6 x hx (true,s) (YZ s lh es);exact .inr (by simpa[RI]using h1)
theorem Nz (hr:room<=16384){h:Nat}{b:BT h}(G:Gb room d S h b):WB h b ⟨#[]⟩ ⟨#[]⟩:=OH hr h b _ _ G fun x _=>⟨JT _,.inl rfl⟩
end
end Go.Proofs.YtceoeaemenhbhaaGreatDoor.P
end
section
namespace Go.Proofs.YtceoeaemenhbhaaGreatDoor.P
open N
section
variable {x:TX}{d:Dk}{key:ByteArray}
variable {σ:Type}{st:σ->En->σ×Bool}{fr tt:ByteArray}
end
end Go.Proofs.YtceoeaemenhbhaaGreatDoor.P
end
section
namespace Go.Proofs.YtceoeaemenhbhaaGreatDoor.P
open N
section
variable {room:Nat}{d:Dk}{S:Dr}{x:TX}{root:Int}{E:List En}{X:List Int}{H:Nat}
theorem TS.low (T:TS room d S root E X H)(hE:E.length<=200):H<=7:=by
 rcases T.cnt.2 with h|h
 ·omega
 ·rcases Nat.lt_or_ge 7 H with h7|h7
  ·have:2^8<=2^H:=Nat.pow_le_pow_right (by omega) h7;omega
  ·exact h7
def Cap (room:Nat)(d:Dk)(E:List En):Prop:=∀(S:Dr) (root:Int) (X:List Int) (H:Nat),TS room d S root E X H->(X.length:Int)+4*H+4< (room:Int)-2
theorem NC (hE:E.length<=200)(hr:400<=room):Cap room d E:=fun S root X H T=>by
 have h1:=T.cnt.1;have h2:=T.low hE;omega
theorem TS.flat (T:TS room d S root E X H)(hE:E.length<=3)(hz:cH E<80):H=0∧X.length<=1:=by
 rcases T with⟨a,b,c,e,f⟩| ⟨h,u,a,G,tb,e,rfl,rfl⟩
 ·subst c;exact⟨f,by simp⟩
 ·have T':TS room d S root E (dM u) h:=.inr ⟨h,u,a,G,tb,e,rfl,rfl⟩
  match h,u,G,tb,e,T' with
  |0,u,G,tb,e,T'=>exact⟨rfl,by simp[bW,bh,k8]⟩
  |1,u,G,tb,e,T'=>
   exfalso;obtain⟨p,b⟩:=u;obtain⟨K,ss,rfl⟩:=fp b;have hl:ss.length+1=K.length:=G.g.wl.1;have h1:K.length≠1:=tb;have kp:∀i,KP K ss i:=G.g.wl.2.1
   match K,ss,hl,h1,kp,e with
   |[],ss,hl,h1,kp,e=>simp at hl
   |[u],ss,hl,h1,kp,e=>exact h1 rfl
   |u::v::K,[],hl,h1,kp,e=>simp at hl
   |u::v::K,s::ss,hl,h1,kp,e=>
    have k0:=(kp 0 [] u v K [] s ss rfl rfl rfl).1 rfl;have e1:(show List En from u.2)++((show List En from v.2)++bM K)=E:=by rw[<-e];rfl
    have hz2:cH (show List En from u.2)+(cH (show List En from v.2)+cH (bM K))<80:=by rw[<-jd,<-jd,e1];exact hz
    have h3:bO 0 u.2=cH (show List En from u.2):=rfl;have h4:bO 0 v.2=cH (show List En from v.2):=rfl;have h5:=k0 (by rw[h3];omega);rw[nW,h3,h4,if_pos rfl]at h5;omega
  |h+2,u,G,tb,e,T'=>
   exfalso;rcases T'.cnt.2 with h0|h0
   ·omega
   ·have:2^2<=2^(h+2):=Nat.pow_le_pow_right (by omega) (by omega);omega
theorem sN (hE:E.length<=3)(hz:cH E<80)(hr:8<=room):Cap room d E:=fun S root X H T=>by
 obtain⟨h1,h2⟩:=T.flat hE hz;omega
theorem Dt {σ:Type}{st:σ->En->σ×Bool}{fr tt:ByteArray}{s:σ}(hr:room<=16384)(T:TS room d (eR x) root E X H)(hH:H+1<24):∃b,dN x d st 25 s root 0 fr tt=some ((kM st (iv fr tt E) s).1,(b,0)):=by
 rcases T with⟨rfl,rfl,rfl,sd,rfl⟩| ⟨h,u,rfl,G,tb,rfl,rfl,rfl⟩
 ·have hrd:dD x d 0 0=(⟨true,[],[],[]⟩,0):=by unfold dD;rw[if_pos rfl];rfl
  exact⟨_,uT (l:=[]) hrd (by decide) (by decide) (by omega) List.Pairwise.nil⟩
 ·exact⟨_,Dn hr h u 0 25 fr tt s G.g G.rd (by omega) (by omega)⟩
def EX (s:List Pg)(root:Int)(E:List En)(X:List Int)(H:Nat):Prop:=
 (root=0∧s=[]∧E=[]∧X=[]∧H=0)∨(root≠0∧∃h,∃u:KT h,u.1=root∧s=EW h 0 u∧WB h u.2 ⟨#[]⟩ ⟨#[]⟩∧dT h u.2=E∧dM u=X∧X.Nodup∧h=H∧Rg E)
theorem ND (hr:room<=16384)(T:TS room d (eR x) root E X H)(hH:H+1<24)(hX:X.length<=100000):∃s,EX s root E X H∧(root≠0->fE x d 25 [] root 0=some (s,0)):=by
 have hrg:=T.rg;rcases T with⟨rfl,rfl,rfl,sd,rfl⟩| ⟨h,u,rfl,G,tb,rfl,rfl,rfl⟩
 ·exact⟨[],.inl ⟨rfl,rfl,rfl,rfl,rfl⟩,fun h=>absurd rfl h⟩
 ·have h0:u.1≠0:=by have:=G.us.lo;omega
  refine⟨EW h 0 u,.inr ⟨h0,h,u,rfl,rfl,Nz hr G.g,rfl,rfl,G.Jk.2.1,rfl,hrg⟩,fun _=>?_⟩;have:=Dq hr h u 0 25 [] G.g G.rd G.Jk.2.1 (fun _ _ _ hp=>by cases hp) (by simpa using hX) (by omega) (by omega) (by omega);simpa using this
theorem OJ:∀(l s:List En),kM (fun(s:List En) y=>(s++[y],true)) l s=(s++l,true)
 |[],s=>by simp[kM]
 |y::l,s=>by
  rw[kM,if_neg (by simp)];show kM _ l (s++[y])=_;rw[OJ l (s++[y])];simp
theorem UC:∀(l:List En),(kM (fun(s:Option En) y=>(some y,false)) l none).1=l.head?
 |[]=>rfl
 |y::l=>by rw[kM,if_pos rfl];rfl
end
end Go.Proofs.YtceoeaemenhbhaaGreatDoor.P
end
section
namespace Go.Proofs.YtceoeaemenhbhaaGreatDoor.P
open Go.Shelf Go.RowKit Go.Lib Go.Sort
open N (Nd nd0 cC dm dU cH bQ iD fK Sm dt En Aj xG kI pG ft cT fW nG l7 kS jZ tj Rg bF cI fJ kG)
def gV (B:Nat)(w0:World)(d:Dk)(C:Cx)(E:List En)(k:Nat)(l:List aN)(w:World):Prop:=
 ∃r x d1 P X H,Sep B w0 w (TL (C.cD r) x d1 P l)∧a8 d d1∧Tx d.room d x r E X H∧Mn d.room x X∧x.cnt<=1000*k
section
variable {B:Nat}{w0 w w':World}{C:Cx}{d:Dk}{l:List aN}{key val fr tt:ByteArray}{E:List En}{k:Nat}
theorem gV.of (h:gV B w0 d C E k l w){l':List aN}(f:∀r x d1 P,Sep B w0 w (TL (C.cD r) x d1 P l)->Sep B w0 w' (TL (C.cD r) x d1 P l')):gV B w0 d C E k l' w':=by
 obtain⟨r,x,d1,P,X,H,s,r1⟩:=h;exact⟨r,x,d1,P,X,H,f _ _ _ _ s,r1⟩
theorem gV.rg (h:gV B w0 d C E k l w):Rg E:=by
 obtain⟨r,x,d1,P,X,H,_,_,t,_⟩:=h;exact t.ts.rg
theorem gV.om {root:Int}{x:TX}{X:List Int}{H:Nat}(T:Tx d.room d x root E X H)(hE:E.length<=1000):H<=9∧X.length<=1800:=by
 have h1:=T.ts.cnt.1;rcases T.ts.cnt.2 with h|h
 ·omega
 ·rcases Nat.lt_or_ge 9 H with h7|h7
  ·have:2^10<=2^H:=Nat.pow_le_pow_right (by omega) h7;omega
  ·omega
theorem JU {X:List Int}{H:Nat}{x:TX}{r er:Int}{P:List NV}{d1:Dk}{E':List En}(cap:Cap d.room d E)(hd:a8 d d1)(T:Tx d.room d x r E X H)(M:Mn d.room x X)(hE:E.length<=200)(hE':E'.length<=201)(hk:x.cnt<=1000*k)(g:GX B w0 (C.cD r) x d P l X H E' er w):er=0∧gV B w0 d C E' (k+1) l w:=by
 obtain⟨P',d',m1,m2,m3⟩:=g;rcases m3 with⟨_,hc,_⟩| ⟨he,x',r',X',H',T',M',hcnt,s⟩
 ·have h1:=hc M;have h2:=M.cap;have h3:=cap _ _ _ _ T.ts;omega
 ·refine⟨he,r',x',d',P',X',H',s,m2,T',M' M,?_⟩;have h1:=T.ts.low hE;have h2:=T.ts.cnt.1;have h4:=T'.ts.cnt.1;have h5:H'<=7:=by
   rcases T'.ts.cnt.2 with h|h
   ·omega
   ·rcases Nat.lt_or_ge 7 H' with h7|h7
    ·have:2^8<=2^H':=Nat.pow_le_pow_right (by omega) h7;omega
    ·exact h7
  omega
theorem wQ (T:cj B w0)(hr:d.room<=16384)(h0:C.err=0)(hm:cT key val=true)(cap:Cap d.room d E)(hE:E.length<=200)(hk:k<=700)(h:gV B w0 d C E k l w):
  Calls Tryz.prog 12 #[ptr C.tq,.string key,.string val] w fun e w'=>e=.returned (.int .i64 0)∧gV B w0 d C (nG E key val) (k+1) l w':=by
 obtain⟨r,x,d1,P,X,H,s,hd,TT,M,hc⟩:=h;have hh:=gV.om TT (by omega);refine(QY (key:=key) (val:=val) T hr hd s h0 hm TT (by omega) (by omega) (by omega)).mono fun e w' ⟨er,he,g⟩=>?_;obtain⟨h1,h2⟩:=JU cap hd TT M hE (by
  have:=wL key val E
  have e1:(Kf key val E).length=(nG E key val).length:=by unfold Kf;rw[if_pos (by rw[hm,fJ TT.ts.rg];rfl)]
  omega) hc g
 rw[h1]at he;exact⟨he,h2⟩
theorem Du (T:cj B w0)(hr:d.room<=16384)(h0:C.err=0)(cap:Cap d.room d E)(hE:E.length<=200)(hk:k<=700)(h:gV B w0 d C E k l w):
  Calls Tryz.prog 15 #[ptr C.tq,.string key] w fun e w'=>e=.returned (.tuple #[.bool (jZ E key),.int .i64 0])∧gV B w0 d C (l7 E key) (k+1) l w':=by
 obtain⟨r,x,d1,P,X,H,s,hd,TT,M,hc⟩:=h;have hh:=gV.om TT (by omega);refine(QZ (key:=key) T hr hd s h0 TT (by omega) (by omega) (by omega)).mono fun e w' ⟨er,he,g⟩=>?_;obtain⟨h1,h2⟩:=JU cap hd TT M hE (by
  have:=List.length_filter_le (fun x:En=>!decide (x.1=key)) E
  show(List.filter _ _).length<=_
  omega) hc g
 rw[h1]at he;exact⟨by rw[he];simp,h2⟩
theorem Rt (h0:C.err=0)(h1:ft key val≠0)(h:gV B w0 d C E k l w):
  Calls Tryz.prog 12 #[ptr C.tq,.string key,.string val] w fun e w'=>e=.returned (.int .i64 (ft key val))∧gV B w0 d C E k l w':=by
 obtain⟨r,x,d1,P,X,H,s,hd,TT,M,hc⟩:=h;exact(MH (C:=C.cD r) s h0 h1).mono fun e w' ⟨he,s'⟩=>⟨he,r,x,d1,P,X,H,s',hd,TT,M,hc⟩
theorem Dv (T:cj B w0)(hr:d.room<=16384)(h0:C.err=0)(hE:E.length<=1000)(h:gV B w0 d C E k l w):
  Calls Tryz.prog 18 #[ptr C.tq,.string key] w fun e w'=>e=.returned (.tuple #[.string (tj E key),.bool (jZ E key),.int .i64 0])∧gV B w0 d C E k l w':=by
 obtain⟨r,x,d1,P,X,H,s,hd,TT,M,hc⟩:=h;have hh:=gV.om TT (by omega);refine(Q8 (key:=key) T hr hd s h0 TT (by omega)).mono fun e w' ⟨he,P',d',m1,m2,s'⟩=>⟨he,r,x,d',P',X,H,s',m2,TT,M,hc⟩
theorem JV (T:cj B w0)(hr:d.room<=16384)(h0:C.err=0)(hE:E.length<=1000)(h:gV B w0 d C E k l w):
  Calls Tryz.prog 19 #[ptr C.tq,.string fr,.string tt] w fun e w'=>∃ao c,e=.returned (.tuple #[.slice ao (iv fr tt E).length c,.int .i64 0])∧gV B w0 d C E k (Di (.slice ao (iv fr tt E).length c) (iv fr tt E)::l) w':=by
 obtain⟨r,x,d1,P,X,H,s,hd,TT,M,hc⟩:=h;have hh:=gV.om TT (by omega);obtain⟨b,hb⟩:=Dt (st:=Rf) (fr:=fr) (tt:=tt) (s:=[]) hr TT.ts (by omega);have e1:(kM Rf (iv fr tt E) []).1=iv fr tt E:=by
  have:=OJ (iv fr tt E) [];rw[show kM Rf (iv fr tt E) []=_ from this];rfl
 rw[e1]at hb;have hl:(iv fr tt E).length<=900000:=by
  have:=List.length_filter_le (fun e:En=>!bF e.1 fr&&bE tt e.1) E;unfold iv;omega
 refine(Rj (C:=C.cD r) T hr TT.ts.sd.x TT.ts.sd.bz h0 (TT.ts.wf hr) hd hb hl (fun _=>rfl) (fun h=>absurd rfl h) s).mono fun e w' ⟨v,he,h2,_,P',d',m1,m2,s'⟩=>?_;obtain⟨ao,c,rfl⟩:=h2 rfl;exact⟨ao,c,he,r,x,d',P',X,H,s',m2,TT,M,hc⟩
theorem JW (T:cj B w0)(hr:d.room<=16384)(h0:C.err=0)(hE:E.length<=1000)(h:gV B w0 d C E k l w):
  Calls Tryz.prog 22 #[ptr C.tq,.string fr] w fun e w'=>e=.returned (.tuple #[.agg #[.string ((iv fr ⟨#[]⟩ E).head?.getD (⟨#[]⟩,⟨#[]⟩)).1,.string ((iv fr ⟨#[]⟩ E).head?.getD (⟨#[]⟩,⟨#[]⟩)).2],.bool (iv fr ⟨#[]⟩ E).head?.isSome,.int .i64 0])∧gV B w0 d C E k l w':=by
 obtain⟨r,x,d1,P,X,H,s,hd,TT,M,hc⟩:=h;have hh:=gV.om TT (by omega);obtain⟨b,hb⟩:=Dt (st:=Uw) (fr:=fr) (tt:=⟨#[]⟩) (s:=none) hr TT.ts (by omega);have e1:(kM Uw (iv fr ⟨#[]⟩ E) none).1=(iv fr ⟨#[]⟩ E).head?:=UC _;rw[e1]at hb;exact(Rk (C:=C.cD r) T hr TT.ts.sd.x TT.ts.sd.bz h0 (TT.ts.wf hr) hd hb s).mono fun e w' ⟨he,P',d',m1,m2,s'⟩=>⟨he,r,x,d',P',X,H,s',m2,TT,M,hc⟩
theorem NF (h:gV B w0 d C E k l w)(h0:C.err=0):Calls Tryz.prog 24 #[ptr C.tq] w fun e w'=>e=.returned (.int .i64 0)∧w=w':=by
 obtain⟨r,x,d1,P,X,H,s,hd,TT,M,hc⟩:=h;have:=TZ s;rw[show(C.cD r).err=0 from h0]at this;exact this
def UD (B:Nat)(w0:World)(d:Dk)(C:Cx)(E:List En)(k:Nat)(l:List aN)(V:List zb)(r:Int)(X:List Int)(H:Nat)(w:World):Prop:=
 ∃x d1 P,Sep B w0 w (TL (C.cD r) x d1 P l)∧a8 d d1∧Tx d.room d x r E X H∧Mn d.room x X∧x.cnt<=1000*k∧EX (V.map ze) r E X H∧∀v∈V,v.2.2∈P
theorem UD.Xl {V:List zb}{r:Int}{X:List Int}{H:Nat}(h:UD B w0 d C E k l V r X H w):gV B w0 d C E k l w:=by
 obtain⟨x,d1,P,s,hd,TT,M,hc,_⟩:=h;exact⟨r,x,d1,P,X,H,s,hd,TT,M,hc⟩
theorem gR (T:cj B w0)(hr:d.room<=16384)(h0:C.err=0)(hE:E.length<=1000)(h:gV B w0 d C E k l w):
  Calls Tryz.prog 39 #[ptr C.tq] w fun e w'=>∃ao c V r X H,e=.returned (.tuple #[.slice ao V.length c,.int .i64 0])∧UD B w0 d C E k (qu (.slice ao V.length c) V::l) V r X H w':=by
 obtain⟨r,x,d1,P,X,H,s,hd,TT,M,hc⟩:=h;have hh:=gV.om TT (by omega);obtain⟨sp,hw,hp⟩:=ND hr TT.ts (by omega) (by omega);refine(Ro (C:=C.cD r) (s:=sp) hd s fun u pd pl hu=>?_).mono fun e w' ⟨ao,c,V,he,hV,P',d',m0,m1,m2,s'⟩=>⟨ao,c,V,r,X,H,he,x,d',P',s',m2,TT,M,hc,by rw[hV];exact hw,m0⟩;by_cases hz:r=0
 ·have:sp=[]:=by
   rcases hw with⟨_,e,_⟩| ⟨e,_⟩
   ·exact e
   ·exact absurd hz e
  subst this;exact Nx (C:=C.cD r) h0 hz hd hu
 ·exact Ny (C:=C.cD r) T hr TT.ts.sd.x TT.ts.sd.bz h0 hz (TT.ts.wf hr) hd (hp hz) hu
end
end Go.Proofs.YtceoeaemenhbhaaGreatDoor.P
end
section
namespace Go.Proofs.YtceoeaemenhbhaaGreatDoor.P
open Go.Shelf Go.RowKit Go.Lib Go.Sort
open N (Nd En ft cT nG l7 jZ tj Rg bF cH)
section
variable {B:Nat}{w0 w w':World}{C:Cx}{d:Dk}{l:List aN}
theorem sO {n:Int}(h2:2<=n)(h:n<=16384):(Dk.new n).room=n.toNat:=by
 unfold Dk.room Dk.new;simp only[List.length_replicate];omega
theorem zm {tq t f b room:Nat}(hr:d.room=room)(h2:2<=room)(s:Sep B w0 w (TL ⟨0,tq,t,f,b,0,0⟩ (TX.new [] 2 room) d [] l)):gV B w0 d ⟨0,tq,t,f,b,0,0⟩ [] 0 l w:=by
 subst hr;have ok:=TX.zR [] 2 h2;have hfr:∀p,(TX.new [] 2 d.room).fresh p=none:=fun _=>rfl;refine⟨0,TX.new [] 2 d.room,d,[],[],0,s,a8.refl d,⟨.inl ⟨rfl,rfl,rfl,YL ok (fun q c hc=>by rw[hfr q]at hc;cases hc),rfl⟩,fun p hp=>by rw[hfr p]at hp;cases hp⟩,⟨fun _ hp=>(by cases hp),?_⟩,?_⟩
 ·have hp:(TX.new [] 2 d.room).pages=2:=by
   show cM 2 d.room=2;unfold cM;omega
  have hf:(TX.new [] 2 d.room).free=[]:=by
   show tZ [] [(2,(cM 2 d.room:Int)-1)]=[];have hc:=nh [] [(2,(cM 2 d.room:Int)-1)];have hi:=nr [] [(2,(cM 2 d.room:Int)-1)];generalize tZ [] [(2,(cM 2 d.room:Int)-1)]=m at*;cases m with
   |nil=>rfl
   |cons r s=>
    obtain⟨⟨a1,a2,a3⟩,_⟩:=bu.1 hc;have h1:=((hi r.1).1 ⟨a1,by omega,r,by simp,by omega,a2⟩).1;obtain⟨_,_,q,hq,_⟩:=h1;cases hq
  unfold TX.cap;rw[hp,hf];show(jb []:Int)+_+_=_;rw[pB];simp
 ·exact Nat.zero_le _
theorem Ru {n:Int}(h2:2<=n)(h3:n<=16384)(h:Sep B w0 w l):Calls Tryz.prog 11 #[.int .i64 n] w fun e w'=>∃C:Cx,e=.returned (ptr C.tq)∧C.err=0∧gV B w0 (Dk.new n) C [] 0 l w':=by
 have HR:Hid ((Dk.new n).room=n.toNat∧2<=n.toNat∧n.toNat<=16384):=⟨sO h2 h3,by omega,by omega⟩;have CD:Hid _:=NI n h;clear h h2 h3;generalize Dk.new n=d0 at*;go_enter Tryz.func11,Tryz.ntmps11
 go_wp2_with fail
 refine Calls.mono CD.out ?_;rintro e w2 ⟨b,rfl,s2⟩;have CF:Hid _:=NM s2;clear CD s2
 go_wp2_with fail
 refine Calls.mono CF.out ?_;rintro e w3 ⟨f,rfl,s3⟩;have CT:=TF s3 (by rw[HR.out.1];exact HR.out.2.2) (v:=.slice none 0 0) (fr:=[]) ⟨none,0,rfl,Nat.le_refl _,fun _=>rfl,fun h=>absurd rfl h⟩ (by simp) 2;rw[HR.out.1]at CT;have UE:Hid _:=CT;clear CF s3 CT
 go_wp2_with fail
 refine Calls.mono UE.out ?_;rintro e w4 ⟨t,rfl,s4⟩;have CN:Hid _:=Oi (root:=0) s4;clear UE s4
 go_wp2_with fail
 refine Calls.mono CN.out ?_;rintro e w5 ⟨tq,rfl,s5⟩;have SF:Hid _:=s5;clear CN s5;go_wp2;go_ret;exact⟨⟨0,tq,t,f,b,0,0⟩,rfl,rfl,zm HR.out.1 HR.out.2.1 SF.out⟩
end
end Go.Proofs.YtceoeaemenhbhaaGreatDoor.P
end
section
namespace Go.Proofs.YtceoeaemenhbhaaGreatDoor.P
open Go.Shelf Go.RowKit Go.Lib Go.Sort
open N (Nd En ft cT nG l7 jZ tj Rg bF cH)
section
variable {B:Nat}{w0 w w':World}{C:Cx}{d:Dk}{l:List aN}{E:List En}{k:Nat}
theorem gV.blk (h:gV B w0 d C E k l w)(o:Obj):gV B w0 d C E k (ar w.heap.size o::l) (w.alloc o):=h.of fun _ _ _ _ s=>Sep.pb [_,_,_,_] (s.aO o)
theorem gV.sep (h:gV B w0 d C E k l w):Sep B w0 w l:=by
 obtain⟨r,x,d1,P,X,H,s,_⟩:=h;exact Sep.drop (Sep.drop (Sep.drop (Sep.drop s)))
theorem Rv {V:List zb}{r:Int}{X:List Int}{H:Nat}{P:List NV}{x:TX}{d1:Dk}(hw:EX (V.map ze) r E X H):V.length=X.length:=by
 rcases hw with⟨_,h1,_,h2,_⟩| ⟨_,h,u,_,h1,_,_,h2,_⟩
 ·have:=congrArg List.length h1;rw[List.length_map]at this;rw[this,h2];rfl
 ·have:=congrArg List.length h1;rw[List.length_map,Dp,h2]at this;exact this
theorem UD.one {V:List zb}{r:Int}{X:List Int}{H:Nat}(h:UD B w0 d C E k l V r X H w)(hE:E.length<=3)(hz:cH E<80)(hne:E≠[]):V.length=1:=by
 obtain⟨x,d1,P,s,hd,TT,M,hc,hw,_⟩:=h;rw[Rv (P:=P) (x:=x) (d1:=d1) hw];have h1:=(TT.ts.flat hE hz).2;rcases hw with⟨_,_,h2,_⟩| ⟨_,hh,u,_,_,_,_,h2,_⟩
 ·exact absurd h2 hne
 ·rw[<-h2,bW]at h1⊢;simp at h1⊢;exact h1
abbrev sA:ByteArray:=⟨#[97]⟩
abbrev sB:ByteArray:=⟨#[98]⟩
abbrev s1:ByteArray:=⟨#[49]⟩
abbrev s2:ByteArray:=⟨#[50]⟩
abbrev s0:ByteArray:=⟨#[]⟩
theorem xE1:nG [] sB s2=[(sB,s2)]:=by decide+kernel
theorem xE2:nG [(sB,s2)] sA s1=[(sA,s1),(sB,s2)]:=by decide+kernel
theorem xSc:iv s0 s0 [(sA,s1),(sB,s2)]=[(sA,s1),(sB,s2)]:=by decide+kernel
theorem xNx:(iv ⟨#[97,97]⟩ s0 [(sA,s1),(sB,s2)]).head?=some (sB,s2):=by decide+kernel
theorem Xn:tj [(sA,s1),(sB,s2)] sA=s1∧jZ [(sA,s1),(sB,s2)] sA=true:=by decide+kernel
theorem xDl:l7 [(sA,s1),(sB,s2)] sA=[(sB,s2)]:=by decide+kernel
theorem xGo:jZ [(sB,s2)] sA=false:=by decide+kernel
theorem Vr:cT sB s2=true∧cT sA s1=true∧ft s0 s0=110:=by decide+kernel
theorem Vs:cH ([]:List En)<80∧cH [(sB,s2)]<80∧cH [(sA,s1),(sB,s2)]<80:=by decide+kernel
theorem NG (T:cj B w0)(h:Sep B w0 w l):Calls Tryz.prog 9 #[] w fun e w'=>e=.returned (.bool true)∧Sep B w0 w' l:=by
 have HT:Hid (cj B w0):=T;have Sl:(Dk.new 9).room=9:=sO (by omega) (by omega);have HC:Hid (Cap (Dk.new 9).room (Dk.new 9) []∧Cap (Dk.new 9).room (Dk.new 9) [(sB,s2)]∧Cap (Dk.new 9).room (Dk.new 9) [(sA,s1),(sB,s2)]∧(Dk.new 9).room<=16384):=by
  rw[Sl];exact⟨sN (by simp) Vs.1 (by omega),sN (by simp) Vs.2.1 (by omega),sN (by simp) Vs.2.2 (by omega),by omega⟩
 have KT:Hid _:=Ru (n:=9) (by omega) (by omega) h;clear h T Sl;generalize Dk.new 9=d0 at*;go_enter Tryz.func9,Tryz.ntmps9
 go_wp2_with fail
 refine Calls.mono KT.out ?_;rintro e w1 ⟨C,rfl,hC,h1⟩;have C0:Hid (C.err=0):=hC;have K1:Hid _:=wQ (key:=sB) (val:=s2) HT.out HC.out.2.2.2 hC Vr.1 HC.out.1 (by simp) (by omega) h1;rw[xE1]at K1;clear KT h1 hC;unfold ptr at*
 go_wp2_with fail
 refine Calls.mono K1.out ?_;rintro e w2 ⟨rfl,h2⟩;have K2:Hid _:=wQ (key:=sA) (val:=s1) HT.out HC.out.2.2.2 C0.out Vr.2.1 HC.out.2.1 (by simp) (by omega) h2;rw[xE2]at K2;clear K1 h2;unfold ptr at*
 go_wp2_with fail
 refine Calls.mono K2.out ?_;rintro e w3 ⟨rfl,h3⟩;have K3:Hid _:=JV (fr:=s0) (tt:=s0) HT.out HC.out.2.2.2 C0.out (by simp) h3;rw[xSc]at K3;clear K2 h3;unfold ptr at*
 go_wp2_with fail
 refine Calls.mono K3.out ?_;rintro e w4 ⟨ao,c,rfl,h4⟩;have K4:Hid _:=JW (fr:=⟨#[97,97]⟩) HT.out HC.out.2.2.2 C0.out (by simp) h4;rw[xNx]at K4;clear K3 h4;unfold ptr at*
 go_wp2_with fail
 refine Calls.mono K4.out ?_;rintro e w5 ⟨rfl,h5⟩;have H6:Hid _:=gV.blk h5 (.cells #[.string sB,.string s2] 45);have K6:Hid _:=Dv (key:=sA) HT.out HC.out.2.2.2 C0.out (by simp) H6.out;rw[Xn.1,Xn.2]at K6;clear K4 h5;unfold ptr at*;simp only[Option.getD_some,Option.isSome_some]
 go_wp2_with fail
 generalize w5.alloc (.cells #[.string sB,.string s2] 45)=w6 at*;generalize w5.heap.size=q6 at*;refine Calls.mono K6.out ?_;rintro e w7 ⟨rfl,h7⟩;have K7:Hid _:=Du (key:=sA) HT.out HC.out.2.2.2 C0.out HC.out.2.2.1 (by simp) (by omega) h7;rw[Xn.2,xDl]at K7;clear K6 h7 H6;unfold ptr at*
 go_wp2_with fail
 refine Calls.mono K7.out ?_;rintro e w8 ⟨rfl,h8⟩;have K8:Hid _:=Dv (key:=sA) HT.out HC.out.2.2.2 C0.out (by simp) h8;rw[xGo]at K8;clear K7 h8;generalize tj [(sB,s2)] sA=gv at*;unfold ptr at*
 go_wp2_with fail
 refine Calls.mono K8.out ?_;rintro e w9 ⟨rfl,h9⟩;have K9:Hid _:=gR HT.out HC.out.2.2.2 C0.out (by simp) h9;clear K8 h9;unfold ptr at*
 go_wp2_with fail
 refine Calls.mono K9.out ?_;rintro e J0 ⟨aw,cw,V,r,X,H,rfl,h10⟩;have hV:V.length=1:=h10.one (by simp) Vs.2.1 (by simp);have H10:Hid _:=h10.Xl;have Xo:Hid _:=Rt (key:=s0) (val:=s0) C0.out (by rw[Vr.2.2];decide) h10.Xl;rw[Vr.2.2]at Xo;have hs:=h10.Xl.sep;obtain⟨_,⟨b0,b1⟩,_⟩:=Sep.c2 (Sep.pk [_] hs);obtain⟨dJ,cap',e',_,_,h3⟩:=Sep.Uv (Sep.pk [_,_] hs);obtain⟨rb,Uo,hae,hrb,z0,_⟩:=N.dA h3 0 (by simp) (Below.refl _ _);obtain⟨rb2,Xp,UF,Xq,z2,_⟩:=N.dA h3 1 (by simp) (Below.refl _ _);have e2:ao=dJ:=by injection e'
 subst e2;subst hae;obtain⟨rfl,rfl⟩:rb=rb2∧Uo=Xp:=by cases UF;exact⟨rfl,rfl⟩
 have z0':J0.cell? ⟨rb,Uo,none⟩=some (.string sA):=z0;have z1':J0.cell? ⟨rb,Uo+2,none⟩=some (.string sB):=z2;clear K9 h10 hs h3 e' UF z0 z2;rw[hV];unfold ptr at*
 go_wp2_with fail
 refine Calls.mono Xo.out ?_;rintro e Sn ⟨rfl,h11⟩;have H11:Hid _:=h11.sep;have Y0:Hid _:=NF h11 C0.out;clear Xo h11 b0 b1 z0' z1' hrb Xq H10;unfold ptr at*
 go_wp2_with fail
 refine Calls.mono Y0.out ?_;rintro e w12 ⟨rfl,rfl⟩;clear Y0;go_wp2;go_ret;exact⟨rfl,Sep.drop (Sep.drop (Sep.drop H11.out))⟩
end
end Go.Proofs.YtceoeaemenhbhaaGreatDoor.P
end
section
namespace Go.Proofs.YtceoeaemenhbhaaGreatDoor.P
open Go.Shelf Go.RowKit Go.Lib Go.Sort
open N (Nd En ft cT nG l7 jZ tj Rg bF cH aU hidR aq ai Ch aM ah waits)
theorem uV {V:List zb}{k:Nat}{v:zb}(h:V[k]? =some v):(V.flatMap sL)[k*6]? =some (.int .i64 v.1)∧(V.flatMap sL)[k*6+1]? =some (.int .i64 v.2.1)∧k*6+6<=(V.flatMap sL).length:=by
 induction V generalizing k with
 |nil=>simp at h
 |cons u V ih=>
  rw[List.flatMap_cons];have hl:(sL u).length=6:=rfl;cases k with
  |zero=>
   simp at h;subst h;refine⟨rfl,rfl,?_⟩;rw[List.length_append,hl];omega
  |succ k=>
   obtain⟨h1,h2,h3⟩:=ih (by simpa using h);refine⟨?_,?_,?_⟩
   ·rw[List.getElem?_append_right (by omega),hl,show(k+1)*6-6=k*6 by omega];exact h1
   ·rw[List.getElem?_append_right (by omega),hl,show(k+1)*6+1-6=k*6+1 by omega];exact h2
   ·rw[List.length_append,hl];omega
section
variable {B:Nat}{w0 w:World}{C:Cx}{d:Dk}{l:List aN}{E:List En}{k:Nat}
theorem lC {V:List zb}{r:Int}{X:List Int}{H:Nat}(hw:EX (V.map ze) r E X H):V.map Prod.fst=X:=by
 have e1:V.map Prod.fst=(V.map ze).map Prod.fst:=by rw[List.map_map];rfl
 rw[e1];rcases hw with⟨_,h1,_,h2,_⟩| ⟨_,h,u,_,h1,_,_,h2,_⟩
 ·rw[h1,h2];rfl
 ·rw[h1,qx,h2]
theorem UG {s:List Pg}{r:Int}{X:List Int}{H:Nat}(hw:EX s r E X H):X.Nodup:=by
 rcases hw with⟨_,_,_,h2,_⟩| ⟨_,h,u,_,_,_,_,_,h3,_⟩
 ·rw[h2];exact List.nodup_nil
 ·exact h3
theorem gH {x:TX}{r:Int}{V:List zb}{X L:List Int}{H:Nat}(TT:Tx d.room d x r E X H)(M:Mn d.room x X)(hw:EX (V.map ze) r E X H)(hL:KeysOf x.fresh L):L.length=V.length∧∀v∈V,(x.fresh v.1).isSome=true:=by
 have hi:=lC hw;have nd:L.Nodup:=hL.1.imp fun h e=>by omega
 have h1:=qo nd (fun a ha=>TT.own a ((hL.2 a).1 ha));have h2:=qo (UG hw) (fun a ha=>(hL.2 a).2 (M.all a ha));have h3:V.length=X.length:=by rw[<-hi,List.length_map]
 refine⟨by omega,fun v hv=>M.all _ ?_⟩;rw[<-hi];exact List.mem_map_of_mem hv
theorem Rx {E:List En}{key val:ByteArray}(h:cT key val=true)(hr:Rg E):(nG E key val).length<=E.length+1:=by
 have:=wL key val E;have e1:(Kf key val E).length=(nG E key val).length:=by unfold Kf;rw[if_pos (by rw[h,N.fJ hr];rfl)]
 omega
theorem Gh {E:List En}{key:ByteArray}:(l7 E key).length<=E.length:=by
 have:=List.length_filter_le (fun x:En=>!decide (x.1=key)) E;exact this
end
def Bi (B:Nat)(w0:World)(d:Dk)(C:Cx)(E1 E2:List En)(k:Nat)(l:List aN)(f23:Bool)(w:World):Prop:=
 (f23=false->gV B w0 d C E1 k l w)∧(f23=true->gV B w0 d C E2 (k+1) l w)
theorem Bi.Br {B:Nat}{w0 w:World}{d:Dk}{C:Cx}{E1 E2:List En}{k:Nat}{l:List aN}{f23:Bool}(h:Bi B w0 d C E1 E2 k l f23 w):Below B w0 w:=by
 cases f23
 ·exact(h.1 rfl).sep.Br
 ·exact(h.2 rfl).sep.Br
def JMp (B:Nat)(w0:World)(dd:Dk)(CC:Cx)(E1 E2:List En)(kk:Nat)(LL:List aN)(r o nn cap jj:Nat)(key val:ByteArray){y1 y2 y3 y4 y5 y8 y9 oV mh nL y13 nM kX kY mi tA tB y20 y21 y22 y23 y24 y25 tE y27 y28 y29 tF y31 y32 rR y34 oW oX rS y38 y39 tG tH tI tJ ya yb yc ye yf yg vP vQ Hb PO PQ PR PS PT PU PV LU LV LW Hc y90 y91 Hd y93 Aw y95 y96 Mp y98 y99 II y101 y102 IJ y104 IK IL IM Qh Qi Qj Qk y112 y113 y114 y115 IQ IU IV IW:Value}(C:List Bool->Act->Prop)(w:World):Prop:=∀{f0 f1 f2 f3 f4 f5 f6 f7 f8 f9 f10 f11 f12 f13 f14 f15 f16 f17 f18 f19 f20 f21 f22 f23 f24 f25:Bool}{UH UI x54 x55 AU AV AW yG AX AY uA pP Ax ym x66 yn Ay x69 Az yo AA J6 ES J7 zJ AB:Value},f25=false->Bi B w0 dd CC E1 E2 kk LL f23 w->Hid (f0=true->UH=.slice (some ⟨r,o,none⟩) nn cap)->Hid (f1=true->UI=.int .i64 (jj:Int))->Hid (f2=true->f0=true∧f1=true∧x54=.pointer (some ⟨r,o+jj*3,none⟩))->Hid (f3=true->f2=true∧x55=.pointer (some ⟨r,o+jj*3+1,none⟩))->Hid (f4=true->f3=true∧AU=.string key)->Hid (f5=true->AV=.slice (some ⟨r,o,none⟩) nn cap)->Hid (f6=true->AW=.int .i64 (jj:Int))->Hid (f7=true->f5=true∧f6=true∧yG=.pointer (some ⟨r,o+jj*3,none⟩))->Hid (f8=true->f7=true∧AX=.pointer (some ⟨r,o+jj*3+2,none⟩))->Hid (f9=true->f8=true∧AY=.string val)->Hid (f10=true->f4=true∧f9=true∧uA=.bool true)->Hid (f11=true->f10=true∧pP=.bool true)->Hid (f12=true->Ax=ptr CC.tq)->Hid (f13=true->ym=.slice (some ⟨r,o,none⟩) nn cap)->Hid (f14=true->x66=.int .i64 (jj:Int))->Hid (f15=true->f13=true∧f14=true∧yn=.pointer (some ⟨r,o+jj*3,none⟩))->Hid (f16=true->f15=true∧Ay=.pointer (some ⟨r,o+jj*3+1,none⟩))->Hid (f17=true->f16=true∧x69=.string key)->Hid (f18=true->Az=.slice (some ⟨r,o,none⟩) nn cap)->Hid (f19=true->yo=.int .i64 (jj:Int))->Hid (f20=true->f18=true∧f19=true∧AA=.pointer (some ⟨r,o+jj*3,none⟩))->Hid (f21=true->f20=true∧J6=.pointer (some ⟨r,o+jj*3+2,none⟩))->Hid (f22=true->f21=true∧ES=.string val)->Hid (f23=true->f12=true∧f17=true∧f22=true∧J7=.int .i64 0)->Hid (f24=true->f23=true∧zJ=.bool false)->C [f0,f1,f2,f3,f4,f5,f6,f7,f8,f9,f10,f11,f12,f13,f14,f15,f16,f17,f18,f19,f20,f21,f22,f23,f24,f25] {tmps:=#[.slice (some ⟨r,o,none⟩) nn cap,y1,y2,y3,y4,y5,ptr CC.tq,.int .i64 (jj:Int),y8,y9,oV,mh,nL,y13,nM,kX,kY,mi,tA,tB,y20,y21,y22,y23,y24,y25,tE,y27,y28,y29,tF,y31,y32,rR,y34,oW,oX,rS,y38,y39,tG,tH,tI,tJ,ya,yb,yc,ye,yf,yg,vP,vQ,UH,UI,x54,x55,AU,AV,AW,yG,AX,AY,uA,pP,Ax,ym,x66,yn,Ay,x69,Az,yo,AA,J6,ES,J7,zJ,AB,Hb,PO,PQ,PR,PS,PT,PU,PV,LU,LV,LW,Hc,y90,y91,Hd,y93,Aw,y95,y96,Mp,y98,y99,II,y101,y102,IJ,y104,IK,IL,IM,Qh,Qi,Qj,Qk,y112,y113,y114,y115,IQ,IU,IV,IW],defers:=[]}
theorem treeTight (lv:Value)(l:List Ex)(w:World)(TB:tT w)(hL:ActR13 w lv l):
  Calls Tryz.prog 8 #[lv] w fun e w'=>e=.returned (.bool true)∧Below w.heap.size w w':=by
 obtain⟨al,cap,rfl,_⟩:=id hL.row;have HA:Hid (ActR13 w (.slice al l.length cap) l):=hL;have TT:Hid (cj w.heap.size w):=Lf TB;have KW:Hid _:=NG TT.out (Sep.nil (Nat.le_refl _) (Below.refl _ _));clear hL TB;go_enter Tryz.func8,Tryz.ntmps8
 go_wp2_with fail
 refine Calls.mono KW.out ?_;rintro e w1 ⟨rfl,s1⟩;have S1:Hid (Sep w.heap.size w w1 []):=s1;have KO:Hid _:=QH (HA.out.below s1.Br (Nat.le_refl _));clear KW s1
 go_wp2_with fail
 refine Calls.mono KO.out ?_;rintro e w2 ⟨rfl,b2⟩;have S2:Hid (Sep w.heap.size w w2 []):=S1.out.below b2;clear KO S1 b2;by_cases hov:nT l=true
 ·rw[hov];go_wp2;go_ret;exact⟨rfl,S2.out.Br⟩
 ·have JX:nT l=false:=by simpa using hov
  have HL:Hid (l.length<=200):=by
   unfold nT at JX;rw[Bool.or_eq_false_iff]at JX;have:=JX.1;show _<=_;simpa using this
  rw[JX];clear hov JX;have CD:Hid _:=NI 600 S2.out
  go_wp2_with fail
  refine Calls.mono CD.out ?_;rintro e w3 ⟨b,rfl,s3⟩;have HR:Hid ((Dk.new 600).room=600):=sO (by omega) (by omega);generalize Dk.new 600=d0 at*;have CF:Hid _:=NM s3;clear CD S2 s3
  go_wp2_with fail
  refine Calls.mono CF.out ?_;rintro e w4 ⟨f,rfl,s4⟩;have CT:=TF s4 (by rw[HR.out];omega) (v:=.slice none 0 0) (fr:=[]) ⟨none,0,rfl,Nat.le_refl _,fun _=>rfl,fun h=>absurd rfl h⟩ (by simp) 2;rw[HR.out]at CT;have UE:Hid _:=CT;clear CF s4 CT
  go_wp2_with fail
  refine Calls.mono UE.out ?_;rintro e w5 ⟨t,rfl,s5⟩;have CN:Hid _:=Oi (root:=0) s5;clear UE s5
  go_wp2_with fail
  refine Calls.mono CN.out ?_;rintro e w6 ⟨tq,rfl,s6⟩;have S6:Hid _:=zm HR.out (by omega) s6;clear CN s6;obtain⟨C,hC⟩:∃C:Cx,C=⟨0,tq,t,f,b,0,0⟩:=⟨_,rfl⟩;have e1:t=C.t:=by rw[hC]
  have e2:tq=C.tq:=by rw[hC]
  have C0:Hid (C.err=0):=by show _=_;rw[hC]
  rw[<-hC]at S6;subst e1 e2;clear hC;go_wp2
  go_loopg [7] l.length (fun kx s7 wr=>∃(ii:Nat) (E:List En),s7=.int .i64 (ii:Int)∧ii<=l.length∧l.length-ii<=kx∧Hid (E.length<=ii)∧Hid (gV w.heap.size w d0 C E ii [] wr))
  case atStart=>exact⟨0,[],rfl,Nat.zero_le _,Nat.le_refl _,Nat.le_refl _,S6.out⟩
  case round=>
   obtain⟨ii,E,rfl,hi,hix,HE,HS⟩:=hrel;clear S6;by_cases hlt:ii<l.length
   ·have mJ:(ii:Int)< (l.length:Int):=by omega
    have hcl:=HA.out.at HS.out.sep.Br (Nat.le_refl _) hlt;obtain⟨r,o,e1,hr,x0,x1,x2,z1,z2,z3⟩:=hcl;subst e1;have Dw:Hid (∀u,Below w.heap.size w u->r<u.heap.size∧u.cell? ⟨r,o+ii*3+1,none⟩=some (.string (l.getD ii gZ).key)∧u.cell? ⟨r,o+ii*3+2,none⟩=some (.string (l.getD ii gZ).val)):=fun u hu=>by
     obtain⟨r',o',e',hr',_,y1,y2,_⟩:=HA.out.at hu (Nat.le_refl _) hlt;cases e';exact⟨hr',y1,y2⟩
    have Vg:IntKind.i64.wrap ((ii:Int)+1)=((ii+1:Nat):Int):=by rw[bp (by omega) (by have:=HL.out;omega)];rfl
    have Vt:Hid ((ii:Int)< (l.length:Int)):=mJ;have Y5:Hid (Cap d0.room d0 E):=NC (by have:=HE.out;have:=HL.out;omega) (by rw[HR.out];omega);have Ra:Hid (Rg E):=HS.out.rg;generalize l.getD ii gZ=y at*;obtain⟨yk,jn,nU⟩:=y;simp only at*;by_cases hk:Int.tmod yk 6=2
    ·have hkb:(Int.tmod yk 6==2)=true:=by rw[hk];rfl
     have KD:Hid _:=Du (key:=jn) TT.out (by rw[HR.out];omega) C0.out Y5.out (by have:=HE.out;have:=HL.out;omega) (by have:=HL.out;omega) HS.out;clear hk;unfold ptr at*
     go_wp2_with fail
     refine Calls.mono KD.out ?_;rintro e w7 ⟨rfl,h7⟩;have HS2:Hid (gV w.heap.size w d0 C (l7 E jn) (ii+1) [] w7):=h7;have HE2:Hid ((l7 E jn).length<=ii+1):=by
      have h1:=Gh (E:=E) (key:=jn);have h2:=HE.out;show _<=_;omega
     generalize l7 E jn=E2 at*;generalize jZ E jn=fd at*;clear KD h7 HS HE x0 x1 x2;by_cases ht:ii%10≠0∧ii+1<l.length
     ·have ht1:(((ii:Int)%10) != 0)=true:=by rw[bne_iff_ne];omega
      have ht3:(ii:Int)+1< (l.length:Int):=by omega
      have UJ:ii+1<l.length:=by omega
      go_wp2
      go_roundg (l.length- (ii+1))
      case measure=>omega
      case rel=>exact⟨ii+1,E2,by go_num,by omega,Nat.le_refl _,HE2.out,HS2.out⟩
     ·rcases Classical.em (ii%10=0)with h10|h10
      ·have ht1:(((ii:Int)%10) != 0)=false:=by rw[bne_eq_false_iff_eq];omega
       have zn:Hid _:=gR TT.out (by rw[HR.out];omega) C0.out (by have:=HE2.out;have:=HL.out;omega) HS2.out;unfold ptr at*
       go_wp2_with fail
       refine Calls.mono zn.out ?_;rintro e w9 ⟨av,cv,V,rr,X,H,rfl,h9⟩;obtain⟨x,d1,P,s9,hd,zq,M9,zx,zy,_⟩:=h9;have zA:Hid _:=nO s9 (by have:=HL.out;omega);have H9:Hid (a8 d0 d1∧Tx d0.room d0 x rr E2 X H∧Mn d0.room x X∧x.cnt<=1000*(ii+1)∧EX (V.map ze) rr E2 X H):=⟨hd,zq,M9,zx,zy⟩;have S9:Hid (Sep w.heap.size w w9 (TL (C.cD rr) x d1 P (qu (.slice av V.length cv) V::[]))):=s9;clear zn s9 hd zq M9 zx zy HS2;unfold ptr at*
       go_wp2_with fail
       refine Calls.mono zA.out ?_;rintro e J0 ⟨mv,L,rfl,hK,JY,hown,b10⟩;obtain⟨am,cm,rfl⟩:∃am cm,mv=.slice am L.length cm:=by
        rcases hown.2 with⟨h1,h2⟩| ⟨g,cap,cur,h1,_⟩
        ·exact⟨none,0,by rw[h1,h2]⟩
        ·exact⟨_,_,h1⟩
       obtain⟨hlen,hfr⟩:=gH H9.out.2.1 H9.out.2.2.1 H9.out.2.2.2.2 hK;have zB:Hid (∀v∈V,(x.fresh v.1).isSome=true∧Wf v.1):=fun v hv=>by
        have h1:=hfr v hv;have h2:=H9.out.2.1.ts.sd.x.fs v.1 h1;have h3:=H9.out.2.1.ts.sd.x.pr;have h4:=HR.out;exact⟨h1,by omega,by omega⟩
       have kq:Hid _:=S9.out.below b10;have HV:Hid (V.length<=100000):=by
        have h1:=H9.out.2.1.ts.cnt.1;have h2:=H9.out.2.1.ts.low (by have:=HE2.out;have:=HL.out;omega);have h3:=lC H9.out.2.2.2.2;have h4:V.length=X.length:=by rw[<-h3,List.length_map]
        have:=HE2.out;have:=HL.out;show _<=_;omega
       clear zA S9 hK JY hown b10 hfr;rw[hlen];clear hlen;go_wp2
       go_loopg [13] V.length (fun kx s13 wr2=>∃(j:Nat),s13=.int .i64 (j:Int)∧j<=V.length∧V.length-j<=kx∧Hid (Sep w.heap.size w wr2 (TL (C.cD rr) x d1 P (qu (.slice av V.length cv) V::[]))))
       case atStart=>exact⟨0,rfl,Nat.zero_le _,Nat.le_refl _,kq.out⟩
       case round=>
        obtain⟨j,rfl,hj,MN,js⟩:=hrel;clear kq;by_cases hjl:j<V.length
        ·have sP:(j:Int)< (V.length:Int):=by omega
         obtain⟨v,hv⟩:∃v,V[j]? =some v:=⟨V[j],List.getElem?_eq_getElem hjl⟩;obtain⟨q1,_,q3⟩:=uV hv;obtain⟨rq,cq,ev,_,hrq,hcell⟩:=Sep.dY (Sep.gS js.out) (by omega);obtain rfl:av=some ⟨rq,0,none⟩:=by injection ev
         have y0:=hcell (j*6) (by omega);rw[q1]at y0;have sQ:Hid _:=jk js.out (zB.out v (List.mem_of_getElem? hv)).2;rw[(zB.out v (List.mem_of_getElem? hv)).1]at sQ;have JZ:IntKind.i64.wrap ((j:Int)+1)=((j+1:Nat):Int):=by rw[bp (by omega) (by have:=HV.out;omega)];rfl
         have zC:Hid (j<V.length):=hjl;clear hcell q1 q3 hv ev;generalize v.1=UK at*;unfold ptr at*
         go_wp2_with fail
         refine Calls.mono sQ.out ?_;rintro e Sn ⟨rfl,b11⟩;have wo:Hid _:=js.out.below b11;clear sQ js b11 y0 hrq;go_wp2
         go_roundg (V.length- (j+1))
         case measure=>have:=zC.out;omega
         case rel=>exact⟨j+1,by go_num,(by have:=zC.out;omega),Nat.le_refl _,wo.out⟩
        ·have sP:¬(j:Int)< (V.length:Int):=by omega
         go_wp2
         go_roundg (l.length- (ii+1))
         case measure=>omega
         case rel=>exact⟨ii+1,E2,by go_num,by omega,Nat.le_refl _,HE2.out,rr,x,d1,P,X,H,Sep.drop (Sep.gS js.out),H9.out.1,H9.out.2.1,H9.out.2.2.1,H9.out.2.2.2.1⟩
      ·have ht1:(((ii:Int)%10) != 0)=true:=by rw[bne_iff_ne];omega
       have ht3:¬(ii:Int)+1< (l.length:Int):=by omega
       have UJ:¬ii+1<l.length:=by omega
       have zn:Hid _:=gR TT.out (by rw[HR.out];omega) C0.out (by have:=HE2.out;have:=HL.out;omega) HS2.out;unfold ptr at*
       go_wp2_with fail
       refine Calls.mono zn.out ?_;rintro e w9 ⟨av,cv,V,rr,X,H,rfl,h9⟩;obtain⟨x,d1,P,s9,hd,zq,M9,zx,zy,_⟩:=h9;have zA:Hid _:=nO s9 (by have:=HL.out;omega);have H9:Hid (a8 d0 d1∧Tx d0.room d0 x rr E2 X H∧Mn d0.room x X∧x.cnt<=1000*(ii+1)∧EX (V.map ze) rr E2 X H):=⟨hd,zq,M9,zx,zy⟩;have S9:Hid (Sep w.heap.size w w9 (TL (C.cD rr) x d1 P (qu (.slice av V.length cv) V::[]))):=s9;clear zn s9 hd zq M9 zx zy HS2;unfold ptr at*
       go_wp2_with fail
       refine Calls.mono zA.out ?_;rintro e J0 ⟨mv,L,rfl,hK,JY,hown,b10⟩;obtain⟨am,cm,rfl⟩:∃am cm,mv=.slice am L.length cm:=by
        rcases hown.2 with⟨h1,h2⟩| ⟨g,cap,cur,h1,_⟩
        ·exact⟨none,0,by rw[h1,h2]⟩
        ·exact⟨_,_,h1⟩
       obtain⟨hlen,hfr⟩:=gH H9.out.2.1 H9.out.2.2.1 H9.out.2.2.2.2 hK;have zB:Hid (∀v∈V,(x.fresh v.1).isSome=true∧Wf v.1):=fun v hv=>by
        have h1:=hfr v hv;have h2:=H9.out.2.1.ts.sd.x.fs v.1 h1;have h3:=H9.out.2.1.ts.sd.x.pr;have h4:=HR.out;exact⟨h1,by omega,by omega⟩
       have kq:Hid _:=S9.out.below b10;have HV:Hid (V.length<=100000):=by
        have h1:=H9.out.2.1.ts.cnt.1;have h2:=H9.out.2.1.ts.low (by have:=HE2.out;have:=HL.out;omega);have h3:=lC H9.out.2.2.2.2;have h4:V.length=X.length:=by rw[<-h3,List.length_map]
        have:=HE2.out;have:=HL.out;show _<=_;omega
       clear zA S9 hK JY hown b10 hfr;rw[hlen];clear hlen;go_wp2
       go_loopg [13] V.length (fun kx s13 wr2=>∃(j:Nat),s13=.int .i64 (j:Int)∧j<=V.length∧V.length-j<=kx∧Hid (Sep w.heap.size w wr2 (TL (C.cD rr) x d1 P (qu (.slice av V.length cv) V::[]))))
       case atStart=>exact⟨0,rfl,Nat.zero_le _,Nat.le_refl _,kq.out⟩
       case round=>
        obtain⟨j,rfl,hj,MN,js⟩:=hrel;clear kq;by_cases hjl:j<V.length
        ·have sP:(j:Int)< (V.length:Int):=by omega
         obtain⟨v,hv⟩:∃v,V[j]? =some v:=⟨V[j],List.getElem?_eq_getElem hjl⟩;obtain⟨q1,_,q3⟩:=uV hv;obtain⟨rq,cq,ev,_,hrq,hcell⟩:=Sep.dY (Sep.gS js.out) (by omega);obtain rfl:av=some ⟨rq,0,none⟩:=by injection ev
         have y0:=hcell (j*6) (by omega);rw[q1]at y0;have sQ:Hid _:=jk js.out (zB.out v (List.mem_of_getElem? hv)).2;rw[(zB.out v (List.mem_of_getElem? hv)).1]at sQ;have JZ:IntKind.i64.wrap ((j:Int)+1)=((j+1:Nat):Int):=by rw[bp (by omega) (by have:=HV.out;omega)];rfl
         have zC:Hid (j<V.length):=hjl;clear hcell q1 q3 hv ev;generalize v.1=UK at*;unfold ptr at*
         go_wp2_with fail
         refine Calls.mono sQ.out ?_;rintro e Sn ⟨rfl,b11⟩;have wo:Hid _:=js.out.below b11;clear sQ js b11 y0 hrq;go_wp2
         go_roundg (V.length- (j+1))
         case measure=>have:=zC.out;omega
         case rel=>exact⟨j+1,by go_num,(by have:=zC.out;omega),Nat.le_refl _,wo.out⟩
        ·have sP:¬(j:Int)< (V.length:Int):=by omega
         go_wp2
         go_roundg (l.length- (ii+1))
         case measure=>omega
         case rel=>exact⟨ii+1,E2,by go_num,by omega,Nat.le_refl _,HE2.out,rr,x,d1,P,X,H,Sep.drop (Sep.gS js.out),H9.out.1,H9.out.2.1,H9.out.2.2.1,H9.out.2.2.2.1⟩
    ·have hkb:(Int.tmod yk 6==2)=false:=beq_eq_false_iff_ne.2 hk;clear hk;cases hm:cT jn nU
     ·have Q1:Hid _:=N.Gg jn nU false hm wr;have HS2:Hid (gV w.heap.size w d0 C E (ii+1) [] wr):=by
       obtain⟨r1,x,d1,P,X,H,s,a1,a2,a3,a4⟩:=HS.out;exact⟨r1,x,d1,P,X,H,s,a1,a2,a3,by omega⟩
      have HE2:Hid (E.length<=ii+1):=by have h2:=HE.out;show _<=_;omega
      have HDR:Hid (∀m9,gV w.heap.size w d0 C E (ii+1) [] (wr.drewN m9)):=fun m9=>HS2.out.of fun _ _ _ _ s=>s.drewN m9;generalize E=E2 at*;clear HS HE hm
      go_wp2_with fail
      go_quiet ((go_at_call 13;with_reducible exact Q1.out _))
      clear Q1 HS2;generalize hw8:wr.drewN _=w8 at*;have HS2:Hid (gV w.heap.size w d0 C E2 (ii+1) [] w8):=by rw[<-hw8];exact HDR.out _
      clear HDR x0 x1 x2 hw8;by_cases ht:ii%10≠0∧ii+1<l.length
      ·have ht1:(((ii:Int)%10) != 0)=true:=by rw[bne_iff_ne];omega
       have ht3:(ii:Int)+1< (l.length:Int):=by omega
       have UJ:ii+1<l.length:=by omega
       go_wp2
       go_roundg (l.length- (ii+1))
       case measure=>omega
       case rel=>exact⟨ii+1,E2,by go_num,by omega,Nat.le_refl _,HE2.out,HS2.out⟩
      ·rcases Classical.em (ii%10=0)with h10|h10
       ·have ht1:(((ii:Int)%10) != 0)=false:=by rw[bne_eq_false_iff_eq];omega
        have zn:Hid _:=gR TT.out (by rw[HR.out];omega) C0.out (by have:=HE2.out;have:=HL.out;omega) HS2.out;unfold ptr at*
        go_wp2_with fail
        refine Calls.mono zn.out ?_;rintro e w9 ⟨av,cv,V,rr,X,H,rfl,h9⟩;obtain⟨x,d1,P,s9,hd,zq,M9,zx,zy,_⟩:=h9;have zA:Hid _:=nO s9 (by have:=HL.out;omega);have H9:Hid (a8 d0 d1∧Tx d0.room d0 x rr E2 X H∧Mn d0.room x X∧x.cnt<=1000*(ii+1)∧EX (V.map ze) rr E2 X H):=⟨hd,zq,M9,zx,zy⟩;have S9:Hid (Sep w.heap.size w w9 (TL (C.cD rr) x d1 P (qu (.slice av V.length cv) V::[]))):=s9;clear zn s9 hd zq M9 zx zy HS2;unfold ptr at*
        go_wp2_with fail
        refine Calls.mono zA.out ?_;rintro e J0 ⟨mv,L,rfl,hK,JY,hown,b10⟩;obtain⟨am,cm,rfl⟩:∃am cm,mv=.slice am L.length cm:=by
         rcases hown.2 with⟨h1,h2⟩| ⟨g,cap,cur,h1,_⟩
         ·exact⟨none,0,by rw[h1,h2]⟩
         ·exact⟨_,_,h1⟩
        obtain⟨hlen,hfr⟩:=gH H9.out.2.1 H9.out.2.2.1 H9.out.2.2.2.2 hK;have zB:Hid (∀v∈V,(x.fresh v.1).isSome=true∧Wf v.1):=fun v hv=>by
         have h1:=hfr v hv;have h2:=H9.out.2.1.ts.sd.x.fs v.1 h1;have h3:=H9.out.2.1.ts.sd.x.pr;have h4:=HR.out;exact⟨h1,by omega,by omega⟩
        have kq:Hid _:=S9.out.below b10;have HV:Hid (V.length<=100000):=by
         have h1:=H9.out.2.1.ts.cnt.1;have h2:=H9.out.2.1.ts.low (by have:=HE2.out;have:=HL.out;omega);have h3:=lC H9.out.2.2.2.2;have h4:V.length=X.length:=by rw[<-h3,List.length_map]
         have:=HE2.out;have:=HL.out;show _<=_;omega
        clear zA S9 hK JY hown b10 hfr;rw[hlen];clear hlen;go_wp2
        go_loopg [13] V.length (fun kx s13 wr2=>∃(j:Nat),s13=.int .i64 (j:Int)∧j<=V.length∧V.length-j<=kx∧Hid (Sep w.heap.size w wr2 (TL (C.cD rr) x d1 P (qu (.slice av V.length cv) V::[]))))
        case atStart=>exact⟨0,rfl,Nat.zero_le _,Nat.le_refl _,kq.out⟩
        case round=>
         obtain⟨j,rfl,hj,MN,js⟩:=hrel;clear kq;by_cases hjl:j<V.length
         ·have sP:(j:Int)< (V.length:Int):=by omega
          obtain⟨v,hv⟩:∃v,V[j]? =some v:=⟨V[j],List.getElem?_eq_getElem hjl⟩;obtain⟨q1,_,q3⟩:=uV hv;obtain⟨rq,cq,ev,_,hrq,hcell⟩:=Sep.dY (Sep.gS js.out) (by omega);obtain rfl:av=some ⟨rq,0,none⟩:=by injection ev
          have y0:=hcell (j*6) (by omega);rw[q1]at y0;have sQ:Hid _:=jk js.out (zB.out v (List.mem_of_getElem? hv)).2;rw[(zB.out v (List.mem_of_getElem? hv)).1]at sQ;have JZ:IntKind.i64.wrap ((j:Int)+1)=((j+1:Nat):Int):=by rw[bp (by omega) (by have:=HV.out;omega)];rfl
          have zC:Hid (j<V.length):=hjl;clear hcell q1 q3 hv ev;generalize v.1=UK at*;unfold ptr at*
          go_wp2_with fail
          refine Calls.mono sQ.out ?_;rintro e Sn ⟨rfl,b11⟩;have wo:Hid _:=js.out.below b11;clear sQ js b11 y0 hrq;go_wp2
          go_roundg (V.length- (j+1))
          case measure=>have:=zC.out;omega
          case rel=>exact⟨j+1,by go_num,(by have:=zC.out;omega),Nat.le_refl _,wo.out⟩
         ·have sP:¬(j:Int)< (V.length:Int):=by omega
          go_wp2
          go_roundg (l.length- (ii+1))
          case measure=>omega
          case rel=>exact⟨ii+1,E2,by go_num,by omega,Nat.le_refl _,HE2.out,rr,x,d1,P,X,H,Sep.drop (Sep.gS js.out),H9.out.1,H9.out.2.1,H9.out.2.2.1,H9.out.2.2.2.1⟩
       ·have ht1:(((ii:Int)%10) != 0)=true:=by rw[bne_iff_ne];omega
        have ht3:¬(ii:Int)+1< (l.length:Int):=by omega
        have UJ:¬ii+1<l.length:=by omega
        have zn:Hid _:=gR TT.out (by rw[HR.out];omega) C0.out (by have:=HE2.out;have:=HL.out;omega) HS2.out;unfold ptr at*
        go_wp2_with fail
        refine Calls.mono zn.out ?_;rintro e w9 ⟨av,cv,V,rr,X,H,rfl,h9⟩;obtain⟨x,d1,P,s9,hd,zq,M9,zx,zy,_⟩:=h9;have zA:Hid _:=nO s9 (by have:=HL.out;omega);have H9:Hid (a8 d0 d1∧Tx d0.room d0 x rr E2 X H∧Mn d0.room x X∧x.cnt<=1000*(ii+1)∧EX (V.map ze) rr E2 X H):=⟨hd,zq,M9,zx,zy⟩;have S9:Hid (Sep w.heap.size w w9 (TL (C.cD rr) x d1 P (qu (.slice av V.length cv) V::[]))):=s9;clear zn s9 hd zq M9 zx zy HS2;unfold ptr at*
        go_wp2_with fail
        refine Calls.mono zA.out ?_;rintro e J0 ⟨mv,L,rfl,hK,JY,hown,b10⟩;obtain⟨am,cm,rfl⟩:∃am cm,mv=.slice am L.length cm:=by
         rcases hown.2 with⟨h1,h2⟩| ⟨g,cap,cur,h1,_⟩
         ·exact⟨none,0,by rw[h1,h2]⟩
         ·exact⟨_,_,h1⟩
        obtain⟨hlen,hfr⟩:=gH H9.out.2.1 H9.out.2.2.1 H9.out.2.2.2.2 hK;have zB:Hid (∀v∈V,(x.fresh v.1).isSome=true∧Wf v.1):=fun v hv=>by
         have h1:=hfr v hv;have h2:=H9.out.2.1.ts.sd.x.fs v.1 h1;have h3:=H9.out.2.1.ts.sd.x.pr;have h4:=HR.out;exact⟨h1,by omega,by omega⟩
        have kq:Hid _:=S9.out.below b10;have HV:Hid (V.length<=100000):=by
         have h1:=H9.out.2.1.ts.cnt.1;have h2:=H9.out.2.1.ts.low (by have:=HE2.out;have:=HL.out;omega);have h3:=lC H9.out.2.2.2.2;have h4:V.length=X.length:=by rw[<-h3,List.length_map]
         have:=HE2.out;have:=HL.out;show _<=_;omega
        clear zA S9 hK JY hown b10 hfr;rw[hlen];clear hlen;go_wp2
        go_loopg [13] V.length (fun kx s13 wr2=>∃(j:Nat),s13=.int .i64 (j:Int)∧j<=V.length∧V.length-j<=kx∧Hid (Sep w.heap.size w wr2 (TL (C.cD rr) x d1 P (qu (.slice av V.length cv) V::[]))))
        case atStart=>exact⟨0,rfl,Nat.zero_le _,Nat.le_refl _,kq.out⟩
        case round=>
         obtain⟨j,rfl,hj,MN,js⟩:=hrel;clear kq;by_cases hjl:j<V.length
         ·have sP:(j:Int)< (V.length:Int):=by omega
          obtain⟨v,hv⟩:∃v,V[j]? =some v:=⟨V[j],List.getElem?_eq_getElem hjl⟩;obtain⟨q1,_,q3⟩:=uV hv;obtain⟨rq,cq,ev,_,hrq,hcell⟩:=Sep.dY (Sep.gS js.out) (by omega);obtain rfl:av=some ⟨rq,0,none⟩:=by injection ev
          have y0:=hcell (j*6) (by omega);rw[q1]at y0;have sQ:Hid _:=jk js.out (zB.out v (List.mem_of_getElem? hv)).2;rw[(zB.out v (List.mem_of_getElem? hv)).1]at sQ;have JZ:IntKind.i64.wrap ((j:Int)+1)=((j+1:Nat):Int):=by rw[bp (by omega) (by have:=HV.out;omega)];rfl
          have zC:Hid (j<V.length):=hjl;clear hcell q1 q3 hv ev;generalize v.1=UK at*;unfold ptr at*
          go_wp2_with fail
          refine Calls.mono sQ.out ?_;rintro e Sn ⟨rfl,b11⟩;have wo:Hid _:=js.out.below b11;clear sQ js b11 y0 hrq;go_wp2
          go_roundg (V.length- (j+1))
          case measure=>have:=zC.out;omega
          case rel=>exact⟨j+1,by go_num,(by have:=zC.out;omega),Nat.le_refl _,wo.out⟩
         ·have sP:¬(j:Int)< (V.length:Int):=by omega
          go_wp2
          go_roundg (l.length- (ii+1))
          case measure=>omega
          case rel=>exact⟨ii+1,E2,by go_num,by omega,Nat.le_refl _,HE2.out,rr,x,d1,P,X,H,Sep.drop (Sep.gS js.out),H9.out.1,H9.out.2.1,H9.out.2.2.1,H9.out.2.2.2.1⟩
     ·have Xr:Hid (cT jn nU=true):=hm;have Y6:Hid (∀u,gV w.heap.size w d0 C E ii [] u->Calls Tryz.prog 12 #[ptr C.tq,.string jn,.string nU] u fun e w'=>e=.returned (.int .i64 0)∧gV w.heap.size w d0 C (nG E jn nU) (ii+1) [] w'):=fun u hu=>wQ TT.out (by rw[HR.out];omega) C0.out Xr.out Y5.out (by have:=HE.out;have:=HL.out;omega) (by have:=HL.out;omega) hu;have HDR:Hid _:=HS.out.of fun _ _ _ _ s=>s.drew;clear HS hm;unfold ptr at*
      go_wp2_with fail
      clear x0 x1 x2;refine jm 25 (JMp w.heap.size w d0 C E (nG E jn nU) ii [] r o l.length cap ii jn nU) (by kernel_rfl) (by kernel_rfl) (fun _ k=>k rfl ⟨fun _=>HDR.out,(fun h=>by cases h)⟩ aq aq aq aq aq aq aq aq aq aq aq aq aq aq aq aq aq aq aq aq aq aq aq aq aq) ?_ ?_ ?_ ?_
      ·intro w' f0 f1 f2 f3 f4 f5 f6 f7 f8 f9 f10 f11 f12 f13 f14 f15 f16 f17 f18 f19 f20 f21 f22 f23 f24 f25 UH UI x54 x55 AU AV AW yG AX AY uA pP Ax ym x66 yn Ay x69 Az yo AA J6 ES J7 zJ AB e25 hB h0 h1 h2 h3 h4 h5 h6 h7 h8 h9 h10 h11 h12 bU cU fQ h16 gT h18 h19 h20 h21 h22 h23 lH hi;have d11:f11=true:=ah 11 hi (by kernel_rfl);have d24:f24=true:=ah 24 hi (by kernel_rfl);obtain⟨d23,_⟩:=lH.out d24;obtain⟨d12,d17,d22,_⟩:=h23.out d23;obtain⟨d21,_⟩:=h22.out d22;obtain⟨d20,_⟩:=h21.out d21;obtain⟨d18,d19,_⟩:=h20.out d20;obtain⟨d16,_⟩:=gT.out d17;obtain⟨d15,_⟩:=h16.out d16;obtain⟨d13,d14,_⟩:=fQ.out d15;obtain⟨d10,_⟩:=h11.out d11;obtain⟨d4,d9,_⟩:=h10.out d10;obtain⟨d8,_⟩:=h9.out d9;obtain⟨d7,_⟩:=h8.out d8;obtain⟨d5,d6,_⟩:=h7.out d7;obtain⟨d3,_⟩:=h4.out d4;obtain⟨d2,_⟩:=h3.out d3;obtain⟨d0,d1,_⟩:=h2.out d2;subst d0 d1 d2 d3 d4 d5 d6 d7 d8 d9 d10 d11 d12 d13 d14 d15 d16 d17 d18 d19 d20 d21 d22 d23 d24;rfl
      ·intro i w' hne f0 f1 f2 f3 f4 f5 f6 f7 f8 f9 f10 f11 f12 f13 f14 f15 f16 f17 f18 f19 f20 f21 f22 f23 f24 f25 UH UI x54 x55 AU AV AW yG AX AY uA pP Ax ym x66 yn Ay x69 Az yo AA J6 ES J7 zJ AB e25 hB h0 h1 h2 h3 h4 h5 h6 h7 h8 h9 h10 h11 h12 bU cU fQ h16 gT h18 h19 h20 h21 h22 h23 lH hi;obtain⟨hlt,hun,_⟩:=aM hi;have hlt':i<26:=hlt;clear hlt;rcases(by omega:i=0∨i=1∨i=2∨i=3∨i=4∨i=5∨i=6∨i=7∨i=8∨i=9∨i=10∨i=11∨i=12∨i=13∨i=14∨i=15∨i=16∨i=17∨i=18∨i=19∨i=20∨i=21∨i=22∨i=23∨i=24)with rfl|rfl|rfl|rfl|rfl|rfl|rfl|rfl|rfl|rfl|rfl|rfl|rfl|rfl|rfl|rfl|rfl|rfl|rfl|rfl|rfl|rfl|rfl|rfl|rfl
       ·have un:f0=false:=hun;refine ai rfl fun K HK=>?_;go_simp;exact HK.out _ _ fun _ k=>k e25 hB hidR h1 (fun d=>by have e:=(h2.out d).1;rw[un]at e;cases e) h3 h4 h5 h6 h7 h8 h9 h10 h11 h12 bU cU fQ h16 gT h18 h19 h20 h21 h22 h23 lH
       ·have un:f1=false:=hun;refine ai rfl fun K HK=>?_;go_simp;exact HK.out _ _ fun _ k=>k e25 hB h0 hidR (fun d=>by have e:=(h2.out d).2.1;rw[un]at e;cases e) h3 h4 h5 h6 h7 h8 h9 h10 h11 h12 bU cU fQ h16 gT h18 h19 h20 h21 h22 h23 lH
       ·have un:f2=false:=hun;have d0:f0=true:=ah 0 hi (by kernel_rfl);cases h0 d0;have d1:f1=true:=ah 1 hi (by kernel_rfl);cases h1 d1;have Xs:=Vt.out;refine ai rfl fun K HK=>?_;go_simp;exact HK.out _ _ fun _ k=>k e25 hB h0 h1 (fun _=>⟨d0,d1,rfl⟩) (fun d=>by have e:=(h3.out d).1;rw[un]at e;cases e) h4 h5 h6 h7 h8 h9 h10 h11 h12 bU cU fQ h16 gT h18 h19 h20 h21 h22 h23 lH
       ·have un:f3=false:=hun;have d2:f2=true:=ah 2 hi (by kernel_rfl);obtain⟨_,_,rfl⟩:=h2.out d2;refine ai rfl fun K HK=>?_;go_simp;exact HK.out _ _ fun _ k=>k e25 hB h0 h1 h2 (fun _=>⟨d2,rfl⟩) (fun d=>by have e:=(h4.out d).1;rw[un]at e;cases e) h5 h6 h7 h8 h9 h10 h11 h12 bU cU fQ h16 gT h18 h19 h20 h21 h22 h23 lH
       ·have un:f4=false:=hun;have d3:f3=true:=ah 3 hi (by kernel_rfl);obtain⟨_,rfl⟩:=h3.out d3;obtain⟨Sl,c91,Xt⟩:=Dw.out _ (Bi.Br hB);refine ai rfl fun K HK=>?_;go_simp;exact HK.out _ _ fun _ k=>k e25 hB h0 h1 h2 h3 (fun _=>⟨d3,rfl⟩) h5 h6 h7 h8 h9 (fun d=>by have e:=(h10.out d).1;rw[un]at e;cases e) h11 h12 bU cU fQ h16 gT h18 h19 h20 h21 h22 h23 lH
       ·have un:f5=false:=hun;refine ai rfl fun K HK=>?_;go_simp;exact HK.out _ _ fun _ k=>k e25 hB h0 h1 h2 h3 h4 hidR h6 (fun d=>by have e:=(h7.out d).1;rw[un]at e;cases e) h8 h9 h10 h11 h12 bU cU fQ h16 gT h18 h19 h20 h21 h22 h23 lH
       ·have un:f6=false:=hun;refine ai rfl fun K HK=>?_;go_simp;exact HK.out _ _ fun _ k=>k e25 hB h0 h1 h2 h3 h4 h5 hidR (fun d=>by have e:=(h7.out d).2.1;rw[un]at e;cases e) h8 h9 h10 h11 h12 bU cU fQ h16 gT h18 h19 h20 h21 h22 h23 lH
       ·have un:f7=false:=hun;have d5:f5=true:=ah 5 hi (by kernel_rfl);cases h5 d5;have d6:f6=true:=ah 6 hi (by kernel_rfl);cases h6 d6;have Xs:=Vt.out;refine ai rfl fun K HK=>?_;go_simp;exact HK.out _ _ fun _ k=>k e25 hB h0 h1 h2 h3 h4 h5 h6 (fun _=>⟨d5,d6,rfl⟩) (fun d=>by have e:=(h8.out d).1;rw[un]at e;cases e) h9 h10 h11 h12 bU cU fQ h16 gT h18 h19 h20 h21 h22 h23 lH
       ·have un:f8=false:=hun;have d7:f7=true:=ah 7 hi (by kernel_rfl);obtain⟨_,_,rfl⟩:=h7.out d7;refine ai rfl fun K HK=>?_;go_simp;exact HK.out _ _ fun _ k=>k e25 hB h0 h1 h2 h3 h4 h5 h6 h7 (fun _=>⟨d7,rfl⟩) (fun d=>by have e:=(h9.out d).1;rw[un]at e;cases e) h10 h11 h12 bU cU fQ h16 gT h18 h19 h20 h21 h22 h23 lH
       ·have un:f9=false:=hun;have d8:f8=true:=ah 8 hi (by kernel_rfl);obtain⟨_,rfl⟩:=h8.out d8;obtain⟨Sl,c91,Xt⟩:=Dw.out _ (Bi.Br hB);refine ai rfl fun K HK=>?_;go_simp;exact HK.out _ _ fun _ k=>k e25 hB h0 h1 h2 h3 h4 h5 h6 h7 h8 (fun _=>⟨d8,rfl⟩) (fun d=>by have e:=(h10.out d).2.1;rw[un]at e;cases e) h11 h12 bU cU fQ h16 gT h18 h19 h20 h21 h22 h23 lH
       ·have un:f10=false:=hun;have d4:f4=true:=ah 4 hi (by kernel_rfl);obtain⟨_,rfl⟩:=h4.out d4;have d9:f9=true:=ah 9 hi (by kernel_rfl);obtain⟨_,rfl⟩:=h9.out d9;refine ai rfl fun K HK=>?_;go_simp;refine Calls.mono (N.BJ _ _ _) ?_;rintro e u4 ⟨rfl,rfl⟩;rw[Xr.out];exact HK.out _ _ fun _ k=>k e25 hB h0 h1 h2 h3 h4 h5 h6 h7 h8 h9 (fun _=>⟨d4,d9,rfl⟩) (fun d=>by have e:=(h11.out d).1;rw[un]at e;cases e) h12 bU cU fQ h16 gT h18 h19 h20 h21 h22 h23 lH
       ·have d10:f10=true:=ah 10 hi (by kernel_rfl);obtain⟨u4,u9,rfl⟩:=h10.out d10;refine ai rfl fun K HK=>?_;go_simp;exact HK.out _ _ fun _ k=>k e25 hB h0 h1 h2 h3 h4 h5 h6 h7 h8 h9 h10 (fun _=>⟨d10,rfl⟩) h12 bU cU fQ h16 gT h18 h19 h20 h21 h22 h23 lH
       ·have un:f12=false:=hun;obtain⟨_,rfl⟩:=h11.out (ah 11 hi (by kernel_rfl));refine ai rfl fun K HK=>?_;go_simp;exact HK.out _ _ fun _ k=>k e25 hB h0 h1 h2 h3 h4 h5 h6 h7 h8 h9 h10 h11 hidR bU cU fQ h16 gT h18 h19 h20 h21 h22 (fun d=>by have e:=(h23.out d).1;rw[un]at e;cases e) lH
       ·have un:f13=false:=hun;obtain⟨_,rfl⟩:=h11.out (ah 11 hi (by kernel_rfl));refine ai rfl fun K HK=>?_;go_simp;exact HK.out _ _ fun _ k=>k e25 hB h0 h1 h2 h3 h4 h5 h6 h7 h8 h9 h10 h11 h12 hidR cU (fun d=>by have e:=(fQ.out d).1;rw[un]at e;cases e) h16 gT h18 h19 h20 h21 h22 h23 lH
       ·have un:f14=false:=hun;obtain⟨_,rfl⟩:=h11.out (ah 11 hi (by kernel_rfl));refine ai rfl fun K HK=>?_;go_simp;exact HK.out _ _ fun _ k=>k e25 hB h0 h1 h2 h3 h4 h5 h6 h7 h8 h9 h10 h11 h12 bU hidR (fun d=>by have e:=(fQ.out d).2.1;rw[un]at e;cases e) h16 gT h18 h19 h20 h21 h22 h23 lH
       ·have un:f15=false:=hun;obtain⟨_,rfl⟩:=h11.out (ah 11 hi (by kernel_rfl));have d13:f13=true:=ah 13 hi (by kernel_rfl);cases bU d13;have d14:f14=true:=ah 14 hi (by kernel_rfl);cases cU d14;have Xs:=Vt.out;refine ai rfl fun K HK=>?_;go_simp;exact HK.out _ _ fun _ k=>k e25 hB h0 h1 h2 h3 h4 h5 h6 h7 h8 h9 h10 h11 h12 bU cU (fun _=>⟨d13,d14,rfl⟩) (fun d=>by have e:=(h16.out d).1;rw[un]at e;cases e) gT h18 h19 h20 h21 h22 h23 lH
       ·have un:f16=false:=hun;obtain⟨_,rfl⟩:=h11.out (ah 11 hi (by kernel_rfl));have d15:f15=true:=ah 15 hi (by kernel_rfl);obtain⟨_,_,rfl⟩:=fQ.out d15;refine ai rfl fun K HK=>?_;go_simp;exact HK.out _ _ fun _ k=>k e25 hB h0 h1 h2 h3 h4 h5 h6 h7 h8 h9 h10 h11 h12 bU cU fQ (fun _=>⟨d15,rfl⟩) (fun d=>by have e:=(gT.out d).1;rw[un]at e;cases e) h18 h19 h20 h21 h22 h23 lH
       ·have un:f17=false:=hun;obtain⟨_,rfl⟩:=h11.out (ah 11 hi (by kernel_rfl));have d16:f16=true:=ah 16 hi (by kernel_rfl);obtain⟨_,rfl⟩:=h16.out d16;obtain⟨Sl,c91,Xt⟩:=Dw.out _ (Bi.Br hB);refine ai rfl fun K HK=>?_;go_simp;exact HK.out _ _ fun _ k=>k e25 hB h0 h1 h2 h3 h4 h5 h6 h7 h8 h9 h10 h11 h12 bU cU fQ h16 (fun _=>⟨d16,rfl⟩) h18 h19 h20 h21 h22 (fun d=>by have e:=(h23.out d).2.1;rw[un]at e;cases e) lH
       ·have un:f18=false:=hun;obtain⟨_,rfl⟩:=h11.out (ah 11 hi (by kernel_rfl));refine ai rfl fun K HK=>?_;go_simp;exact HK.out _ _ fun _ k=>k e25 hB h0 h1 h2 h3 h4 h5 h6 h7 h8 h9 h10 h11 h12 bU cU fQ h16 gT hidR h19 (fun d=>by have e:=(h20.out d).1;rw[un]at e;cases e) h21 h22 h23 lH
       ·have un:f19=false:=hun;obtain⟨_,rfl⟩:=h11.out (ah 11 hi (by kernel_rfl));refine ai rfl fun K HK=>?_;go_simp;exact HK.out _ _ fun _ k=>k e25 hB h0 h1 h2 h3 h4 h5 h6 h7 h8 h9 h10 h11 h12 bU cU fQ h16 gT h18 hidR (fun d=>by have e:=(h20.out d).2.1;rw[un]at e;cases e) h21 h22 h23 lH
       ·have un:f20=false:=hun;obtain⟨_,rfl⟩:=h11.out (ah 11 hi (by kernel_rfl));have d18:f18=true:=ah 18 hi (by kernel_rfl);cases h18 d18;have d19:f19=true:=ah 19 hi (by kernel_rfl);cases h19 d19;have Xs:=Vt.out;refine ai rfl fun K HK=>?_;go_simp;exact HK.out _ _ fun _ k=>k e25 hB h0 h1 h2 h3 h4 h5 h6 h7 h8 h9 h10 h11 h12 bU cU fQ h16 gT h18 h19 (fun _=>⟨d18,d19,rfl⟩) (fun d=>by have e:=(h21.out d).1;rw[un]at e;cases e) h22 h23 lH
       ·have un:f21=false:=hun;obtain⟨_,rfl⟩:=h11.out (ah 11 hi (by kernel_rfl));have d20:f20=true:=ah 20 hi (by kernel_rfl);obtain⟨_,_,rfl⟩:=h20.out d20;refine ai rfl fun K HK=>?_;go_simp;exact HK.out _ _ fun _ k=>k e25 hB h0 h1 h2 h3 h4 h5 h6 h7 h8 h9 h10 h11 h12 bU cU fQ h16 gT h18 h19 h20 (fun _=>⟨d20,rfl⟩) (fun d=>by have e:=(h22.out d).1;rw[un]at e;cases e) h23 lH
       ·have un:f22=false:=hun;obtain⟨_,rfl⟩:=h11.out (ah 11 hi (by kernel_rfl));have d21:f21=true:=ah 21 hi (by kernel_rfl);obtain⟨_,rfl⟩:=h21.out d21;obtain⟨Sl,c91,Xt⟩:=Dw.out _ (Bi.Br hB);refine ai rfl fun K HK=>?_;go_simp;exact HK.out _ _ fun _ k=>k e25 hB h0 h1 h2 h3 h4 h5 h6 h7 h8 h9 h10 h11 h12 bU cU fQ h16 gT h18 h19 h20 h21 (fun _=>⟨d21,rfl⟩) (fun d=>by have e:=(h23.out d).2.2.1;rw[un]at e;cases e) lH
       ·have un:f23=false:=hun;obtain⟨_,rfl⟩:=h11.out (ah 11 hi (by kernel_rfl));have d12:f12=true:=ah 12 hi (by kernel_rfl);cases h12 d12;have d17:f17=true:=ah 17 hi (by kernel_rfl);obtain⟨_,rfl⟩:=gT.out d17;have d22:f22=true:=ah 22 hi (by kernel_rfl);obtain⟨_,rfl⟩:=h22.out d22;refine ai rfl fun K HK=>?_;go_simp;refine Calls.mono (Y6.out _ (hB.1 un)) ?_;rintro e u4 ⟨rfl,s4⟩;exact HK.out _ _ fun _ k=>k e25 ⟨(fun h=>by cases h),fun _=>s4⟩ h0 h1 h2 h3 h4 h5 h6 h7 h8 h9 h10 h11 h12 bU cU fQ h16 gT h18 h19 h20 h21 h22 (fun _=>⟨d12,d17,d22,rfl⟩) (fun d=>by have e:=(lH.out d).1;rw[un]at e;cases e)
       ·obtain⟨_,rfl⟩:=h11.out (ah 11 hi (by kernel_rfl));have d23:f23=true:=ah 23 hi (by kernel_rfl);obtain⟨u12,u17,u22,rfl⟩:=h23.out d23;refine ai rfl fun K HK=>?_;go_simp;exact HK.out _ _ fun _ k=>k e25 hB h0 h1 h2 h3 h4 h5 h6 h7 h8 h9 h10 h11 h12 bU cU fQ h16 gT h18 h19 h20 h21 h22 h23 (fun _=>⟨d23,rfl⟩)
      ·intro w' f0 f1 f2 f3 f4 f5 f6 f7 f8 f9 f10 f11 f12 f13 f14 f15 f16 f17 f18 f19 f20 f21 f22 f23 f24 f25 UH UI x54 x55 AU AV AW yG AX AY uA pP Ax ym x66 yn Ay x69 Az yo AA J6 ES J7 zJ AB e25 hB h0 h1 h2 h3 h4 h5 h6 h7 h8 h9 h10 h11 h12 bU cU fQ h16 gT h18 h19 h20 h21 h22 h23 lH hi;have d11:f11=true:=ah 11 hi (by kernel_rfl);obtain⟨_,rfl⟩:=h11.out d11;have d24:f24=true:=ah 24 hi (by kernel_rfl);obtain⟨_,rfl⟩:=lH.out d24;clear hi;refine ai rfl fun K HK=>?_;go_simp;refine HK.out _ _ ?_;have HS2:Hid _:=hB.2 ((lH.out d24).1);have HE2:Hid ((nG E jn nU).length<=ii+1):=by
        have h1:=Rx Xr.out Ra.out;have h2:=HE.out;show _<=_;omega
       generalize nG E jn nU=E2 at*;clear h0 h1 h2 h3 h4 h5 h6 h7 h8 h9 h10 h11 h12 bU cU fQ h16 gT h18 h19 h20 h21 h22 h23 lH hB HDR Y6;by_cases ht:ii%10≠0∧ii+1<l.length
       ·have ht1:(((ii:Int)%10) != 0)=true:=by rw[bne_iff_ne];omega
        have ht3:(ii:Int)+1< (l.length:Int):=by omega
        have UJ:ii+1<l.length:=by omega
        go_wp2
        go_roundg (l.length- (ii+1))
        case measure=>omega
        case rel=>exact⟨ii+1,E2,by go_num,by omega,Nat.le_refl _,HE2.out,HS2.out⟩
       ·rcases Classical.em (ii%10=0)with h10|h10
        ·have ht1:(((ii:Int)%10) != 0)=false:=by rw[bne_eq_false_iff_eq];omega
         have zn:Hid _:=gR TT.out (by rw[HR.out];omega) C0.out (by have:=HE2.out;have:=HL.out;omega) HS2.out;unfold ptr at*
         go_wp2_with fail
         refine Calls.mono zn.out ?_;rintro e w9 ⟨av,cv,V,rr,X,H,rfl,h9⟩;obtain⟨x,d1,P,s9,hd,zq,M9,zx,zy,_⟩:=h9;have zA:Hid _:=nO s9 (by have:=HL.out;omega);have H9:Hid (a8 d0 d1∧Tx d0.room d0 x rr E2 X H∧Mn d0.room x X∧x.cnt<=1000*(ii+1)∧EX (V.map ze) rr E2 X H):=⟨hd,zq,M9,zx,zy⟩;have S9:Hid (Sep w.heap.size w w9 (TL (C.cD rr) x d1 P (qu (.slice av V.length cv) V::[]))):=s9;clear zn s9 hd zq M9 zx zy HS2;unfold ptr at*
         go_wp2_with fail
         refine Calls.mono zA.out ?_;rintro e J0 ⟨mv,L,rfl,hK,JY,hown,b10⟩;obtain⟨am,cm,rfl⟩:∃am cm,mv=.slice am L.length cm:=by
          rcases hown.2 with⟨h1,h2⟩| ⟨g,cap,cur,h1,_⟩
          ·exact⟨none,0,by rw[h1,h2]⟩
          ·exact⟨_,_,h1⟩
         obtain⟨hlen,hfr⟩:=gH H9.out.2.1 H9.out.2.2.1 H9.out.2.2.2.2 hK;have zB:Hid (∀v∈V,(x.fresh v.1).isSome=true∧Wf v.1):=fun v hv=>by
          have h1:=hfr v hv;have h2:=H9.out.2.1.ts.sd.x.fs v.1 h1;have h3:=H9.out.2.1.ts.sd.x.pr;have h4:=HR.out;exact⟨h1,by omega,by omega⟩
         have kq:Hid _:=S9.out.below b10;have HV:Hid (V.length<=100000):=by
          have h1:=H9.out.2.1.ts.cnt.1;have h2:=H9.out.2.1.ts.low (by have:=HE2.out;have:=HL.out;omega);have h3:=lC H9.out.2.2.2.2;have h4:V.length=X.length:=by rw[<-h3,List.length_map]
          have:=HE2.out;have:=HL.out;show _<=_;omega
         clear zA S9 hK JY hown b10 hfr;rw[hlen];clear hlen;go_wp2
         go_loopg [13] V.length (fun kx s13 wr2=>∃(j:Nat),s13=.int .i64 (j:Int)∧j<=V.length∧V.length-j<=kx∧Hid (Sep w.heap.size w wr2 (TL (C.cD rr) x d1 P (qu (.slice av V.length cv) V::[]))))
         case atStart=>exact⟨0,rfl,Nat.zero_le _,Nat.le_refl _,kq.out⟩
         case round=>
          obtain⟨j,rfl,hj,MN,js⟩:=hrel;clear kq;by_cases hjl:j<V.length
          ·have sP:(j:Int)< (V.length:Int):=by omega
           obtain⟨v,hv⟩:∃v,V[j]? =some v:=⟨V[j],List.getElem?_eq_getElem hjl⟩;obtain⟨q1,_,q3⟩:=uV hv;obtain⟨rq,cq,ev,_,hrq,hcell⟩:=Sep.dY (Sep.gS js.out) (by omega);obtain rfl:av=some ⟨rq,0,none⟩:=by injection ev
           have y0:=hcell (j*6) (by omega);rw[q1]at y0;have sQ:Hid _:=jk js.out (zB.out v (List.mem_of_getElem? hv)).2;rw[(zB.out v (List.mem_of_getElem? hv)).1]at sQ;have JZ:IntKind.i64.wrap ((j:Int)+1)=((j+1:Nat):Int):=by rw[bp (by omega) (by have:=HV.out;omega)];rfl
           have zC:Hid (j<V.length):=hjl;clear hcell q1 q3 hv ev;generalize v.1=UK at*;unfold ptr at*
           go_wp2_with fail
           refine Calls.mono sQ.out ?_;rintro e Sn ⟨rfl,b11⟩;have wo:Hid _:=js.out.below b11;clear sQ js b11 y0 hrq;go_wp2
           go_roundg (V.length- (j+1))
           case measure=>have:=zC.out;omega
           case rel=>exact⟨j+1,by go_num,(by have:=zC.out;omega),Nat.le_refl _,wo.out⟩
          ·have sP:¬(j:Int)< (V.length:Int):=by omega
           go_wp2
           go_roundg (l.length- (ii+1))
           case measure=>omega
           case rel=>exact⟨ii+1,E2,by go_num,by omega,Nat.le_refl _,HE2.out,rr,x,d1,P,X,H,Sep.drop (Sep.gS js.out),H9.out.1,H9.out.2.1,H9.out.2.2.1,H9.out.2.2.2.1⟩
        ·have ht1:(((ii:Int)%10) != 0)=true:=by rw[bne_iff_ne];omega
         have ht3:¬(ii:Int)+1< (l.length:Int):=by omega
         have UJ:¬ii+1<l.length:=by omega
         have zn:Hid _:=gR TT.out (by rw[HR.out];omega) C0.out (by have:=HE2.out;have:=HL.out;omega) HS2.out;unfold ptr at*
         go_wp2_with fail
         refine Calls.mono zn.out ?_;rintro e w9 ⟨av,cv,V,rr,X,H,rfl,h9⟩;obtain⟨x,d1,P,s9,hd,zq,M9,zx,zy,_⟩:=h9;have zA:Hid _:=nO s9 (by have:=HL.out;omega);have H9:Hid (a8 d0 d1∧Tx d0.room d0 x rr E2 X H∧Mn d0.room x X∧x.cnt<=1000*(ii+1)∧EX (V.map ze) rr E2 X H):=⟨hd,zq,M9,zx,zy⟩;have S9:Hid (Sep w.heap.size w w9 (TL (C.cD rr) x d1 P (qu (.slice av V.length cv) V::[]))):=s9;clear zn s9 hd zq M9 zx zy HS2;unfold ptr at*
         go_wp2_with fail
         refine Calls.mono zA.out ?_;rintro e J0 ⟨mv,L,rfl,hK,JY,hown,b10⟩;obtain⟨am,cm,rfl⟩:∃am cm,mv=.slice am L.length cm:=by
          rcases hown.2 with⟨h1,h2⟩| ⟨g,cap,cur,h1,_⟩
          ·exact⟨none,0,by rw[h1,h2]⟩
          ·exact⟨_,_,h1⟩
         obtain⟨hlen,hfr⟩:=gH H9.out.2.1 H9.out.2.2.1 H9.out.2.2.2.2 hK;have zB:Hid (∀v∈V,(x.fresh v.1).isSome=true∧Wf v.1):=fun v hv=>by
          have h1:=hfr v hv;have h2:=H9.out.2.1.ts.sd.x.fs v.1 h1;have h3:=H9.out.2.1.ts.sd.x.pr;have h4:=HR.out;exact⟨h1,by omega,by omega⟩
         have kq:Hid _:=S9.out.below b10;have HV:Hid (V.length<=100000):=by
          have h1:=H9.out.2.1.ts.cnt.1;have h2:=H9.out.2.1.ts.low (by have:=HE2.out;have:=HL.out;omega);have h3:=lC H9.out.2.2.2.2;have h4:V.length=X.length:=by rw[<-h3,List.length_map]
          have:=HE2.out;have:=HL.out;show _<=_;omega
         clear zA S9 hK JY hown b10 hfr;rw[hlen];clear hlen;go_wp2
         go_loopg [13] V.length (fun kx s13 wr2=>∃(j:Nat),s13=.int .i64 (j:Int)∧j<=V.length∧V.length-j<=kx∧Hid (Sep w.heap.size w wr2 (TL (C.cD rr) x d1 P (qu (.slice av V.length cv) V::[]))))
         case atStart=>exact⟨0,rfl,Nat.zero_le _,Nat.le_refl _,kq.out⟩
         case round=>
          obtain⟨j,rfl,hj,MN,js⟩:=hrel;clear kq;by_cases hjl:j<V.length
          ·have sP:(j:Int)< (V.length:Int):=by omega
           obtain⟨v,hv⟩:∃v,V[j]? =some v:=⟨V[j],List.getElem?_eq_getElem hjl⟩;obtain⟨q1,_,q3⟩:=uV hv;obtain⟨rq,cq,ev,_,hrq,hcell⟩:=Sep.dY (Sep.gS js.out) (by omega);obtain rfl:av=some ⟨rq,0,none⟩:=by injection ev
           have y0:=hcell (j*6) (by omega);rw[q1]at y0;have sQ:Hid _:=jk js.out (zB.out v (List.mem_of_getElem? hv)).2;rw[(zB.out v (List.mem_of_getElem? hv)).1]at sQ;have JZ:IntKind.i64.wrap ((j:Int)+1)=((j+1:Nat):Int):=by rw[bp (by omega) (by have:=HV.out;omega)];rfl
           have zC:Hid (j<V.length):=hjl;clear hcell q1 q3 hv ev;generalize v.1=UK at*;unfold ptr at*
           go_wp2_with fail
           refine Calls.mono sQ.out ?_;rintro e Sn ⟨rfl,b11⟩;have wo:Hid _:=js.out.below b11;clear sQ js b11 y0 hrq;go_wp2
           go_roundg (V.length- (j+1))
           case measure=>have:=zC.out;omega
           case rel=>exact⟨j+1,by go_num,(by have:=zC.out;omega),Nat.le_refl _,wo.out⟩
          ·have sP:¬(j:Int)< (V.length:Int):=by omega
           go_wp2
           go_roundg (l.length- (ii+1))
           case measure=>omega
           case rel=>exact⟨ii+1,E2,by go_num,by omega,Nat.le_refl _,HE2.out,rr,x,d1,P,X,H,Sep.drop (Sep.gS js.out),H9.out.1,H9.out.2.1,H9.out.2.2.1,H9.out.2.2.2.1⟩
      ·intro _ _;intros;assumption
   ·have mJ:¬(ii:Int)< (l.length:Int):=by omega
    go_wp2;go_ret;exact⟨rfl,HS.out.sep.Br⟩
end Go.Proofs.YtceoeaemenhbhaaGreatDoor.P
end
