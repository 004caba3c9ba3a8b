/- Walks of the package cowtree and of what it stands on: lemmas, made short. -/
import Derived.Test.YtceoeaemenhbhabGreatDoorR13
import Derived.Test.YtceoeaemenhbhabGreatDoorR12
import Derived.Test.YtceoeaemenhbhabGreatDoorR10
import Derived.Deep.QuietTactic
import Derived.BigQuiet
set_option maxHeartbeats 16000000
set_option maxRecDepth 100000
set_option linter.unusedVariables false
set_option linter.unusedSimpArgs false
section
namespace Go.Proofs.YtceoeaemenhbhabGreatDoor.P
open N
section
variable {room:Nat}{d:Dk}{S S1 S2 S3:Dr}{h:Nat}{A B M:List (KT h)}{sA sB fy:List ByteArray}{w:KT h}
theorem sN (hA:A.length=sA.length)(hk:∀j,KP (A++w::B) (sA++sB) j)(R':List (KT h)){ss' t':List ByteArray}(e:ss'=sA.take (A.length-1)++t'):∀j,j<A.length-1->KP (A++R') ss' j:=fun j hj=>by
 rw[e];exact QY hA hk R' t' (by omega)
theorem qo (hA:A.length=sA.length)(hB:B.length=sB.length)(hk:∀j,KP (A++w::B) (sA++sB) j)(L':List (KT h)){ss' t':List ByteArray}(e:B≠[]->ss'=t'++sB.drop 1∧t'.length=L'.length):∀j,L'.length+1<=j->KP (L'++B) ss' j:=fun j hj=>by
 by_cases h0:B=[]
 ·subst h0;exact Nq (by simp;omega)
 ·obtain⟨e1,e2⟩:=e h0;obtain⟨y,B',rfl,_⟩:=ew (l:=B) (n:=B.length-1) (by have:=List.length_pos_iff.2 h0;omega);obtain⟨s1,lr,rfl,_⟩:=ew (l:=sB) (n:=B'.length) (by simpa using hB.symm);have:=QZ (w:=w) hA hk L' t' e2 (b:=j-L'.length) (by omega);rw[e1,List.drop_one,List.tail_cons]
  rwa [show L'.length+(j-L'.length)=j by omega]at this
theorem uO (hA:A.length=sA.length)(x:List ByteArray):sA++x=sA.take (A.length-1)++(sA.drop (A.length-1)++x):=by rw[<-List.append_assoc,List.take_append_drop]
theorem gL (hB:B.length=sB.length)(h0:B≠[])(x:List ByteArray):x++sB=(x++sB.take 1)++sB.drop 1∧(sB.take 1).length=1:=by
 have:=List.length_pos_iff.2 h0;exact⟨by rw[List.append_assoc,List.take_append_drop],by rw[List.length_take];omega⟩
theorem Jt (hr:room<=16384)(HJ:∀h,lz room d h){depth:Int}(hd:depth+1+h<24){f m:Nat}(C:Ctx room d S h A sA B sB)(hp:P0 S w.1)(t:BT h)(ho:Ob room d S h t)(hnd:(pX w.1++bj h t++(aV A++aV B)).Nodup)(hk:∀j,KP (A++w::B) (sA++sB) j)(hod:bO (dy A sA++(cj h t++jy (B.map fun u=>cj h u.2) sB)))(hsz:bR (sA++sB)<=240)(hsw:bW (aU h w.2)=true)
    (hf:3*((pX w.1++bj h t++(aV A++aV B)).length+2)+5<=f)(hb:Bd S ((pX w.1++bj h t++(aV A++aV B)).length+6+m)):
    ∃n e S',et (bp room d f) room S (aU (h+1) (bH (A++w::B) (sA++sB))) (A.length:Int) depth (aU h w.2) (aU h t)=some ((n,e),S')∧Er room d 4 S (pX w.1++bj h t++(aV A++aV B)) S' e∧
      (e=0->∃K' ss',Z5 room d 4 S (pX w.1++bj h t++(aV A++aV B)) (dy A sA++(cj h t++jy (B.map fun u=>cj h u.2) sB)) (bN A++(dW h t++bN B)) (bR (sA++sB)+21) n S' h K' ss'):=by
  obtain⟨sd,us,nd,is,vl⟩:=ho.facts;have hA:=C.hA;have hB:=C.hB;have hgd:(A.map Prod.fst++w.1::B.map Prod.fst).getD ((A.length:Int)).toNat 0=w.1:=by simp[List.getD_eq_getElem?_getD]
  have hgd':(aU (h+1) (bH (A++w::B) (sA++sB))).ks.getD ((A.length:Int)).toNat 0=w.1:=by
    rw[bQ];simp[List.getD_eq_getElem?_getD]
  have hsm:bW (aU (h+1) (bH (A++w::B) (sA++sB)))=true:=Bh hr sd _ _ (by simp;omega) (by omega) (fun u hu=>by
    simp only[List.mem_append,List.mem_cons]at hu
    rcases hu with hu|rfl|hu
    · exact .inr (C.us _ (List.mem_append_left _ (ql hu)))
    · exact hp
    · exact .inr (C.us _ (List.mem_append_right _ (ql hu))))
  have hlen:(aU (h+1) (bH (A++w::B) (sA++sB))).ks.length=A.length+B.length+1:=by rw[bQ];simp;omega
  have hXl:(bj h t).length<=(pX w.1++bj h t++(aV A++aV B)).length:=by simp only[List.length_append];omega
  have Nj:=(List.nodup_append.1 hnd).1;have qT:(bj h t++pX w.1).Perm (pX w.1++bj h t):=List.perm_append_comm;obtain⟨parts,keys,e,S1,t1,t2,t3⟩:=QX (m:=m) hr HJ t ho (depth:=depth+1) (f:=f) (by omega) (by omega) (hb.mono (by omega));unfold et;rw[if_neg (by rw[hb.ok,hsm,hsw,hlen];simp;omega),t1,hgd'];simp only;by_cases he:e=0
  · subst he;rw[if_neg (by simp)];rcases t3 rfl with⟨rfl,rfl,rfl,Wb,hen,hfl⟩| ⟨rfl,rfl,rfl,wt,zt,fi⟩| ⟨c1,c2,k,rfl,rfl,wc1,wc2,z1,z2,f1,f2,ic,F0,oi,en,ln⟩
    ·
      have F:=Ns (d:=d) sd hp;rw[if_pos rfl];simp only[eK];rw[if_neg (by simp),if_neg (by simp),wF hA hB [] [] (by first| (simp;done)| (simp;omega))];rw[hfl,List.nil_append]at hod⊢;rw[hen,List.nil_append];by_cases h0:A=[]
      · subst h0;have hsA:sA=[]:=List.length_eq_zero_iff.1 (by simpa using hA.symm);subst hsA;obtain⟨R,E,sf,hz⟩:=sL C t hnd Wb hod (by omega) F (.inr ⟨rfl,rfl⟩);have en0:(⟨false,[],List.map Prod.fst ([]:List (KT h))++[]++B.map Prod.fst,iq ([]++sB) (uv ([]:List (KT h)).length []) (uw ([]:List (KT h)).length (([]:List (KT h)).length+1) []) []⟩:Nd)=aU (h+1) (bH ([]++([]++B)) (sB.drop 1)):=by
          rw[bQ];have:=Nr (sB:=sB);simp only[List.length_nil]at this⊢;rw[this];rfl
        rw[en0];exact iT hr (HJ h) hd (m:=m) R (a:=0) (b:=1) (by first| (simp;done)| (simp;omega)) (by first| (simp;done)| (simp;omega)) (fun j hj=>by omega) (fun j hj=>qo (A:=[]) (sA:=[]) (w:=w) (t':=[]) rfl hB hk [] (fun _=>⟨rfl,rfl⟩) j (by simpa using hj)) E (by omega) (OI.sub sf) (by simp[bN]) (by omega) (by
          have:=E.Bc
          rw[bf,bf]
          simp only[List.length_append]at*
          simp[aV,gY]at*
          omega) (by omega) hf hb
      · have hpos:=List.length_pos_iff.2 h0;obtain⟨R,E,sf,hz⟩:=sL C t hnd Wb hod (by omega) F (.inl ⟨h0,rfl⟩);have en0:(⟨false,[],A.map Prod.fst++[]++B.map Prod.fst,iq (sA++sB) (uv A.length []) (uw A.length (A.length+1) []) []⟩:Nd)=aU (h+1) (bH (A++([]++B)) (sA.take (A.length-1)++sB)):=by
          rw[bQ,Q3 hA h0];simp
        rw[en0];refine iT hr (HJ h) hd (m:=m) R (a:=A.length-1) (b:=A.length+1) (by omega) (by first| (simp;done)| (simp;omega)) ?_ ?_ E (by omega) (OI.sub sf) (by simp[bN]) (by omega) (by
          rw[bf,bf]
          simp only[List.length_append]
          simp[aV,gY]
          omega) (by omega) hf hb
        · exact sN hA hk _ rfl
        · exact qo hA hB hk A (t':=sA.take (A.length-1)++sB.take 1) (fun hb0=>⟨(gL hB hb0 _).1,by rw[List.length_append,(gL hB hb0 []).2,List.length_take];omega⟩)
    ·
      obtain⟨q,e2,S2,k1,k2,k3⟩:=wG (d:=d) sd hp fi hb;rw[if_neg (by simp)];simp only[eK,k1];by_cases he2:e2=0
      · subst he2;obtain⟨F,hv⟩:=k3 rfl;obtain⟨R,E⟩:=uN C hp t ho hnd hod (by omega) wt zt F hv;rw[if_neg (by simp)];simp only;rw[if_neg (by simp),List.nil_append,wF hA hB [q] [] (by first| (simp;done)| (simp;omega))];have en0:(⟨false,[],A.map Prod.fst++[q]++B.map Prod.fst,iq (sA++sB) (uv A.length [q]) (uw A.length (A.length+1) [q]) []⟩:Nd)=aU (h+1) (bH (A++([(q,t)]++B)) (sA++sB)):=by
          rw[bQ,Q0 hA];simp
        rw[en0];have hpl:(aV (A++([(q,t)]++B))).length<=(pX w.1++bj h t++(aV A++aV B)).length+2:=by
          rw[bf,bf];simp only[List.length_append];simp[aV,gY,nV];omega
        have hen':bN (A++([(q,t)]++B))=bN A++(dW h t++bN B):=by simp[bN]
        have hoi:OI (dy A sA++(cj h t++jy (B.map fun u=>cj h u.2) sB)) (dy (A++([(q,t)]++B)) (sA++sB)):=by
          rw[List.singleton_append,eW hA];exact OI.refl _
        by_cases hg:dX (aU h w.2)<=dX (aU h t)
        · rw[if_pos ⟨by simp,hg⟩];exact iT hr (HJ h) hd (m:=m) R (a:=A.length) (b:=A.length+1) (by omega) (by first| (simp;done)| (simp;omega)) (fun j hj=>(hk j).grow (c:=(q,t)) (by omega) hg) (fun j hj=>(hk j).grow (c:=(q,t)) (by omega) hg) E (by omega) hoi hen' (by omega) hpl (by omega) hf hb
        · rw[if_neg (fun hc=>hg hc.2)];refine iT hr (HJ h) hd (m:=m) R (a:=A.length-1) (b:=A.length+2) (by omega) (by first| (simp;done)| (simp;omega)) ?_ ?_ E (by omega) hoi hen' (by omega) hpl (by omega) hf hb
          · exact sN hA hk _ (uO hA _)
          · intro j hj;have:=qo (ss':=sA++sB) hA hB hk (A++[(q,t)]) (t':=sA++sB.take 1) (fun hb0=>⟨(gL hB hb0 _).1,by rw[List.length_append,(gL hB hb0 []).2];simp;omega⟩) j (by simp;omega);simpa using this
      · rw[if_pos he2];simp only;rw[if_pos he2];exact⟨_,_,_,rfl,((k2.ext us Nj).ext C.us hnd).mono (by omega),fun h0=>absurd h0 he2⟩
    ·
      have G0:=((F0.ext (Y:=pX w.1) (yR hp) (qT.nodup_iff.2 Nj)).perm qT List.perm_append_comm).ext C.us hnd;have hp1:P0 S1 w.1:=by
        rcases hp with e|e
        · exact .inl e
        · by_cases hz:w.1=0
          · exact .inl hz
          · refine .inr (F0.yP e (fun hc=>?_)).1;obtain⟨n1,_,_⟩:=List.nodup_append.1 hnd;exact(List.nodup_append.1 n1).2.2 w.1 (by simp[pX,hz]) w.1 hc rfl
      have UR:Bd S1 (m+4):=F0.bd hb (by simp only[List.length_append]at*;omega);obtain⟨q1,e1,S2,k1,k2,k3⟩:=wG (d:=d) F0.ok hp1 f1 UR;rw[if_neg (by simp)];simp only[eK,k1];by_cases he1:e1=0
      · subst he1;obtain⟨F1,v1⟩:=k3 rfl;rw[if_neg (by simp)];have XT:Bd S2 (m+2):=F1.bd UR (by
          have:(pX w.1).length<=1:=by unfold pX;split<;>simp
          simp only[List.length_cons,List.length_nil]
          omega)
        obtain⟨q2,e2,S3,j1,j2,j3⟩:=wG (d:=d) (p:=0) F1.ok (.inl rfl) f2 XT;simp only[j1];by_cases he2:e2=0
        · subst he2;obtain⟨F2,v2⟩:=j3 rfl;have e0:pX 0=[]:=by simp[pX]
          rw[e0]at F2;have UT:bO (dy A sA++((cj h c1++(true,k)::cj h c2)++jy (B.map fun u=>cj h u.2) sB)):=oi _ _ hod;have hks:k.size<=16:=(UT.sz (true,k) (by simp)).2;have aap:bR (sA++k::sB)=bR (sA++sB)+(5+k.size):=by rw[dD,dD,bR];omega
          obtain⟨R,E⟩:=E8 C hp t c1 c2 hnd UT (by omega) ⟨wc1,z1⟩ ⟨wc2,z2⟩ (by rw[<-en];exact vl) ic F0 F1 v1 F2 v2;rw[if_neg (by simp)];simp only[List.nil_append];rw[if_neg (by simp),if_neg (by simp)];rw[show [q1]++[q2]=[q1,q2]from rfl,wF hA hB [q1,q2] [k] (by first| (simp;done)| (simp;omega))];have en0:(⟨false,[],A.map Prod.fst++[q1,q2]++B.map Prod.fst,iq (sA++sB) (uv A.length [q1,q2]) (uw A.length (A.length+1) [q1,q2]) [k]⟩:Nd)=aU (h+1) (bH (A++([(q1,c1),(q2,c2)]++B)) (sA++k::sB)):=by
            rw[bQ,Q2 hA];simp
          rw[en0];have hpl:(aV (A++([(q1,c1),(q2,c2)]++B))).length<=(pX w.1++bj h t++(aV A++aV B)).length+2:=by
            rw[bf,bf];simp only[List.length_append]at*;simp[aV,gY,nV]at*;omega
          refine iT hr (HJ h) hd (m:=m) R (a:=A.length-1) (b:=A.length+3) (by omega) (by first| (simp;done)| (simp;omega)) ?_ ?_ E (by omega) ?_ ?_ (by omega) hpl (by omega) hf hb
          · exact sN hA hk _ (uO hA _)
          · intro j hj;have:=qo (ss':=sA++k::sB) hA hB hk (A++[(q1,c1),(q2,c2)]) (t':=sA++[k]++sB.take 1) (fun hb0=>⟨by rw[<- (gL hB hb0 _).1];simp,by rw[List.length_append,(gL hB hb0 []).2];simp;omega⟩) j (by simp;omega);simpa using this
          · show OI _ (dy (A++(q1,c1)::(q2,c2)::B) (sA++k::sB));rw[qi hA];have:=oi.ctx (dy A sA) (jy (B.map fun u=>cj h u.2) sB);simpa using this
          · rw[en];simp[bN]
        · rw[if_pos he2];simp only;rw[if_pos he2];have G1:=(F1.ext F0.us (List.nodup_append.1 G0.nd).1).ext (fun q hq=>G0.us q (List.mem_append_right _ hq)) G0.nd;have e0:pX 0=[]:=by simp[pX]
          rw[e0]at j2;exact⟨_,_,_,rfl,((G0.trans G1).er (j2.ext (X:=[]) G1.us G1.nd)).mono (by omega),fun h0=>absurd h0 he2⟩
      · rw[if_pos he1];simp only;rw[if_pos he1];exact⟨_,_,_,rfl,(G0.er ((k2.ext F0.us (List.nodup_append.1 G0.nd).1).ext (fun q hq=>G0.us q (List.mem_append_right _ hq)) G0.nd)).mono (by omega),fun h0=>absurd h0 he1⟩
  · rw[if_pos he];exact⟨_,_,_,rfl,(((t2.ext (yR hp) (qT.nodup_iff.2 Nj)).perm qT).ext C.us hnd).mono (by omega),fun h0=>absurd h0 he⟩
end
end Go.Proofs.YtceoeaemenhbhabGreatDoor.P
end
section
namespace Go.Proofs.YtceoeaemenhbhabGreatDoor.P
open N
def _root_.Go.Proofs.YtceoeaemenhbhabGreatDoor.Dr.bt (S:Dr)(z:Int):Dr:=⟨S.x,S.nodes,S.cnt,S.taken,S.spare,z⟩
def mO (l:List En):List It:=l.map fun(x:En)=>((false,x.1):It)
section
variable {room:Nat}{d:Dk}{S S1 S2:Dr}{h:Nat}{A B:List (KT h)}{sA sB:List ByteArray}{w:KT h}{key:ByteArray}{ed:List En->List En}
theorem Us.bt {p:Int}(hp:Us S p)(z:Int):Us (S.bt z) p:=⟨hp.lo,hp.hi,hp.fr,hp.sp⟩
theorem Sd.bt (ok:Sd room S)(z:Int):Sd room (S.bt z):=⟨ok.x,ok.sp,ok.nf,ok.sn,ok.fi,ok.bz,ok.tk⟩
theorem Bd.bt {m:Nat}(hb:Bd S m)(z:Int):Bd (S.bt z) m:=⟨hb.cnt,hb.mM,hb.Bc,hb.Da⟩
theorem oJ.bt {C:List (Int×Nd)}(hC:oJ S d C)(z:Int):oJ (S.bt z) d C:=hC
theorem wH {z:It}{y:List It}:∀(l:List (List It)) (ss:List ByteArray),y∈l->z∈y->z∈iP l ss
 |[],_,hy,_=>by cases hy
 |a::l,[],hy,hz=>List.mem_flatten.2 ⟨y,hy,hz⟩
 |a::l,s::ss,hy,hz=>by
  rw[gK];rcases List.mem_cons.1 hy with rfl|hy
  ·exact List.mem_append_left _ hz
  ·exact List.mem_append_right _ (List.mem_cons_of_mem _ (wH l ss hy hz))
theorem iU:∀(h:Nat) (b:BT h) (x:En),x∈dW h b->(false,x.1)∈cj h b
 |0,l,x,hx=>List.mem_map_of_mem (f:=fun(x:En)=>((false,x.1):It)) hx
 |h+1,b,x,hx=>by
  obtain⟨K,ss,rfl⟩:=fh b;rw[oK]at hx;rw[Jn];obtain⟨l,hl,hxl⟩:=List.mem_flatten.1 hx;obtain⟨u,hu,rfl⟩:=List.mem_map.1 hl;exact wH _ ss (List.mem_map_of_mem (f:=fun u:KT h=>cj h u.2) hu) (iU h u.2 x hxl)
theorem sO {K:List (KT h)}{x:En}(hx:x∈bN K)(l:List (List It))(hl:∀y∈K.map (fun u=>cj h u.2),y∈l)(ss:List ByteArray):(false,x.1)∈iP l ss:=by
 obtain⟨l',hl',hxl⟩:=List.mem_flatten.1 hx;obtain⟨u,hu,rfl⟩:=List.mem_map.1 hl';exact wH _ ss (hl _ (List.mem_map_of_mem (f:=fun u:KT h=>cj h u.2) hu)) (iU h u.2 x hxl)
structure Loc (h:Nat)(b:BT h)(key:ByteArray)(L:List It)(es:List En)(R:List It)(EL ER:List En):Prop where
 fl:cj h b=L++(mO es++R)
 en:dW h b=EL++(es++ER)
 l1:L=[]∨∃L' s,L=L'++[(true,s)]
 r1:R=[]∨∃s R',R=(true,s)::R'
 l2:∀x∈L,x.1=true->bn key x.2=false
 r2:∀x∈R,x.1=true->bn key x.2=true
 el:∀x∈EL,(false,x.1)∈L
 er:∀x∈ER,(false,x.1)∈R
structure Nt (key:ByteArray)(ed:List En->List En):Prop where
 rg:∀es,Rg es->Rg (ed es)
 mem:∀es,Rg es->∀x∈ed es,(x.1=key∧1<=key.size∧key.size<=16)∨x∈es
 sz:∀es,Rg es->cD (ed es)<=cD es+58
theorem Ju {L R:List It}{es:List En}(ho:bO (L++(mO es++R)))(l1:L=[]∨∃L' s,L=L'++[(true,s)])(l2:∀x∈L,x.1=true->bn key x.2=false):∀x∈L,RI x (false,key):=fun x hx=>by
 have p1:=(List.pairwise_append.1 ho.up).1;by_cases hb:x.1=true
 ·simpa[RI,hb]using l2 x hx hb
 ·rcases l1 with rfl| ⟨L',s,rfl⟩
  ·cases hx
  ·rcases List.mem_append.1 hx with hx|hx
   ·have h1:=(List.pairwise_append.1 p1).2.2 x hx (true,s) (by simp);have h2:=l2 (true,s) (by simp) rfl;have h3:bn x.2 s=true:=by simpa[RI]using h1
    simp only[RI,hb,if_false,Bool.false_eq_true];exact gu h2 h3
   ·rw[List.mem_singleton.1 hx]at hb;exact absurd rfl hb
theorem Jv {L R:List It}{es:List En}(ho:bO (L++(mO es++R)))(r1:R=[]∨∃s R',R=(true,s)::R')(r2:∀x∈R,x.1=true->bn key x.2=true):∀y∈R,RI (false,key) y:=fun y hy=>by
 have p5:=(List.pairwise_append.1 (List.pairwise_append.1 ho.up).2.1).2.1;by_cases hb:y.1=true
 ·simpa[RI,hb]using r2 y hy hb
 ·rcases r1 with rfl| ⟨s,R',rfl⟩
  ·cases hy
  ·rcases List.mem_cons.1 hy with rfl|hy
   ·exact absurd rfl hb
   ·have h1:=(List.pairwise_cons.1 p5).1 y hy;have h2:bn key s=true:=r2 (true,s) (by simp) rfl;have h3:bn y.2 s=false:=by simpa[RI,hb]using h1
    simp only[RI,hb,if_false,Bool.false_eq_true];exact gu h3 h2
theorem sP {L R:List It}{es:List En}(E:Nt key ed)(ho:bO (L++(mO es++R)))(hv:∀x∈es,x.2.size<=40)(l1:L=[]∨∃L' s,L=L'++[(true,s)])(r1:R=[]∨∃s R',R=(true,s)::R')
    (l2:∀x∈L,x.1=true->bn key x.2=false)(r2:∀x∈R,x.1=true->bn key x.2=true):bO (L++(mO (ed es)++R)):=by
  obtain⟨p1,p2,p3⟩:=List.pairwise_append.1 ho.up;obtain⟨p4,p5,p6⟩:=List.pairwise_append.1 p2;have oe:bO (mO es):=ho.sub (List.Sublist.trans (List.sublist_append_left _ _) (List.sublist_append_right _ _));have hrg:Rg es:=bO.leaf oe hv;have rg':=E.rg es hrg;have mem':=E.mem es hrg;have hL:=Ju ho l1 l2;have hR:=Jv ho r1 r2;have hin:∀x∈mO (ed es),(x=(false,key)∧1<=key.size∧key.size<=16)∨x∈mO es:=fun x hx=>by
    obtain⟨y,hy,rfl⟩:=List.mem_map.1 hx;rcases mem' y hy with⟨e,hk⟩|e
    · exact .inl ⟨by rw[e],hk⟩
    · exact .inr (List.mem_map_of_mem (f:=fun(x:En)=>((false,x.1):It)) e)
  refine⟨List.pairwise_append.2 ⟨p1,List.pairwise_append.2 ⟨?_,p5,fun x hx y hy=>?_⟩,fun x hx y hy=>?_⟩,fun x hx=>?_⟩
  · unfold mO;rw[List.pairwise_map];exact rg'.up.imp fun {a b} hab=>by simpa[RI]using hab
  · rcases hin x hx with⟨rfl,_⟩|hx
    · exact hR y hy
    · exact p6 x hx y hy
  · rcases List.mem_append.1 hy with hy|hy
    · rcases hin y hy with⟨rfl,_⟩|hy
      · exact hL x hx
      · exact p3 x hx y (List.mem_append_left _ hy)
    · exact p3 x hx y (List.mem_append_right _ hy)
  · simp only[List.mem_append]at hx;rcases hx with hx|hx|hx
    · exact ho.sz x (by simp[hx])
    · rcases hin x hx with⟨rfl,hk⟩|hx
      · exact hk
      · exact ho.sz x (by simp[hx])
    · exact ho.sz x (by simp[hx])
theorem wI:∀ {A:List (KT h)} {sA:List ByteArray},A.length=sA.length->(dy A sA=[]∨∃L' s,dy A sA=L'++[(true,s)]∧s∈sA)
 |[],[],_=>.inl rfl
 |[],_::_,e=>by cases e
 |_::_,[],e=>by cases e
 |u::A,s::sA,e=>by
  right;have h1:dy (u::A) (s::sA)=cj h u.2++(true,s)::dy A sA:=rfl;rcases wI (A:=A) (sA:=sA) (by simpa using e)with h2| ⟨L',s',h2,h3⟩
  ·exact⟨cj h u.2,s,by rw[h1,h2],by simp⟩
  ·exact⟨cj h u.2++(true,s)::L',s',by rw[h1,h2];simp,by simp[h3]⟩
theorem uP {B:List (List It)}{sB:List ByteArray}(e:B.length=sB.length):jy B sB=[]∨∃s R',jy B sB=(true,s)::R'∧s∈sB:=by
 cases B with
 |nil=>cases sB with
  |nil=>exact .inl rfl
  |cons s sB=>cases e
 |cons x B=>cases sB with
  |nil=>cases e
  |cons s sB=>exact .inr ⟨s,_,iQ _ _ _ _,by simp⟩
theorem Loc.up {L R:List It}{es EL ER:List En}(H:Loc h w.2 key L es R EL ER)(hA:A.length=sA.length)(hB:B.length=sB.length)(ho:bO (dy (A++w::B) (sA++sB)))(k1:∀s∈sA,bn key s=false)(k2:∀s∈sB,bn key s=true):
  Loc (h+1) (bH (A++w::B) (sA++sB)) key (dy A sA++L) es (R++jy (B.map fun u=>cj h u.2) sB) (bN A++EL) (ER++bN B):=by
 have e1:cj (h+1) (bH (A++w::B) (sA++sB))=dy A sA++(cj h w.2++jy (B.map fun u=>cj h u.2) sB):=eW hA;rw[eW hA]at ho;refine⟨?_,?_,?_,?_,fun x hx hb=>?_,fun x hx hb=>?_,fun x hx=>?_,fun x hx=>?_⟩
 ·rw[e1,H.fl];simp
 ·rw[oK,cm,bS,H.en];simp
 ·rcases H.l1 with rfl| ⟨L',s,rfl⟩
  ·rw[List.append_nil];rcases wI hA with e| ⟨L',s,e,_⟩
   ·exact .inl e
   ·exact .inr ⟨L',s,e⟩
  ·exact .inr ⟨dy A sA++L',s,by simp⟩
 ·rcases H.r1 with rfl| ⟨s,R',rfl⟩
  ·rw[List.nil_append];rcases uP (B:=B.map fun u=>cj h u.2) (sB:=sB) (by simpa using hB)with e| ⟨s,R',e,_⟩
   ·exact .inl e
   ·exact .inr ⟨s,R',e⟩
  ·exact .inr ⟨s,R'++jy (B.map fun u=>cj h u.2) sB,rfl⟩
 ·rcases List.mem_append.1 hx with hx|hx
  ·
   rcases wI hA with h0| ⟨L',s,h0,hsA⟩
   ·rw[h0]at hx;cases hx
   ·have hs:(true,s)∈dy A sA:=by rw[h0];simp
    have hsm:bn key s=false:=k1 s hsA;rw[h0]at hx;rcases List.mem_append.1 hx with hx|hx
    ·rw[h0,List.append_assoc]at ho;have h1:=(List.pairwise_append.1 ho.up).2.2 x hx (true,s) (by simp);have h2:bn x.2 s=true:=by simpa[RI]using h1
     cases hc:bn key x.2 with
     |false=>rfl
     |true=>rw[cJ hc h2]at hsm;cases hsm
    ·rw[List.mem_singleton.1 hx];exact hsm
  ·exact H.l2 x hx hb
 ·rcases List.mem_append.1 hx with hx|hx
  ·exact H.r2 x hx hb
  ·rcases uP (B:=B.map fun u=>cj h u.2) (sB:=sB) (by simpa using hB)with e| ⟨s,R',e,hs⟩
   ·rw[e]at hx;cases hx
   ·rw[e]at hx;have h0:=k2 s hs;rcases List.mem_cons.1 hx with rfl|hx
    ·exact h0
    ·rw[e]at ho;have h1:=(List.pairwise_append.1 (List.pairwise_append.1 ho.up).2.1).2.1;have h2:=(List.pairwise_cons.1 h1).1 x hx;have h3:bn s x.2=true:=by simpa[RI,hb]using h2
     exact cJ h0 h3
 ·rcases List.mem_append.1 hx with hx|hx
  ·exact List.mem_append_left _ (sO hx _ (fun y hy=>hy) sA)
  ·exact List.mem_append_right _ (H.el x hx)
 ·rcases List.mem_append.1 hx with hx|hx
  ·exact List.mem_append_left _ (H.er x hx)
  ·exact List.mem_append_right _ (sO hx _ (fun y hy=>List.mem_cons_of_mem _ hy) sB)
theorem Loc.lo {b:BT h}{L R:List It}{es EL ER:List En}(H:Loc h b key L es R EL ER)(ho:bO (cj h b)):(∀x∈EL,bn x.1 key=true)∧∀x∈ER,bn key x.1=true:=by
 rw[H.fl]at ho;exact⟨fun x hx=>by simpa[RI]using Ju ho H.l1 H.l2 _ (H.el x hx),fun x hx=>by simpa[RI]using Jv ho H.r1 H.r2 _ (H.er x hx)⟩
end
end Go.Proofs.YtceoeaemenhbhabGreatDoor.P
end
section
namespace Go.Proofs.YtceoeaemenhbhabGreatDoor.P
open N
section
variable {room:Nat}{d:Dk}{S S1 S2:Dr}{h:Nat}{A B:List (KT h)}{sA sB:List ByteArray}{w:KT h}{key:ByteArray}{ed:List En->List En}
theorem wJ:∀ {ss:List ByteArray},ss.Pairwise (fun x y=>bn x y=true)->∃sA sB,ss=sA++sB∧dt ss key=sA.length∧(∀s∈sA,bn key s=false)∧∀s∈sB,bn key s=true
 |[],_=>⟨[],[],rfl,rfl,(fun _ hc=>by cases hc),(fun _ hc=>by cases hc)⟩
 |s::ss,hp=>by
  obtain⟨p1,p2⟩:=List.pairwise_cons.1 hp;cases hs:bn key s with
  |false=>
   obtain⟨sA,sB,r1,r2,r3,r4⟩:=wJ (ss:=ss) p2;refine⟨s::sA,sB,by rw[r1];rfl,?_,fun x hx=>?_,r4⟩
   ·unfold dt at r2⊢;rw[List.countP_cons_of_pos (by simp[hs]),r2];rfl
   ·rcases List.mem_cons.1 hx with rfl|hx
    ·exact hs
    ·exact r3 x hx
  |true=>
   have hall:∀x∈s::ss,bn key x=true:=fun x hx=>by
    rcases List.mem_cons.1 hx with rfl|hx
    ·exact hs
    ·exact cJ hs (p1 x hx)
   refine⟨[],s::ss,rfl,?_,(fun _ hc=>by cases hc),hall⟩;unfold dt;rw[List.countP_eq_zero.2 (fun x hx=>by simp[hall x hx])];rfl
theorem kv {K:List (KT h)}{ss:List ByteArray}(hl:ss.length<=K.length)(ho:bO (dy K ss)):ss.Pairwise (fun x y=>bn x y=true):=by
 have h1:=ho.sub (gX (K.map fun u=>cj h u.2) ss (by simpa using hl));have h2:=h1.up;rw[List.pairwise_map]at h2;exact h2.imp fun {a b} hab=>by simpa[RI]using hab
structure Gb (room:Nat)(d:Dk)(S:Dr)(h:Nat)(b:BT h):Prop where
 sd:Sd room S
 wl:Wl h b
 sz:bP h b<=240
 us:∀p∈bj h b,Us S p
 nd:(bj h b).Nodup
 is:oJ S d (lq h b)
 od:bO (cj h b)
 vl:∀x∈dW h b,x.2.size<=40
theorem Gb.rw {K:List (KT h)}{ss:List ByteArray}(G:Gb room d S (h+1) (bH K ss)):Rw room d S h K ss:=⟨G.sd,G.wl.2.2,G.us,G.nd,G.is,G.od,G.vl,by have:4+bR ss<=240:=G.sz;omega,.inl G.wl.1⟩
theorem Gb.sm (hr:room<=16384){b:BT h}(G:Gb room d S h b):bW (aU h b)=true:=by
 cases h with
 |zero=>exact ku b (Nat.le_trans G.sz (by omega))
 |succ h=>
  obtain⟨K,ss,rfl⟩:=fh b;exact G.rw.sm hr
def E9 (d:Dk)(key:ByteArray)(es0:List En):Nat->Dr->Nd->Int->Prop
 |0,_,_,_=>True
 |f+1,S,n,depth=>if n.leaf=true then n.es=es0 else((S.read d (n.ks.getD (dt n.ss key) 0) (depth+1)).2=0->E9 d key es0 f S (S.read d (n.ks.getD (dt n.ss key) 0) (depth+1)).1 (depth+1))
structure OL (room:Nat)(d:Dk)(c:Nat)(S:Dr)(X:List Int)(F:List It)(E:List En)(n:Nd)(S':Dr)(h:Nat)(t:BT h):Prop where
 n:n=aU h t
 ob:Ob room d S' h t
 fm:Fm room d c S X S' (bj h t)
 oi:OI F (cj h t)
 en:dW h t=E
 ln:(bj h t).length<=X.length+2*h
theorem step_ok (hr:room<=16384)(HJ:∀h,lz room d h){depth z:Int}(hd:depth+1+h<24){f m c:Nat}(C:Ctx room d S h A sA B sB)(hp:P0 S w.1)(us:∀p∈bj h w.2,Us S p)(hnd:(pX w.1++bj h w.2++(aV A++aV B)).Nodup)(hk:∀j,KP (A++w::B) (sA++sB) j)(hsz:bR (sA++sB)<=236)(hsw:bW (aU h w.2)=true)
    {F:List It}{E:List En}{n:Nd}{t:BT h}(R:OL room d c (S.bt z) (bj h w.2) F E n S1 h t)(hod:bO (dy A sA++(F++jy (B.map fun u=>cj h u.2) sB)))(hc:c<=4*h)
    (hf:3*((pX w.1++bj h w.2++(aV A++aV B)).length+2*h+2)+5<=f)(hb:Bd S ((pX w.1++bj h w.2++(aV A++aV B)).length+6*h+6+m)):
    ∃n' e S',et (bp room d f) room S1 (aU (h+1) (bH (A++w::B) (sA++sB))) (A.length:Int) depth (aU h w.2) n=some ((n',e),S')∧Er room d (c+4) (S.bt z) (pX w.1++bj h w.2++(aV A++aV B)) S' e∧
      (e=0->∃K' ss',OL room d (c+4) (S.bt z) (pX w.1++bj h w.2++(aV A++aV B)) (dy A sA++(F++jy (B.map fun u=>cj h u.2) sB)) (bN A++(E++bN B)) n' S' (h+1) (bH K' ss')∧bR ss'<=bR (sA++sB)+21):=by
  obtain⟨rfl,ob,fm,oi,en,ln⟩:=R;have eX:(bj h w.2++(pX w.1++(aV A++aV B))).Perm (pX w.1++bj h w.2++(aV A++aV B)):=by
    rw[<-List.append_assoc];exact List.Perm.append_right _ List.perm_append_comm
  have eX2:(bj h t++(pX w.1++(aV A++aV B))).Perm (pX w.1++bj h t++(aV A++aV B)):=by
    rw[<-List.append_assoc];exact List.Perm.append_right _ List.perm_append_comm
  have Z6:∀p∈pX w.1++(aV A++aV B),Us (S.bt z) p:=fun p hp'=>by
    rcases List.mem_append.1 hp' with h1|h1
    · exact(yR hp p h1).bt z
    · exact(C.us p h1).bt z
  have Z7:=eX.nodup_iff.2 hnd;have Q7:∀p∈pX w.1++(aV A++aV B),p∉bj h w.2:=fun p h1 h2=>(List.nodup_append.1 Z7).2.2 p h2 p h1 rfl;have F1:=(fm.ext Z6 Z7).perm eX eX2;have C1:Ctx room d S1 h A sA B sB:=⟨C.hA,C.hB,C.wl,fun q hq=>(fm.yP ((C.us q hq).bt z) (Q7 q (List.mem_append_right _ hq))).1,fm.Nh (C.is.bt z) (by rw[List.map_append];exact fun q hq=>(C.us q hq).bt z) (by rw[List.map_append];exact fun q hq=>Q7 q (List.mem_append_right _ hq)),C.vl⟩;have hp1:P0 S1 w.1:=by
    by_cases h0:w.1=0
    · exact .inl h0
    · have hm:w.1∈pX w.1:=by simp[pX,h0]
      exact .inr (fm.yP (Z6 _ (List.mem_append_left _ hm)) (Q7 _ (List.mem_append_left _ hm))).1
  have hl1:(pX w.1++bj h t++(aV A++aV B)).length<=(pX w.1++bj h w.2++(aV A++aV B)).length+2*h:=by
    simp only[List.length_append]at*;omega
  obtain⟨n',e,S',q1,q2,q3⟩:=Jt (m:=m) hr HJ hd C1 hp1 t ob F1.nd hk (oi _ _ hod) (by omega) hsw (f:=f) (by omega) (F1.bd (hb.bt z) (by omega));refine⟨n',e,S',q1,F1.er q2,fun he=>?_⟩;obtain⟨K',ss',P⟩:=q3 he;refine⟨K',ss',⟨P.n,⟨P.rw,P.kp,by have:=P.sz;show bR ss'<=257;omega⟩,?_,?_,?_,?_⟩,P.sz⟩
  · exact F1.trans P.fm
  · exact(oi.ctx _ _).trans P.oi
  · rw[oK,P.en,en]
  · have:=P.ln;show(aV K').length<=_;omega
theorem fH (hr:room<=16384)(EH:Nt key ed){f:Nat}(l:List En)(depth:Int)(f0:Nat)(sd:Sd room S)(od:bO (cj 0 l))(vl:∀x∈l,x.2.size<=40)(hz:cD l<=240)(hf0:0<f0):
  ∃L es R EL ER,Loc 0 l key L es R EL ER∧E9 d key es f0 S (aU 0 l) depth∧∃n ch e S',bu (bp room d f) room d key ed f0 S (aU 0 l) depth=some ((n,ch,e),S')∧Er room d (4*0) (S.bt (depth+(0:Nat))) (bj 0 l) S' e∧(e=0->ch=!decide (ed es=es)∧(ch=false->S'=S.bt (depth+(0:Nat)))∧(ch=true->∃t,OL room d (4*0) (S.bt (depth+(0:Nat))) (bj 0 l) (L++(mO (ed es)++R)) (EL++(ed es++ER)) n S' 0 t)):=by
 obtain⟨f0,rfl⟩:∃f',f0=f'+1:=⟨f0-1,by omega⟩;have hrg:Rg l:=bO.leaf od vl;refine⟨[],l,[],[],[],⟨?_,?_,.inl rfl,.inl rfl,(fun _ hc=>by cases hc),(fun _ hc=>by cases hc),(fun _ hc=>by cases hc),(fun _ hc=>by cases hc)⟩,rfl,?_⟩
 ·show mO l=[]++(mO l++[]);simp
 ·show l=[]++(l++[]);simp
 refine⟨aU 0 (ed l),!decide (ed l=l),0,S.bt depth,?_,fun hc=>absurd rfl hc,fun _=>⟨rfl,fun _=>by simp,fun _=>⟨ed l,rfl,⟨sd.bt _,?_,?_,?_⟩,?_,?_,?_,?_⟩⟩⟩
 ·rw[bu,if_neg (by rw[ku l (Nat.le_trans (show bP 0 l<=240 from hz) (by omega))];simp)];rfl
 ·have o:bO ([]++(mO l++[])):=by rw[List.nil_append,List.append_nil];exact od
  have:=sP (L:=[]) (R:=[]) (es:=l) EH o vl (.inl rfl) (.inl rfl) (fun _ hc=>by cases hc) (fun _ hc=>by cases hc);rw[List.nil_append,List.append_nil]at this;exact this
 ·exact fun x hx=>(cH.1 ((EH.rg l hrg).may x hx)).2.2
 ·have h1:=EH.sz l hrg;have h2:cD l<=240:=hz;omega
 ·simp only[Int.natCast_zero,Int.add_zero];exact Fm.refl (sd.bt _) (fun p hc=>by cases hc) List.nodup_nil
 ·show OI ([]++(mO (ed l)++[])) (mO (ed l));simp only[List.nil_append,List.append_nil];exact OI.refl _
 ·show ed l=[]++(ed l++[]);simp
 ·show 0<=0+_;omega
theorem sQ (hr:room<=16384)(HJ:∀h,lz room d h)(EH:Nt key ed){f m:Nat}:∀(h:Nat) (b:BT h) (depth:Int) (f0:Nat),Gb room d S h b->depth+h<24->h<f0->3*((bj h b).length+2*h+2)+5<=f->Bd S ((bj h b).length+6*h+6+m)->
  ∃L es R EL ER,Loc h b key L es R EL ER∧E9 d key es f0 S (aU h b) depth∧∃n ch e S',bu (bp room d f) room d key ed f0 S (aU h b) depth=some ((n,ch,e),S')∧Er room d (4*h) (S.bt (depth+h)) (bj h b) S' e∧(e=0->ch=!decide (ed es=es)∧(ch=false->S'=S.bt (depth+h))∧(ch=true->∃t,OL room d (4*h) (S.bt (depth+h)) (bj h b) (L++(mO (ed es)++R)) (EL++(ed es++ER)) n S' h t))
 |0,b,depth,f0,G,hd,hf0,hf,hb=>fH hr EH b depth f0 G.sd G.od G.vl G.sz hf0
 |h+1,b,depth,f0,G,hd,hf0,hf,hb=>by
  obtain⟨f0,rfl⟩:∃f',f0=f'+1:=⟨f0-1,by omega⟩;obtain⟨K,ss,rfl⟩:=fh b;have R0:=G.rw;have hl:ss.length+1=K.length:=G.wl.1;obtain⟨sA,sB,rfl,hch,k1,k2⟩:=wJ (key:=key) (kv (by omega) R0.od);obtain⟨A,w,B,rfl,hA⟩:∃A w B,K=A++w::B∧A.length=sA.length:=by
   obtain⟨w,B,r1,_⟩:=ew (l:=K.drop sA.length) (n:=K.length-sA.length-1) (by rw[List.length_drop];simp at hl;omega);exact⟨K.take sA.length,w,B,by rw[<-r1,List.take_append_drop],by rw[List.length_take];simp at hl;omega⟩
  have hB:B.length=sB.length:=by simp at hl;omega
  have hwz:=R0.wl w (by simp);have OJ:∀p∈dN w++(aV A++aV B),Us S p:=fun p hp=>R0.us p (by
   rw[bf,bD]
   simp only[List.mem_append]at hp⊢
   rcases hp with hp|hp|hp
   ·exact .inr (.inl hp)
   ·exact .inl hp
   ·exact .inr (.inr hp))
  have hperm:(dN w++(aV A++aV B)).Perm (aV (A++w::B)):=by
   rw[bf,bD,<-List.append_assoc,<-List.append_assoc];exact List.Perm.append_right _ List.perm_append_comm
  have hw0:w.1≠0:=by
   have:=(OJ w.1 (by simp[dN,nV])).lo;omega
  have OM:pX w.1=[w.1]:=by simp[pX,hw0]
  have eX:pX w.1++bj h w.2++(aV A++aV B)=dN w++(aV A++aV B):=by rw[OM,bX];rfl
  have Q8:(pX w.1++bj h w.2++(aV A++aV B)).Nodup:=by rw[eX];exact hperm.nodup_iff.2 R0.nd
  have Nu:(pX w.1++bj h w.2++(aV A++aV B)).length=(bj (h+1) (bH (A++w::B) (sA++sB))).length:=by
   rw[eX];exact hperm.length_eq
  have hlw:(bj h w.2).length<=(bj (h+1) (bH (A++w::B) (sA++sB))).length:=by
   rw[<-Nu];simp only[List.length_append];omega
  have Wc:bO (dy A sA++(cj h w.2++jy (B.map fun u=>cj h u.2) sB)):=by rw[<-eW hA];exact R0.od
  have Gw:Gb room d S h w.2:=⟨G.sd,hwz.1,hwz.2,fun p hp=>OJ p (by simp[bX,hp]),by
    have:=(List.nodup_append.1 (List.nodup_append.1 Q8).1).2.1
    exact this,fun x hx=>R0.is x (by rw[cY,dF];simp[nV,hx]),Wc.sub (List.Sublist.trans (List.sublist_append_left _ _) (List.sublist_append_right _ _)),fun x hx=>R0.vl x (by rw[cm,bS];simp[hx])⟩
  obtain⟨L,es,R,EL,ER,loc,lfp,n,ch,e,S1,t1,t2,t3⟩:=sQ hr HJ EH (f:=f) (m:=m) h w.2 (depth+1) f0 Gw (by omega) (by omega) (by omega) (hb.mono (by omega));have loc':=Loc.up loc hA hB R0.od k1 k2;have hgd:(aU (h+1) (bH (A++w::B) (sA++sB))).ks.getD (dt (aU (h+1) (bH (A++w::B) (sA++sB))).ss key) 0=w.1:=by
   rw[bQ];simp only[hch];rw[<-hA];simp[List.getD_eq_getElem?_getD]
  have hci:((dt (aU (h+1) (bH (A++w::B) (sA++sB))).ss key:Nat):Int)=(A.length:Int):=by
   rw[bQ];simp only[hch];omega
  have hrd:S.read d w.1 (depth+1)=(aU h w.2,0):=jW R0.is (by simp) (by omega);refine⟨_,es,_,_,_,loc',?_,?_⟩
  ·rw[E9,if_neg (by rw[bQ];simp),hgd,hrd];exact fun _=>lfp
  rw[bu,if_neg (by rw[G.sm hr];simp),if_neg (by rw[bQ];simp),if_neg (by
   rw[bQ]
   simp only[hch,List.length_map,List.length_append,List.length_cons]
   omega),hgd,hrd,if_neg (by simp)]
  simp only[t1];have hde:depth+1+(h:Int)=depth+((h+1:Nat):Int):=by omega
  by_cases he:e=0
  ·subst he;obtain⟨c1,c2,c3⟩:=t3 rfl;cases ch with
   |false=>
    rw[if_pos (by simp)];exact⟨_,_,_,_,rfl,fun hc=>absurd rfl hc,fun _=>⟨c1,fun _=>by rw[c2 rfl,hde],fun hc=>by cases hc⟩⟩
   |true=>
    rw[if_neg (by simp),hci];obtain⟨t,CR⟩:=c3 rfl;have XW:bO (dy A sA++((L++(mO (ed es)++R))++jy (B.map fun u=>cj h u.2) sB)):=by
     have:=sP EH (by have:=Wc;rw[loc.fl]at this;simpa using this) (fun x hx=>Gw.vl x (by rw[loc.en];simp[hx])) loc'.l1 loc'.r1 loc'.l2 loc'.r2;simpa using this
    obtain⟨n',e',S',p1,p2,p3⟩:=step_ok (m:=m) hr HJ (depth:=depth) (z:=depth+1+h) (by omega) ⟨hA,hB,fun u hu=>R0.wl u (by simp only[List.mem_append]at hu;rcases hu with hu|hu<;>simp[hu]),fun q hq=>OJ q (List.mem_append_right _ hq),fun x hx=>R0.is x (by
      rw[cY,dF]
      simp only[List.mem_append]at hx⊢
      rcases hx with hx|hx
      ·exact .inl hx
      ·exact .inr (.inr hx)),fun x hx=>R0.vl x (by
      rw[cm,bS]
      simp only[List.mem_append]at hx⊢
      rcases hx with hx|hx
      ·exact .inl hx
      ·exact .inr (.inr hx))⟩ (.inr (OJ w.1 (by simp[bX]))) Gw.us Q8 G.wl.2.1 (by have:4+bR (sA++sB)<=240:=G.sz;omega) (Gw.sm hr) CR XW (by omega) (f:=f) (by rw[Nu];omega) (hb.mono (by rw[Nu];omega))
    rw[p1];refine⟨_,_,_,_,rfl,by rw[<-hde];exact(p2.perm (by rw[eX];exact hperm)).mono (by omega),fun he'=>⟨c1,(fun hc=>by cases hc),fun _=>?_⟩⟩;obtain⟨K',ss',P,_⟩:=p3 he';refine⟨bH K' ss',P.n,P.ob,?_,?_,?_,?_⟩
    ·have:=P.fm;rw[hde]at this;exact(this.perm (by rw[eX];exact hperm) (List.Perm.refl _)).mono (by omega)
    ·have:=P.oi;simpa using this
    ·rw[P.en];simp
    ·have:=P.ln;rw[Nu]at this;exact this
  ·rw[if_pos (.inl he)];refine⟨_,_,_,_,rfl,?_,fun h0=>absurd h0 he⟩;have qW:(bj h w.2++(pX w.1++(aV A++aV B))).Perm (pX w.1++bj h w.2++(aV A++aV B)):=by
    rw[<-List.append_assoc];exact List.Perm.append_right _ List.perm_append_comm
   rw[<-hde];refine((t2.ext (Y:=pX w.1++(aV A++aV B)) (fun q hq=>?_) (qW.nodup_iff.2 Q8)).perm (qW.trans (by rw[eX];exact hperm))).mono (by omega);exact(OJ q (by rw[<-eX];exact qW.mem_iff.1 (List.mem_append_right _ hq))).bt _
end
end Go.Proofs.YtceoeaemenhbhabGreatDoor.P
end
section
namespace Go.Proofs.YtceoeaemenhbhabGreatDoor.P
open N
section
variable {room:Nat}{d:Dk}{S S1 S2:Dr}{h:Nat}{key:ByteArray}{ed:List En->List En}
structure Gt (room:Nat)(d:Dk)(S:Dr)(h:Nat)(u:KT h):Prop where
 g:Gb room d S h u.2
 us:Us S u.1
 ni:u.1∉bj h u.2
 rd:S.vw d u.1=(aU h u.2,0)
theorem Gt.Jw {u:KT h}(G:Gt room d S h u):(∀p∈dN u,Us S p)∧(dN u).Nodup∧oJ S d (nV u):=by
 refine⟨fun p hp=>?_,?_,fun x hx=>?_⟩
 ·rcases List.mem_cons.1 hp with rfl|hp
  ·exact G.us
  ·exact G.g.us p hp
 ·exact List.nodup_cons.2 ⟨G.ni,G.g.nd⟩
 ·rcases List.mem_cons.1 hx with rfl|hx
  ·exact G.rd
  ·exact G.g.is x hx
theorem Gt.of {u:KT h}(sd:Sd room S)(wl:Wl h u.2)(sz:bP h u.2<=240)(us:∀p∈dN u,Us S p)(nd:(dN u).Nodup)(is:oJ S d (nV u))(od:bO (cj h u.2))(vl:∀x∈dW h u.2,x.2.size<=40):Gt room d S h u:=
 ⟨⟨sd,wl,sz,fun p hp=>us p (List.mem_cons_of_mem _ hp),(List.nodup_cons.1 nd).2,fun x hx=>is x (List.mem_cons_of_mem _ hx),od,vl⟩,us _ (List.mem_cons_self ..),(List.nodup_cons.1 nd).1,is _ (List.mem_cons_self ..)⟩
theorem uQ (u:KT h)(ss:List ByteArray)(j:Nat):KP [u] ss j:=by
 rw[nZ];refine⟨fun a b k h1 h2=>?_,fun i a b k e1 e2 h1 h2=>?_⟩
 ·rw[List.getElem?_eq_none (by simp)]at h2;cases h2
 ·simp at e2;omega
def UU:(h:Nat)->BT h->Prop
 |0,_=>True
 |h+1,t=>t.1.length≠1
theorem oc:∀(h:Nat) (u:KT h) (S:Dr) (f:Nat) (depth:Int) (m:Nat),Gt room d S h u->S.bot=depth+h->0<=depth->depth+h<24->h<f->Bd S ((dN u).length+m)->
  ∃h' u' S',dE d f S u.1 depth=some ((u'.1,0),S')∧Gt room d S' h' u'∧UU h' u'.2∧Fm room d 0 S (dN u) S' (dN u')∧dW h' u'.2=dW h u.2∧h'<=h
 |0,u,S,f,depth,m,G,Nv,h0,hd,hf,hb=>by
  obtain⟨f,rfl⟩:∃f',f=f'+1:=⟨f-1,by omega⟩;have hr:S.read d u.1 depth=(aU 0 u.2,0):=by rw[S.gA d _ _ (by omega)];exact G.rd
  refine⟨0,u,S,?_,G,trivial,Fm.refl G.g.sd G.Jw.1 G.Jw.2.1,rfl,Nat.le_refl _⟩;rw[dE,if_neg (by rw[hb.ok];simp),hr,if_neg (by simp),if_neg (by simp[aU]),if_neg (by omega)]
 |h+1,u,S,f,depth,m,G,Nv,h0,hd,hf,hb=>by
  obtain⟨f,rfl⟩:∃f',f=f'+1:=⟨f-1,by omega⟩;have hr:S.read d u.1 depth=(aU (h+1) u.2,0):=by rw[S.gA d _ _ (by omega)];exact G.rd
  by_cases h1:u.2.1.length=1
  ·obtain⟨p,b⟩:=u;obtain⟨K,ss,rfl⟩:=fh b;have h1:K.length=1:=h1;obtain⟨v,rfl⟩:=sH h1;have hss:ss=[]:=by have:=G.g.wl.1;simpa[bH]using this
   subst hss;have R:=G.g.rw;have hD:Fm room d 0 S [p] (S.drop p) []:=qj G.g.sd G.us;have eP:aV [v]=dN v:=by simp[aV,gY]
   have eC:gY [v]=nV v:=by simp[gY]
   have Z8:dN (p,bH [v] [])=[p]++dN v:=by
    rw[<-eP];rfl
   have Z9:∀q∈dN v,Us S q:=by rw[<-eP];exact R.us
   have nv:p∉dN v:=by rw[<-eP];exact G.ni
   have E:=hD.ext (Y:=dN v) Z9 (by
    rw[List.singleton_append]
    exact List.nodup_cons.2 ⟨nv,by rw[<-eP];exact R.nd⟩)
   rw[List.nil_append]at E;have hwv:=R.wl v (by simp);have eF:dy [v] []=cj h v.2:=by simp[dy,iP]
   have Gv:Gt room d (S.drop p) h v:=Gt.of E.ok hwv.1 hwv.2 E.us E.nd (hD.Nh (by rw[<-eC];exact R.is) Z9 (fun q hq hc=>nv (by rw[List.mem_singleton.1 hc]at hq;exact hq))) (by rw[<-eF];exact R.od) (fun x hx=>R.vl x (by simpa[bN]using hx));have hbv:Bd (S.drop p) ((dN v).length+m):=by
    refine E.bd hb ?_;rw[Z8];simp only[List.length_append,List.length_cons,List.length_nil];omega
   obtain⟨h',u',S',q1,q2,q3,q4,q5,q6⟩:=oc h v (S.drop p) f (depth+1) m Gv (by rw[E.bot,Nv];omega) (by omega) (by omega) (by omega) hbv;refine⟨h',u',S',?_,q2,q3,?_,?_,by omega⟩
   ·rw[dE,if_neg (by rw[hb.ok];simp),hr,if_neg (by simp),if_pos (by rw[bQ];simp)];rw[bQ];exact q1
   ·rw[Z8];exact E.trans q4
   ·rw[q5];show _=bN [v];simp[bN]
  ·refine⟨h+1,u,S,?_,G,h1,Fm.refl G.g.sd G.Jw.1 G.Jw.2.1,rfl,Nat.le_refl _⟩;rw[dE,if_neg (by rw[hb.ok];simp),hr,if_neg (by simp),if_neg (by
    obtain⟨p,b⟩:=u
    obtain⟨K,ss,rfl⟩:=fh b
    rw[bQ]
    have h1:¬K.length=1:=h1
    simpa using h1),if_neg (by omega)]
theorem Fa (hr:room<=16384)(t:BT h)(ho:Ob room d S h t)(wt:Wl h t)(fi:cC (aU h t)=true)(hne:(aU h t).es≠[]∨(aU h t).ks≠[])(sm:bW (aU h t)=true)(od:bO (cj h t)){f m:Nat}(hf:3<=f)(hb:Bd S ((bj h t).length+6+m)):
  ∃n e S',et (bp room d f) room S ⟨false,[],[0],[]⟩ 0 (-1) nd0 (aU h t)=some ((n,e),S')∧Er room d 0 S (bj h t) S' e∧
   (e=0->∃q,n=aU (h+1) (bH [(q,t)] [])∧Gt room d S' h (q,t)∧Fm room d 2 S (bj h t) S' (dN (q,t))):=by
 obtain⟨sd,us,nd,is,vl⟩:=ho.facts;have hfi:=fi;unfold cC at hfi;rw[Bool.and_eq_true,decide_eq_true_eq]at hfi;have zt:bP h t<=240:=hfi.2;have hfit:bV (bp room d f) S (aU h t) (-1+1)=some (([aU h t],[],0),S):=by
  unfold bV;rw[if_neg (fun hc=>by rcases hne with e|e;exact e hc.1;exact e hc.2),if_neg (by rw[sm];simp),if_neg (by rw[hfi.1];simp),if_pos fi]
 have hs0:bW nd0=true:=by decide
 have hs1:bW (⟨false,[],[0],[]⟩:Nd)=true:=by decide
 obtain⟨q,e2,S2,k1,k2,k3⟩:=wG (d:=d) (p:=0) sd (.inl rfl) fi hb;unfold et;rw[if_neg (by rw[hb.ok,hs0,hs1];simp),hfit];simp only;rw[if_neg (by simp),if_neg (by simp)];have hg:([(0:Int)]:List Int).getD (0:Int).toNat 0=0:=rfl;rw[hg];simp only[eK,k1];by_cases he:e2=0
 ·subst he;obtain⟨F,hv⟩:=k3 rfl;rw[if_neg (by simp)];simp only;have esw:fO ⟨false,[],[0],[]⟩ 0 (0+1) ([]++[q]) []=aU (h+1) (bH [(q,t)] []):=by
   rw[bQ];simp[fO,swB,iq,uv,uw]
  have hw:P0 S ((0,t):KT h).1:=.inl rfl;have e0:pX ((0,t):KT h).1=[]:=by simp[pX]
  have e0':pX (0:Int)=[]:=by simp[pX]
  obtain⟨R,E⟩:=uN (w:=((0,t):KT h)) (A:=[]) (B:=[]) (sA:=[]) (sB:=[]) ⟨rfl,rfl,(fun _ hc=>by cases hc),(fun _ hc=>by cases hc),(fun _ hc=>by cases hc),(fun _ hc=>by cases hc)⟩ hw t ho (by rw[e0];simpa[aV,gY]using nd) (by
   show bO ([]++(cj h t++[]))
   rw[List.nil_append,List.append_nil];exact od) (by simp[bR]) wt zt F hv
  have E':Fm room d 2 S (bj h t) S2 (dN (q,t)):=by
   have e1:aV ([]++([(q,t)]++[]))=dN (q,t):=by simp[aV,gY]
   have e2:pX ((0,t):KT h).1++bj h t++(aV ([]:List (KT h))++aV ([]:List (KT h)))=bj h t:=by rw[e0];simp[aV,gY]
   rw[e1,e2]at E;exact E
  have R':Rw room d S2 h [(q,t)] []:=R;have hst:∀(a b:Int),b<=2->0<=max a 0->max a 0<=2->bp room d f S2 (aU (h+1) (bH [(q,t)] [])) (-1) a b=some ((aU (h+1) (bH [(q,t)] []),0),S2):=fun a b hb' h1 h2=>by
   unfold bp;obtain⟨i,hi⟩:∃i:Nat,max a 0=(i:Int):=⟨(max a 0).toNat,by omega⟩;rw[hi];exact ie hr R' (uQ _ _) (by omega) f i b (by omega)
  have G:Gt room d S2 h (q,t):=Gt.of R'.sd wt zt (fun p hp=>R'.us p (by simpa[aV,gY]using hp)) (by have:=R'.nd;simpa[aV,gY]using this) (fun x hx=>R'.is x (by simpa[gY]using hx)) od vl;rw[esw,if_neg (by simp)];split
  ·rw[hst _ _ (by simp) (by omega) (by omega)];exact⟨_,0,_,rfl,fun hc=>absurd rfl hc,fun _=>⟨q,rfl,G,E'⟩⟩
  ·rw[hst _ _ (by simp) (by omega) (by omega)];exact⟨_,0,_,rfl,fun hc=>absurd rfl hc,fun _=>⟨q,rfl,G,E'⟩⟩
 ·rw[if_pos he];simp only;rw[if_pos he];have e0:pX (0:Int)=[]:=by simp[pX]
  rw[e0]at k2;exact⟨_,_,_,rfl,(k2.ext (X:=[]) us nd).mono (by omega),fun h0=>absurd h0 he⟩
end
end Go.Proofs.YtceoeaemenhbhabGreatDoor.P
end
section
namespace Go.Proofs.YtceoeaemenhbhabGreatDoor.P
open N
section
variable {room:Nat}{d:Dk}{S S1 S2:Dr}{key:ByteArray}{ed:List En->List En}
def TS (room:Nat)(d:Dk)(S:Dr)(root:Int)(E:List En)(X:List Int)(H:Nat):Prop:=
 (root=0∧E=[]∧X=[]∧Sd room S∧H=0)∨∃h,∃u:KT h,u.1=root∧Gt room d S h u∧UU h u.2∧dW h u.2=E∧X=dN u∧h=H
structure Q9 (key:ByteArray)(ed:List En->List En)(E E' EL es ER:List En):Prop where
 was:E=EL++(es++ER)
 is:E'=EL++(ed es++ER)
 lo:∀x∈EL,bn x.1 key=true
 hi:∀x∈ER,bn key x.1=true
theorem Fm.bt {c:Nat}{S S':Dr}{X X':List Int}(F:Fm room d c S X S' X')(z:Int):Fm room d c (S.bt z) X (S'.bt z) X':=
 ⟨F.ok.bt z,fun p hp=>(F.us p hp).bt z,F.nd,fun p hp hn=>by
  obtain⟨a1,a2,a3,a4⟩:=F.keep p ⟨hp.lo,hp.hi,hp.fr,hp.sp⟩ hn
  exact⟨a1.bt z,a2,a3,a4⟩,F.tight,F.cnt,F.mM,F.Bc,F.Da,rfl,F.cap,F.mine⟩
theorem Rw.bt {h:Nat}{K:List (KT h)}{ss:List ByteArray}(R:Rw room d S h K ss)(z:Int):Rw room d (S.bt z) h K ss:=⟨R.sd.bt z,R.wl,fun p hp=>(R.us p hp).bt z,R.nd,R.is,R.od,R.vl,R.sz,R.ln⟩
theorem Ra (hr:room<=16384)(HJ:∀h,lz room d h)(EH:Nt key ed){f m h:Nat}(w:KT h)(hp:P0 S w.1)(sd:Sd room S)(us:∀p∈bj h w.2,Us S p)(nd:(pX w.1++bj h w.2).Nodup)(sm:bW (aU h w.2)=true)(rd:S.read d w.1 0=(aU h w.2,0))(od:bO (cj h w.2))(vl:∀x∈dW h w.2,x.2.size<=40)(hh:h<24)
  (hf:3*((pX w.1++bj h w.2).length+2*h+2)+5<=f)(hb:Bd S ((pX w.1++bj h w.2).length+6*h+6+m))
  {L R:List It}{es EL ER:List En}(loc:Loc h w.2 key L es R EL ER)(lfp:E9 d key es 29 S (aU h w.2) 0){n:Nd}{ch:Bool}{e:Int}(t1:bu (bp room d f) room d key ed 29 S (aU h w.2) 0=some ((n,ch,e),S1))(t2:Er room d (4*h) (S.bt (0+h)) (bj h w.2) S1 e)
  (t3:e=0->ch=!decide (ed es=es)∧(ch=false->S1=S.bt (0+h))∧(ch=true->∃t,OL room d (4*h) (S.bt (0+h)) (bj h w.2) (L++(mO (ed es)++R)) (EL++(ed es++ER)) n S1 h t)):
  E9 d key es 30 S ⟨false,[],[w.1],[]⟩ (-1)∧∃n' ch' e' S',bu (bp room d f) room d key ed 30 S ⟨false,[],[w.1],[]⟩ (-1)=some ((n',ch',e'),S')∧Er room d (4*h+4) (S.bt h) (pX w.1++bj h w.2) S' e'∧
   (e'=0->(ch'=false->ed es=es∧S'=S.bt h)∧(ch'=true->∃K' ss',OL room d (4*h+4) (S.bt h) (pX w.1++bj h w.2) (L++(mO (ed es)++R)) (EL++(ed es++ER)) n' S' (h+1) (bH K' ss')∧bR ss'<=21)):=by
 have hgd:([w.1]:List Int).getD (dt [] key) 0=w.1:=rfl;have h01:(-1:Int)+1=0:=by omega
 have hsm:bW (⟨false,[],[w.1],[]⟩:Nd)=true:=Bh hr sd [w] [] (by simp) (by simp[bR]) (fun u hu=>by rw[List.mem_singleton.1 hu];exact hp);have hz:(0:Int)+(h:Int)=(h:Int):=by omega
 refine⟨?_,?_⟩
 ·rw[E9,if_neg (by simp)];simp only[hgd,h01,rd];exact fun _=>lfp
 ·rw[bu,if_neg (by rw[hsm];simp),if_neg (by simp),if_neg (by simp[dt])];simp only[hgd,h01,rd,t1];rw[if_neg (by simp)];by_cases he:e=0
  ·subst he;obtain⟨c1,c2,c3⟩:=t3 rfl;cases ch with
   |false=>
    rw[if_pos (by simp)];refine⟨_,_,_,_,rfl,fun hc=>absurd rfl hc,fun _=>⟨fun _=>⟨?_,by rw[c2 rfl,hz]⟩,fun hc=>by cases hc⟩⟩;simpa using c1.symm
   |true=>
    rw[if_neg (by simp)];obtain⟨t,CR⟩:=c3 rfl;rw[hz]at CR;have eX:pX w.1++bj h w.2++(aV ([]:List (KT h))++aV ([]:List (KT h)))=pX w.1++bj h w.2:=by simp[aV,gY]
    have XW:bO (L++(mO (ed es)++R)):=sP EH (by rw[<-loc.fl];exact od) (fun x hx=>vl x (by rw[loc.en];simp[hx])) loc.l1 loc.r1 loc.l2 loc.r2;obtain⟨n',e',S',p1,p2,p3⟩:=step_ok (m:=m) (A:=[]) (B:=[]) (sA:=[]) (sB:=[]) (w:=w) (S:=S) (z:=h) hr HJ (depth:=-1) (by omega) ⟨rfl,rfl,(fun _ hc=>by cases hc),(fun _ hc=>by cases hc),(fun _ hc=>by cases hc),(fun _ hc=>by cases hc)⟩ hp us (by rw[eX];exact nd) (uQ _ _) (by simp[bR]) sm CR (by
     show bO ([]++((L++(mO (ed es)++R))++[]))
     rw[List.nil_append,List.append_nil];exact XW) (by omega) (f:=f) (by rw[eX];exact hf) (by rw[eX];exact hb)
    have p1':et (bp room d f) room S1 ⟨false,[],[w.1],[]⟩ ((dt [] key:Nat):Int) (-1) (aU h w.2) n=some ((n',e'),S'):=p1;rw[p1'];refine⟨_,_,_,_,rfl,by rw[eX]at p2;exact p2,fun he'=>⟨fun hc=>(by cases hc),fun _=>?_⟩⟩;obtain⟨K',ss',P,hz'⟩:=p3 he';refine⟨K',ss',⟨P.n,P.ob,?_,?_,?_,?_⟩,by simpa[bR]using hz'⟩
    ·have:=P.fm
     rwa [eX]at this
    ·have:OI ([]++((L++(mO (ed es)++R))++[])) _:=P.oi;rw[List.nil_append,List.append_nil]at this;exact this
    ·rw[P.en];simp[bN]
    ·have:=P.ln
     rwa [eX]at this
  ·rw[if_pos (.inl he)];rw[hz]at t2;have qT:(bj h w.2++pX w.1).Perm (pX w.1++bj h w.2):=List.perm_append_comm;exact⟨_,_,_,_,rfl,((t2.ext (Y:=pX w.1) (fun q hq=>(yR hp q hq).bt _) (qT.nodup_iff.2 nd)).perm qT).mono (by omega),fun h0=>absurd h0 he⟩
theorem Jx (hr:room<=16384){f m h:Nat}{n:Nd}{X:List Int}{F:List It}{E:List En}{K:List (KT h)}{ss:List ByteArray}(P:OL room d (4*h+4) (S.bt h) X F E n S1 (h+1) (bH K ss))(hz:bR ss<=21)(hh:h+1<24)(hf:3<=f)(hb:Bd S (X.length+8*h+30+m)):
  ∃n2 e2 S2,jT (bp room d f) room 10 S1 n=some ((n2,e2),S2)∧(∃z:Int,Er room d (4*h+4) (S.bt z) X S2 e2)∧(e2=0->∃r S3,(if n2.ks.length=0 then some ((0,0),S2)else if S2.bot< -1000∨1000<S2.bot∨bW n2=false then none else dE d 24 S2 (n2.ks.getD 0 0) 0)=some ((r,0),S3)∧∃z X' H,TS room d S3 r E X' H∧Fm room d (4*h+6) (S.bt z) X S3 X'∧H<=h+1):=by
 obtain⟨rfl,⟨R0,kp0,hz'⟩,fm0,oi,en0,ln0⟩:=P;have R:Rw room d S1 h K ss:=R0;have kp:∀j,KP K ss j:=kp0;have fm:Fm room d (4*h+4) (S.bt h) X S1 (aV K):=fm0;have ln:(aV K).length<=X.length+2*(h+1):=ln0;have en:bN K=E:=en0;clear R0 kp0 fm0 ln0 en0 hz';have Nv:S1.bot=h:=fm.bot;have hb1:Bd S1 ((aV K).length+6+m+4):=fm.bd (hb.bt h) (by omega);have hlen:(aU (h+1) (bH K ss)).ks.length=K.length:=by rw[bQ];simp
 have ek:∀v:KT h,aV [v]=dN v:=fun v=>by simp[aV,gY]
 have ec:∀v:KT h,gY [v]=nV v:=fun v=>by simp[gY]
 rw[jT,if_neg (by rw[R.sm hr];simp),hlen];by_cases h1:1<K.length
 ·have hl:ss.length+1=K.length:=by
   rcases R.ln with e| ⟨e,_⟩
   ·exact e
   ·rw[e]at h1;simp at h1
  rw[if_pos h1,if_neg (by omega)];have hrt:=iR hr R.sd K ss hl R.us R.od;have hfi:cC (aU (h+1) (bH K ss))=true:=by
   unfold cC;rw[hrt,Bool.true_and];exact decide_eq_true (show 4+bR ss<=240 by omega)
  have wt:Wl (h+1) (bH K ss):=by rw[sJ];exact⟨hl,kp,R.wl⟩
  obtain⟨n2,e2,S2,q1,q2,q3⟩:=Fa (S:=S1.bt (S1.bot+1)) (d:=d) (room:=room) hr (bH K ss) ⟨R.bt _,kp,by show bR ss<=257;omega⟩ wt hfi (.inr (by rw[bQ];intro hc;simp at hc;rw[hc]at h1;simp at h1)) (R.sm hr) R.od (f:=f) (m:=m) hf ((hb1.bt _).mono (by show(aV K).length+6+m<=_;omega));have q1':et (bp room d f) room ⟨S1.x,S1.nodes,S1.cnt,S1.taken,S1.spare,S1.bot+1⟩ ⟨false,[],[0],[]⟩ 0 (-1) nd0 (aU (h+1) (bH K ss))=some ((n2,e2),S2):=q1;rw[q1'];simp only;by_cases he:e2=0
  ·subst he;obtain⟨q,rfl,G,F2⟩:=q3 rfl;rw[if_neg (by simp)];have F2:Fm room d 2 (S1.bt (S1.bot+1)) (aV K) S2 (dN (q,bH K ss)):=F2;have hb2:S2.bot=(h:Int)+1:=by rw[F2.bot];show S1.bot+1=_;omega
   have hB2:Bd S2 ((dN (q,bH K ss)).length+m):=F2.bd (hb1.bt _) (by omega);have UW:bW (aU (h+1+1) (bH [(q,bH K ss)] []))=true:=Bh hr G.g.sd [(q,bH K ss)] [] (by simp) (by simp[bR]) (fun u hu=>by rw[List.mem_singleton.1 hu];exact .inr G.us);have hl2:(aU (h+1+1) (bH [(q,bH K ss)] [])).ks.length=1:=rfl;rw[jT,if_neg (by rw[UW];simp),hl2,if_neg (by omega)];refine⟨_,0,S2,rfl,⟨0,fun hc=>absurd rfl hc⟩,fun _=>?_⟩;rw[hl2,if_neg (by omega),if_neg (by rw[UW];simp;omega)];obtain⟨h',u',S',l1,l2,l3,l4,l5,l6⟩:=oc (h+1) (q,bH K ss) S2 24 0 m G (by rw[hb2];omega) (by omega) (by omega) (by omega) hB2;refine⟨u'.1,S',l1,S1.bot+1,dN u',h',.inr ⟨h',u',rfl,l2,l3,?_,rfl,rfl⟩,?_,by omega⟩
   ·rw[l5];exact en
   ·exact(((fm.bt (S1.bot+1)).trans F2).trans l4).mono (by omega)
  ·rw[if_pos he];exact⟨_,_,_,rfl,⟨S1.bot+1,((fm.bt (S1.bot+1)).er q2).mono (by omega)⟩,fun h0=>absurd h0 he⟩
 ·rw[if_neg h1];refine⟨_,0,S1,rfl,⟨0,fun hc=>absurd rfl hc⟩,fun _=>?_⟩;rw[hlen];by_cases h0:K.length=0
  ·have hK:K=[]:=List.length_eq_zero_iff.1 h0;subst hK;rw[if_pos h0];refine⟨0,S1,rfl,h,[],0,.inl ⟨rfl,?_,rfl,R.sd,rfl⟩,fm.mono (by omega),by omega⟩;rw[<-en];rfl
  ·obtain⟨v,rfl⟩:=sH (l:=K) (by omega);have hwv:=R.wl v (by simp);have hss:ss=[]:=by
    rcases R.ln with e| ⟨e,_⟩
    ·exact List.length_eq_zero_iff.1 (by simpa using e)
    ·cases e
   subst hss;have eF:dy [v] []=cj h v.2:=by simp[dy,iP]
   have G:Gt room d S1 h v:=Gt.of R.sd hwv.1 hwv.2 (by rw[<-ek];exact R.us) (by rw[<-ek];exact R.nd) (by rw[<-ec];exact R.is) (by rw[<-eF];exact R.od) (fun x hx=>R.vl x (by simpa[bN]using hx));rw[if_neg (by simp),if_neg (by rw[R.sm hr];simp;omega)];obtain⟨h',u',S',l1,l2,l3,l4,l5,l6⟩:=oc h v S1 24 0 m G (by rw[Nv];omega) (by omega) (by omega) (by omega) (hb1.mono (by rw[<-ek];omega));refine⟨u'.1,S',l1,h,dN u',h',.inr ⟨h',u',rfl,l2,l3,?_,rfl,rfl⟩,?_,by omega⟩
   ·have e1:bN [v]=dW h v.2:=by simp[bN]
    rw[l5,<-e1];exact en
   ·have fm':Fm room d (4*h+4) (S.bt h) X S1 (dN v):=by rw[<-ek];exact fm
    exact(fm'.trans l4).mono (by omega)
end
end Go.Proofs.YtceoeaemenhbhabGreatDoor.P
end
section
namespace Go.Proofs.YtceoeaemenhbhabGreatDoor.P
open N
section
variable {room:Nat}{d:Dk}{S S1 S2:Dr}{key:ByteArray}{ed:List En->List En}
theorem Gt.bt {h:Nat}{u:KT h}(G:Gt room d S h u)(z:Int):Gt room d (S.bt z) h u:=⟨⟨G.g.sd.bt z,G.g.wl,G.g.sz,fun p hp=>(G.g.us p hp).bt z,G.g.nd,G.g.is,G.g.od,G.g.vl⟩,G.us.bt z,G.ni,G.rd⟩
theorem TS.bt {root:Int}{E:List En}{X:List Int}{H:Nat}(T:TS room d S root E X H)(z:Int):TS room d (S.bt z) root E X H:=by
 rcases T with⟨a,b,c,e,f⟩| ⟨h,u,a,b,c⟩
 ·exact .inl ⟨a,b,c,e.bt z,f⟩
 ·exact .inr ⟨h,u,a,b.bt z,c⟩
theorem TS.fm {root:Int}{E:List En}{X:List Int}{H:Nat}(T:TS room d S root E X H):Fm room d 0 S X S X:=by
 rcases T with⟨a,b,rfl,e,f⟩| ⟨h,u,a,b,c,g,rfl,i⟩
 ·exact Fm.refl e (fun _ hc=>by cases hc) List.nodup_nil
 ·exact Fm.refl b.g.sd b.Jw.1 b.Jw.2.1
theorem yS (hr:room<=16384)(HJ:∀h,lz room d h)(EH:Nt key ed){f m h:Nat}(w:KT h)(hp:P0 S w.1)(sd:Sd room S)(us:∀p∈bj h w.2,Us S p)(nd:(pX w.1++bj h w.2).Nodup)(sm:bW (aU h w.2)=true)(rd:S.read d w.1 0=(aU h w.2,0))(od:bO (cj h w.2))(vl:∀x∈dW h w.2,x.2.size<=40)(hh:h+1<24)
  (hf:3*((pX w.1++bj h w.2).length+2*h+2)+5<=f)(hb:Bd S ((pX w.1++bj h w.2).length+8*h+30+m))(T:TS room d S w.1 (dW h w.2) (pX w.1++bj h w.2) h)
  {L R:List It}{es EL ER:List En}(loc:Loc h w.2 key L es R EL ER)(lfp:E9 d key es 29 S (aU h w.2) 0){n:Nd}{ch:Bool}{e:Int}(t1:bu (bp room d f) room d key ed 29 S (aU h w.2) 0=some ((n,ch,e),S1))(t2:Er room d (4*h) (S.bt (0+h)) (bj h w.2) S1 e)
  (t3:e=0->ch=!decide (ed es=es)∧(ch=false->S1=S.bt (0+h))∧(ch=true->∃t,OL room d (4*h) (S.bt (0+h)) (bj h w.2) (L++(mO (ed es)++R)) (EL++(ed es++ER)) n S1 h t)):
  E9 d key es 30 S ⟨false,[],[w.1],[]⟩ (-1)∧∃r e S',jU (bp room d f) room d key ed w.1 S=some ((r,e),S')∧(∃z:Int,Er room d (4*h+4) (S.bt z) (pX w.1++bj h w.2) S' e)∧(e=0->∃z X' H' E',TS room d S' r E' X' H'∧Fm room d (4*h+6) (S.bt z) (pX w.1++bj h w.2) S' X'∧H'<=h+1∧Q9 key ed (dW h w.2) E' EL es ER):=by
 have hlo:=loc.lo od;obtain⟨lf,n',ch',e',S',c1,c2,c3⟩:=Ra (m:=m) hr HJ EH w hp sd us nd sm rd od vl (by omega) hf (hb.mono (by omega)) loc lfp t1 t2 t3;refine⟨lf,?_⟩;unfold jU;rw[c1];simp only;by_cases he:e'=0
 ·subst he;obtain⟨k1,k2⟩:=c3 rfl;cases ch' with
  |false=>
   obtain⟨r1,r2⟩:=k1 rfl;rw[if_pos (by simp),r2];exact⟨_,0,_,rfl,⟨0,fun hc=>absurd rfl hc⟩,fun _=>⟨h,_,h,_,T.bt h,(T.fm.bt h).mono (by omega),by omega,loc.en,by rw[r1];exact loc.en,hlo.1,hlo.2⟩⟩
  |true=>
   obtain⟨K',ss',P,hz⟩:=k2 rfl;rw[if_neg (by simp)];obtain⟨n2,e2,S2,g1,g2,g3⟩:=Jx (m:=m) (f:=f) hr P hz hh (by omega) hb;rw[g1];simp only;by_cases he2:e2=0
   ·subst he2;rw[if_neg (by simp)];obtain⟨r,S3,q1,z,X',H',q2,q3,q4⟩:=g3 rfl;rw[q1];exact⟨r,0,S3,rfl,⟨0,fun hc=>absurd rfl hc⟩,fun _=>⟨z,X',H',_,q2,q3,q4,loc.en,rfl,hlo.1,hlo.2⟩⟩
   ·rw[if_pos he2];exact⟨_,_,_,rfl,g2,fun h0=>absurd h0 he2⟩
 ·rw[if_pos (.inl he)];exact⟨_,_,_,rfl,⟨h,c2.mono (by omega)⟩,fun h0=>absurd h0 he⟩
theorem Nw (hr:room<=16384)(HJ:∀h,lz room d h)(EH:Nt key ed){f m H:Nat}{root:Int}{E:List En}{X:List Int}(hn0:S.nodes 0=none)(T:TS room d S root E X H)(hH:H+1<24)(hf:3*(X.length+2*H+2)+5<=f)(hb:Bd S (X.length+8*H+30+m)):
  ∃es r e S',E9 d key es 30 S ⟨false,[],[root],[]⟩ (-1)∧jU (bp room d f) room d key ed root S=some ((r,e),S')∧(∃z:Int,Er room d (4*H+4) (S.bt z) X S' e)∧(e=0->∃z X' H' E' EL ER,TS room d S' r E' X' H'∧Fm room d (4*H+6) (S.bt z) X S' X'∧H'<=H+1∧Q9 key ed E E' EL es ER)∧(∃EL ER,E=EL++(es++ER)∧(∀x∈EL,bn x.1 key=true)∧∀x∈ER,bn key x.1=true):=by
 have T0:=T;rcases T with⟨rfl,rfl,rfl,sd,rfl⟩| ⟨h,u,rfl,G,tb,rfl,rfl,rfl⟩
 ·have XZ:S.read d 0 0=(aU 0 [],0):=by
   unfold Dr.read dC;rw[hn0];simp;rfl
  obtain⟨L,es,R,EL,ER,loc,lfp,n,ch,e,S1,t1,t2,t3⟩:=fH (S:=S) (d:=d) (f:=f) hr EH [] 0 29 sd ⟨List.Pairwise.nil,fun _ hc=>by cases hc⟩ (fun _ hc=>by cases hc) (by simp[cD]) (by omega);have e0:pX ((0,[]):KT 0).1++bj 0 ((0,[]):KT 0).2=[]:=rfl;obtain⟨lf,r,e',S',g1,g2,g3⟩:=yS (m:=m) (f:=f) hr HJ EH ((0,[]):KT 0) (.inl rfl) sd (fun _ hc=>by cases hc) (by rw[e0];exact List.nodup_nil) (ku [] (by simp[bP,aU,dX,cD])) XZ ⟨List.Pairwise.nil,fun _ hc=>by cases hc⟩ (fun _ hc=>by cases hc) (by omega) (by rw[e0];exact hf) (by rw[e0];exact hb) (by rw[e0];exact T0) loc lfp t1 t2 t3;refine⟨es,r,e',S',lf,g1,g2,fun he=>?_,EL,ER,loc.en,loc.lo ⟨List.Pairwise.nil,fun _ hc=>by cases hc⟩⟩;obtain⟨z,X',H',E',q1,q2,q3,q4⟩:=g3 he;exact⟨z,X',H',E',EL,ER,q1,q2,q3,q4⟩
 ·have hu0:u.1≠0:=by have:=G.us.lo;omega
  have OM:pX u.1++bj h u.2=dN u:=by simp[pX,hu0,bX]
  have hlu:(bj h u.2).length<=(dN u).length:=by rw[bX];simp
  obtain⟨L,es,R,EL,ER,loc,lfp,n,ch,e,S1,t1,t2,t3⟩:=sQ (S:=S) (d:=d) (f:=f) (m:=m) hr HJ EH h u.2 0 29 G.g (by omega) (by omega) (by omega) (hb.mono (by omega));have XZ:S.read d u.1 0=(aU h u.2,0):=by rw[S.gA d _ _ (by omega)];exact G.rd
  obtain⟨lf,r,e',S',g1,g2,g3⟩:=yS (m:=m) (f:=f) hr HJ EH u (.inr G.us) G.g.sd G.g.us (by rw[OM];exact G.Jw.2.1) (G.g.sm hr) XZ G.g.od G.g.vl hH (by rw[OM];exact hf) (by rw[OM];exact hb) (by rw[OM];exact T0) loc lfp t1 t2 t3;refine⟨es,r,e',S',lf,g1,by rw[OM]at g2;exact g2,fun he=>?_,EL,ER,loc.en,loc.lo G.g.od⟩;obtain⟨z,X',H',E',q1,q2,q3,q4⟩:=g3 he;rw[OM]at q2;exact⟨z,X',H',E',EL,ER,q1,q2,q3,q4⟩
end
end Go.Proofs.YtceoeaemenhbhabGreatDoor.P
end
section
namespace Go.Proofs.YtceoeaemenhbhabGreatDoor.P
open N
section
variable {h:Nat}
def NP:List (KT h)->Prop
 |u::v::K=>(80<=bP h u.2∨80<=bP h v.2)∧NP (v::K)
 |_=>True
theorem OO:∀ {K:List (KT h)} {ss:List ByteArray},ss.length+1=K.length->(∀j,KP K ss j)->(∀s∈ss,s.size<=16)->NP K
 |[],_,_,_,_=>trivial
 |[_],_,_,_,_=>trivial
 |u::v::K,[],hl,_,_=>by simp at hl
 |u::v::K,k::ss,hl,hk,hs=>by
  refine⟨?_,OO (ss:=ss) (by simpa using hl) (fun j=>?_) (fun s hx=>hs s (by simp[hx]))⟩
  ·by_cases hc:80<=bP h u.2
   ·exact .inl hc
   ·right;have h1:=(hk 0 [] u v K [] k ss rfl rfl rfl).1 rfl (by omega);rw[nW]at h1;have h2:=hs k (by simp);split at h1<;>omega
  ·intro A a b B sA k' sB e1 e2 e3;have:=hk (j+1) (u::A) a b B (k::sA) k' sB (by rw[e1];rfl) (by rw[e2];rfl) (by simpa using e3);exact⟨fun hj=>this.1 (by simp;omega),fun hB hj=>this.2 hB (by simp;omega)⟩
def td (K:List (KT h)):Nat:=K.countP fun u=>decide (bP h u.2<80)
def og (K:List (KT h)):Nat:=K.countP fun u=>decide (80<=bP h u.2)
theorem UX (K:List (KT h)):td K+og K=K.length:=by
 induction K with
 |nil=>rfl
 |cons u K ih=>
  unfold td og at*;rw[List.countP_cons,List.countP_cons,List.length_cons];by_cases hc:bP h u.2<80
  ·have:¬80<=bP h u.2:=by omega
   simp[hc,this];omega
  ·have:80<=bP h u.2:=by omega
   simp[hc,this];omega
theorem Jy:∀ {K:List (KT h)},NP K->td K<=og K+1∧(∀u K',K=u::K'->80<=bP h u.2->td K<=og K)
 |[],_=>⟨by simp[td,og],fun _ _ hc=>by cases hc⟩
 |[u],_=>by
  refine⟨?_,fun u' K' hc hz=>?_⟩
  ·unfold td og;rw[List.countP_cons,List.countP_cons];simp;split<;>omega
  ·cases hc;unfold td og;simp[hz]
 |u::v::K,hn=>by
  obtain⟨i1,i2⟩:=Jy hn.2;have e1:td (u::v::K)=td (v::K)+(if bP h u.2<80 then 1 else 0):=by unfold td;rw[List.countP_cons];simp
  have e2:og (u::v::K)=og (v::K)+(if 80<=bP h u.2 then 1 else 0):=by unfold og;rw[List.countP_cons];simp
  rw[e1,e2];by_cases hc:bP h u.2<80
  ·have hv:80<=bP h v.2:=by rcases hn.1 with e|e<;>omega
   have:=i2 v K rfl hv;refine⟨by rw[if_pos hc,if_neg (by omega)];omega,fun u' K' he hz=>?_⟩;cases he;omega
  ·refine⟨by rw[if_neg hc,if_pos (by omega)];omega,fun u' K' he hz=>?_⟩;rw[if_neg hc,if_pos (by omega)];omega
structure UY (h:Nat)(b:BT h):Prop where
 one:1<=(dW h b).length
 big:80<=bP h b->2^(h+1)<=(dW h b).length
 any:(4*((bj h b).length+1:Nat):Int)<=7*(dW h b).length-3+4*h
 few:80<=bP h b->(4*((bj h b).length+1:Nat):Int)<=7*(dW h b).length-7-12*h
theorem Di:∀ {K:List (KT h)},(∀u∈K,UY h u.2)->K.length<=(bN K).length∧og K*2^(h+1)<=(bN K).length∧(4*(aV K).length:Int)<=7*(bN K).length+td K*(4*h-3)-og K*(12*h+7)
 |[],_=>by simp[bN,og,td,aV,gY]
 |u::K,hK=>by
  obtain⟨i1,i2,i3⟩:=Di (K:=K) (fun v hv=>hK v (List.mem_cons_of_mem _ hv));have C:=hK u (List.mem_cons_self ..);have e1:td (u::K)=td K+(if bP h u.2<80 then 1 else 0):=by unfold td;rw[List.countP_cons];simp
  have e2:og (u::K)=og K+(if 80<=bP h u.2 then 1 else 0):=by unfold og;rw[List.countP_cons];simp
  have e3:(bN (u::K)).length=(dW h u.2).length+(bN K).length:=by rw[bS,List.length_append]
  have e4:(aV (u::K)).length=(bj h u.2).length+1+(aV K).length:=by rw[bD,bX,List.length_append,List.length_cons]
  have c1:=C.one;have c2:=C.any;by_cases hc:bP h u.2<80
  ·have Km:td (u::K)=td K+1:=by rw[e1,if_pos hc]
   have e2':og (u::K)=og K:=by rw[e2,if_neg (by omega)];rfl
   rw[Km,e2',e3,e4,List.length_cons];refine⟨by omega,by omega,?_⟩
   push_cast at c2⊢
   rw[Int.add_mul];omega
  ·have hg:80<=bP h u.2:=by omega
   have c3:=C.big hg;have c4:=C.few hg;have Km:td (u::K)=td K:=by rw[e1,if_neg hc];rfl
   have e2':og (u::K)=og K+1:=by rw[e2,if_pos hg]
   rw[Km,e2',e3,e4,List.length_cons];refine⟨by omega,by rw[Nat.add_mul];omega,?_⟩
   push_cast at c4⊢
   rw[Int.add_mul (og K:Int)];omega
theorem Jz (l:List En)(h0:l≠[])(hx:∀x∈l,kJ x<=58):UY 0 l:=by
 have h1:1<=l.length:=List.length_pos_iff.2 h0;have h2:80<=bP 0 l->2<=l.length:=fun hz=>by
  have:=j5 hx;have hz:80<=cD l:=hz;omega
 have e1:(dW 0 l).length=l.length:=rfl;have e2:(bj 0 l).length=0:=rfl;refine⟨h1,fun hz=>h2 hz,?_,fun hz=>?_⟩
 ·rw[e1,e2];push_cast;omega
 ·have:=h2 hz;rw[e1,e2];push_cast;omega
theorem uR (K:List (KT h))(ss:List ByteArray)(hl:ss.length+1=K.length)(hk:∀j,KP K ss j)(hs:∀s∈ss,s.size<=16)(hK:∀u∈K,UY h u.2):UY (h+1) (bH K ss)∧(2<=K.length->2^(h+1)<=(bN K).length):=by
 obtain⟨i1,i2,i3⟩:=Di hK;have np:=OO hl hk hs;obtain⟨c1,_⟩:=Jy np;have c2:=UX K;have e1:(dW (h+1) (bH K ss)).length=(bN K).length:=rfl;have e2:(bj (h+1) (bH K ss)).length=(aV K).length:=rfl;have hbig:80<=bP (h+1) (bH K ss)->5<=K.length:=fun hz=>by
  have hz:80<=4+bR ss:=hz;have:=uo hs;omega
 have kk:(td K:Int)*(4*h-3)- (og K:Int)*(12*h+7)<=4*h-3∧(5<=K.length->(td K:Int)*(4*h-3)- (og K:Int)*(12*h+7)<=-(12*h)-23):=by
  by_cases h0:h=0
  ·subst h0;simp only[Int.natCast_zero,Int.mul_zero];omega
  ·have e:(12*(h:Int)+7)=(4*h-3)+(8*h+10):=by omega
   have hpos:(0:Int)<=4*h-3:=by omega
   have k1:(td K:Int)*(4*h-3)<=((og K:Int)+1)*(4*h-3):=Int.mul_le_mul_of_nonneg_right (by omega) hpos;rw[Int.add_mul,Int.one_mul]at k1;have g2:∀q:Nat,q<=og K->(q:Int)*(8*h+10)<=(og K:Int)*(8*h+10):=fun q hq=>Int.mul_le_mul_of_nonneg_right (by omega) (by omega);rw[e,Int.mul_add];refine⟨?_,fun h5=>?_⟩
   ·have:=g2 0 (by omega);simp only[Int.natCast_zero,Int.zero_mul]at this;omega
   ·have:=g2 2 (by omega);simp only[Int.cast_ofNat_Int]at this;omega
 have g2n:∀q:Nat,q<=og K->q*2^(h+1)<=(bN K).length:=fun q hq=>Nat.le_trans (Nat.mul_le_mul_right _ hq) i2;refine⟨⟨by rw[e1];omega,fun hz=>?_,?_,fun hz=>?_⟩,fun h2=>?_⟩
 ·have:=hbig hz;have:=g2n 2 (by omega);rw[e1,Nat.pow_succ 2 (h+1)];omega
 ·have:=kk.1;rw[e1,e2]
  push_cast
  omega
 ·have:=kk.2 (hbig hz);rw[e1,e2]
  push_cast
  omega
 ·have:=g2n 1 (by omega);omega
theorem wK {room:Nat}{d:Dk}{S:Dr}:∀(h:Nat) (b:BT h),Wl h b->bO (cj h b)->(∀x∈dW h b,x.2.size<=40)->UY h b
 |0,l,wl,od,vl=>Jz l wl (fun x hx=>nL (od.sz (false,x.1) (iU 0 l x hx)).2 (vl x hx))
 |h+1,b,wl,od,vl=>by
  obtain⟨K,ss,rfl⟩:=fh b;have od:bO (dy K ss):=od;refine(uR K ss wl.1 wl.2.1 (fun s hs=>?_) (fun u hu=>?_)).1
  ·have h1:=od.sub (gX (K.map fun u=>cj h u.2) ss (by have:=wl.1;simp only[bH]at this;simp;omega));exact(h1.sz (true,s) (List.mem_map_of_mem (f:=fun s=>((true,s):It)) hs)).2
  ·obtain⟨A,B,rfl⟩:=List.append_of_mem hu;refine wK (room:=room) (d:=d) (S:=S) h u.2 (wl.2.2 u hu).1 ?_ (fun x hx=>vl x (by rw[oK,cm,bS];simp[hx]));have hl:=wl.1;simp only[bH]at hl;have e:ss=ss.take A.length++ss.drop A.length:=(List.take_append_drop _ _).symm;rw[e,eW (by rw[List.length_take];simp at hl;omega)]at od;exact od.sub (List.Sublist.trans (List.sublist_append_left _ _) (List.sublist_append_right _ _))
theorem TS.cnt {room:Nat}{d:Dk}{S:Dr}{root:Int}{E:List En}{X:List Int}{H:Nat}(T:TS room d S root E X H):(4*X.length:Int)<=7*E.length+4*H∧(H=0∨2^H<=E.length):=by
 rcases T with⟨rfl,rfl,rfl,sd,rfl⟩| ⟨h,u,rfl,G,tb,rfl,rfl,rfl⟩
 ·simp
 ·have C:=wK (room:=room) (d:=d) (S:=S) h u.2 G.g.wl G.g.od G.g.vl;have c1:=C.any;refine⟨?_,?_⟩
  ·rw[bX,List.length_cons];omega
  ·cases h with
   |zero=>exact .inl rfl
   |succ h=>
    right;obtain⟨p,b⟩:=u;obtain⟨K,ss,rfl⟩:=fh b;have hl:ss.length+1=K.length:=G.g.wl.1;have tb:K.length≠1:=tb;have R:=G.g.rw;have od:bO (dy K ss):=R.od;refine(uR K ss hl G.g.wl.2.1 (fun s hs=>?_) (fun u hu=>?_)).2 (by omega)
    ·have h1:=od.sub (gX (K.map fun u=>cj h u.2) ss (by simp;omega));exact(h1.sz (true,s) (List.mem_map_of_mem (f:=fun s=>((true,s):It)) hs)).2
    ·obtain⟨A,B,rfl⟩:=List.append_of_mem hu;refine wK (room:=room) (d:=d) (S:=S) h u.2 (R.wl u hu).1 ?_ (fun x hx=>R.vl x (by rw[cm,bS];simp[hx]));have e:ss=ss.take A.length++ss.drop A.length:=(List.take_append_drop _ _).symm;rw[e,eW (by rw[List.length_take];simp at hl;omega)]at od;exact od.sub (List.Sublist.trans (List.sublist_append_left _ _) (List.sublist_append_right _ _))
end
end Go.Proofs.YtceoeaemenhbhabGreatDoor.P
end
section
namespace Go.Proofs.YtceoeaemenhbhabGreatDoor.P
open N
theorem qu:∀(l:List (List It)) (ss:List ByteArray),l.flatten.Sublist (iP l ss)
 |[],ss=>by rw[sD];exact List.Sublist.refl _
 |x::l,[]=>List.Sublist.refl _
 |x::l,s::ss=>by
  rw[gK,List.flatten_cons];exact List.Sublist.append (List.Sublist.refl _) (List.Sublist.trans (qu l ss) (List.sublist_cons_self _ _))
theorem yT {α β:Type}{f g:α->List β}:∀ {l:List α},(∀x∈l,(f x).Sublist (g x))->(l.map f).flatten.Sublist (l.map g).flatten
 |[],_=>List.Sublist.refl _
 |x::l,hx=>by
  rw[List.map_cons,List.map_cons,List.flatten_cons,List.flatten_cons];exact List.Sublist.append (hx x (List.mem_cons_self ..)) (yT fun y hy=>hx y (List.mem_cons_of_mem _ hy))
theorem yU:∀(h:Nat) (b:BT h),(mO (dW h b)).Sublist (cj h b)
 |0,l=>List.Sublist.refl _
 |h+1,b=>by
  obtain⟨K,ss,rfl⟩:=fh b;rw[oK,Jn];have e:mO (bN K)=(K.map fun u=>mO (dW h u.2)).flatten:=by
   unfold mO bN;rw[List.map_flatten,List.map_map];rfl
  rw[e];exact List.Sublist.trans (yT fun u hu=>yU h u.2) (qu _ _)
theorem TS.rg {room:Nat}{d:Dk}{S:Dr}{root:Int}{E:List En}{X:List Int}{H:Nat}(T:TS room d S root E X H):Rg E:=by
 rcases T with⟨rfl,rfl,rfl,sd,rfl⟩| ⟨h,u,rfl,G,tb,rfl,rfl,rfl⟩
 ·exact Rg.nil
 ·exact bO.leaf (G.g.od.sub (yU h u.2)) G.g.vl
theorem Dj (x:En):∀l,cD (kW x l)=kJ x+cD l
 |[]=>by simp[kW,cD]
 |y::l=>by
  unfold kW;split
  ·simp[cD]
  ·simp only[cD,Dj x l];omega
theorem lF (p:En->Bool):∀l:List En,cD (l.filter p)<=cD l
 |[]=>by simp
 |x::l=>by
  rw[List.filter_cons];have:=lF p l;split<;>simp only[cD]<;>omega
def Fq (key val:ByteArray):List En->List En:=fun es=>if(cF key val&&fY es)=true then jq es key val else es
def Tj (key:ByteArray):List En->List En:=fun es=>if fY es=true then lJ es key else es
theorem wL {key val:ByteArray}(hm:cF key val=true){es:List En}(h:Rg es):Fq key val es=jq es key val:=by
 unfold Fq;rw[hm,fE h];rfl
theorem wM {key:ByteArray}{es:List En}(h:Rg es):Tj key es=lJ es key:=by
 unfold Tj;rw[fE h];rfl
theorem Nx {key val:ByteArray}(hm:cF key val=true):Nt key (Fq key val):=by
 refine⟨fun es h=>by rw[wL hm h];exact z6 h hm,fun es h x hx=>?_,fun es h=>?_⟩
 ·rw[wL hm h]at hx;rcases pF.1 hx with rfl|hx
  ·have h1:=cH.1 hm;exact .inl ⟨rfl,h1.1,h1.2.1⟩
  ·exact .inr hx.1
 ·rw[wL hm h];have h1:=cH.1 hm;have h2:=lF (fun x=>!decide (x.1=key)) es;unfold jq lJ;rw[Dj];have:kJ (key,val)<=58:=nL h1.2.1 h1.2.2;omega
theorem Ny (key:ByteArray):Nt key (Tj key):=by
 refine⟨fun es h=>by rw[wM h];exact vz h key,fun es h x hx=>?_,fun es h=>?_⟩
 ·rw[wM h]at hx;exact .inr (j4.1 hx).1
 ·rw[wM h];have h2:=lF (fun x=>!decide (x.1=key)) es;unfold lJ;omega
theorem oh {EL es ER:List En}(h:Rg (EL++(es++ER))):Rg es:=h.sub (List.Sublist.trans (List.sublist_append_left _ _) (List.sublist_append_right _ _))
theorem Q9.put {key val:ByteArray}{E E' EL es ER:List En}(hm:cF key val=true)(R:Q9 key (Fq key val) E E' EL es ER)(h:Rg E)(h':Rg E'):E'=jq E key val:=by
 obtain⟨rfl,rfl,lo,hi⟩:=R;rw[wL hm (oh h)]at h'⊢;refine Rg.ext h' (z6 h hm) fun x=>?_;rw[pF];simp only[List.mem_append,pF];constructor
 ·rintro(hx| (rfl|hx)|hx)
  ·exact .inr ⟨.inl hx,fq (lo x hx)⟩
  ·exact .inl rfl
  ·exact .inr ⟨.inr (.inl hx.1),hx.2⟩
  ·exact .inr ⟨.inr (.inr hx),(fq (hi x hx)).symm⟩
 ·rintro(rfl| ⟨hx|hx|hx,hn⟩)
  ·exact .inr (.inl (.inl rfl))
  ·exact .inl hx
  ·exact .inr (.inl (.inr ⟨hx,hn⟩))
  ·exact .inr (.inr hx)
theorem Q9.del {key:ByteArray}{E E' EL es ER:List En}(R:Q9 key (Tj key) E E' EL es ER)(h:Rg E)(h':Rg E'):E'=lJ E key:=by
 obtain⟨rfl,rfl,lo,hi⟩:=R;rw[wM (oh h)]at h'⊢;refine Rg.ext h' (vz h key) fun x=>?_;rw[j4];simp only[List.mem_append,j4];constructor
 ·rintro(hx|hx|hx)
  ·exact⟨.inl hx,fq (lo x hx)⟩
  ·exact⟨.inr (.inl hx.1),hx.2⟩
  ·exact⟨.inr (.inr hx),(fq (hi x hx)).symm⟩
 ·rintro⟨hx|hx|hx,hn⟩
  ·exact .inl hx
  ·exact .inr (.inl ⟨hx,hn⟩)
  ·exact .inr (.inr hx)
theorem yV {key:ByteArray}{EL es ER:List En}(lo:∀x∈EL,bn x.1 key=true)(hi:∀x∈ER,bn key x.1=true):jo (EL++(es++ER)) key=jo es key:=by
 rw[Bool.eq_iff_iff,fQ,fQ];simp only[List.mem_append];constructor
 ·rintro⟨x,hx|hx|hx,e⟩
  ·exact absurd e (fq (lo x hx))
  ·exact⟨x,hx,e⟩
  ·exact absurd e.symm (fq (hi x hx))
 ·rintro⟨x,hx,e⟩;exact⟨x,.inr (.inl hx),e⟩
theorem Rb {key:ByteArray}{EL es ER:List En}(h:Rg (EL++(es++ER)))(lo:∀x∈EL,bn x.1 key=true)(hi:∀x∈ER,bn key x.1=true):pE (EL++(es++ER)) key=pE es key:=by
 refine(LN h (oh h) fun v=>?_).2;simp only[List.mem_append];constructor
 ·rintro(hx|hx|hx)
  ·exact absurd rfl (fq (lo _ hx))
  ·exact hx
  ·exact absurd rfl (fq (hi _ hx))
 ·exact fun hx=>.inr (.inl hx)
end Go.Proofs.YtceoeaemenhbhabGreatDoor.P
end
section
namespace Go.Proofs.YtceoeaemenhbhabGreatDoor.P
open N
section
variable {room:Nat}{d:Dk}
theorem Nz {free:List Pr}{id:Int}(hc:Cn free)(h0:0<=id∧id<=4294967295)(hn:¬df free id):jd (BB free [(id,id)])=jd free+1:=by
 have h1:=DX free [(id,id)];have c1:Cn [(id,id)]:=⟨fun r hr=>by rw[List.mem_singleton.1 hr];exact⟨h0.1,Int.le_refl _,h0.2⟩,by simp⟩;have e1:ub free [(id,id)]=[]:=qX _ _ (nw _ _) Cn.nil fun n=>by
  rw[nE];constructor
  ·rintro⟨h2,h3⟩;have:=(eL _ _).1 h3;have e:n=id:=by have:=this.2.2;omega
   exact absurd (e▸h2) hn
  ·exact fun h2=>absurd h2 (dz n)
 rw[e1,ud hc,ud c1,pB]at h1;have e2:jd [(id,id)]=1:=by simp[jd]
 omega
theorem sR:∀(l:List Int) (x:TX),room<=4294967295->x.Ok room->(∀q∈l,(x.fresh q).isSome=true)->l.Nodup->
  (aH x l).Ok room∧(aH x l).pages=x.pages∧(aH x l).cnt=x.cnt∧(∀q,(aH x l).fresh q=if q∈l then none else x.fresh q)∧(∀q,df (aH x l).free q↔df x.free q∨q∈l)∧(aH x l).cap room=x.cap room+l.length
 |[],x,_,ok,_,_=>⟨ok,rfl,rfl,by simp[aH],by simp[aH],by simp[aH]⟩
 |id::l,x,hr,ok,hf,nd=>by
  have hid:=hf id (by simp);have k:=ok.fs id hid;have hpr:=ok.pr;obtain⟨n1,n2⟩:=List.nodup_cons.1 nd;have e0:x.drop id=⟨BB x.free [(id,id)],x.pages,qQ x.fresh id,x.cnt⟩:=by unfold TX.drop;rw[if_pos hid]
  have hnf:¬df x.free id:=fun c=>by rw[ok.dj id c]at hid;cases hid
  obtain⟨r1,r2,r3,r4,r5,r6⟩:=sR l (x.drop id) hr (TX.BC ok id) (fun q hq=>by
   rw[e0]
   simp only
   rw[nI,hf q (by simp[hq])]
   have:q≠id:=fun e=>n1 (e▸hq)
   simp[this]) n2
  have e1:aH x (id::l)=aH (x.drop id) l:=rfl;rw[e1];refine⟨r1,by rw[r2,e0],by rw[r3,e0],fun q=>?_,fun q=>?_,?_⟩
  ·rw[r4 q,e0];simp only[qQ,List.mem_cons];by_cases h1:q=id
   ·subst h1;simp
   ·simp[h1]
  ·rw[r5 q,e0];simp only;rw[vq,eL,List.mem_cons];constructor
   ·rintro((h1|h1)|h1)
    ·exact .inl h1
    ·exact .inr (.inl (by omega))
    ·exact .inr (.inr h1)
   ·rintro(h1|rfl|h1)
    ·exact .inl (.inl h1)
    ·exact .inl (.inr ⟨by omega,by omega,by simp,by simp⟩)
    ·exact .inr h1
  ·rw[r6,e0];unfold TX.cap;simp only;rw[Nz ok.cn (by omega) hnf,List.length_cons]
   push_cast
   omega
def JA (n:Nd):C3:=⟨true,(mW n).toNat.toUInt8,kN n⟩
theorem mK {n:Nd}(hf:cC n=true):(kN n).size<=240:=by
 have h1:=hf;unfold cC at h1;rw[Bool.and_eq_true,decide_eq_true_eq]at h1;unfold kN;rw[if_pos hf];show(wU n).toArray.size<=240;rw[List.size_toArray,gT h1.1];exact h1.2
theorem yX (nodes:Int->Option Nd):∀(L:List Int) (x:TX),x.Ok room->(∀q∈L,(x.fresh q).isSome=true∧∃n,nodes q=some n∧cC n=true)->
  (cM nodes x L).Ok room∧(cM nodes x L).pages=x.pages∧(cM nodes x L).free=x.free∧(cM nodes x L).cnt=x.cnt+L.length∧(∀q,(cM nodes x L).fresh q=if q∈L then(nodes q).map JA else x.fresh q)
 |[],x,ok,_=>⟨ok,rfl,rfl,rfl,by simp[cM]⟩
 |id::L,x,ok,hL=>by
  obtain⟨hf,n,hn,hfi⟩:=hL id (by simp);have hs:=mK hfi;have e0:(x.put id (mW ((nodes id).getD nd0)).toNat.toUInt8 (kN ((nodes id).getD nd0))).2=⟨x.free,x.pages,gp x.fresh id (JA n),x.cnt+1⟩:=by
   rw[hn];unfold TX.put;rw[if_pos hf,if_neg (by simp only[Option.getD_some];omega)];rfl
  have ok':=TX.PJ ok id (mW ((nodes id).getD nd0)).toNat.toUInt8 (kN ((nodes id).getD nd0));rw[e0]at ok';obtain⟨r1,r2,r3,r4,r5⟩:=yX nodes L _ ok' (fun q hq=>⟨by simp only;rw[dB,(hL q (by simp[hq])).1,Bool.or_true],(hL q (by simp[hq])).2⟩);have e1:cM nodes x (id::L)=cM nodes ⟨x.free,x.pages,gp x.fresh id (JA n),x.cnt+1⟩ L:=by rw[cM,e0]
  rw[e1];refine⟨r1,r2,r3,by rw[r4,List.length_cons];simp only;omega,fun q=>?_⟩;rw[r5 q];by_cases h1:q∈L
  ·simp[h1]
  ·by_cases h2:q=id
   ·subst h2;simp[h1,hn,gp]
   ·simp[h1,h2,gp]
theorem UZ {y:TX}{p:Int}{n:Nd}(hp:2<=p)(hf:cC n=true)(hc:y.fresh p=some (JA n)):(eY y).vw d p=(n,0):=by
 have h1:=hf;unfold cC at h1;rw[Bool.and_eq_true,decide_eq_true_eq]at h1;have hd:=xP h1.1 h1.2;have hb:(kN n).data.toList=wU n:=by unfold kN;rw[if_pos hf]
 have hk:mW n=wV n:=by unfold mW;rw[if_pos hf]
 unfold Dr.vw Dr.read dC;have e0:¬(((eY y).nodes p).isSome=true∧(0:Int)<24):=by simp[eY]
 rw[if_neg e0,if_neg (by omega),if_neg (by omega)];have ex:(eY y).x=y:=rfl;rw[ex];unfold bU TX.get;rw[hc];by_cases hl:n.leaf=true
 ·have e1:wV n=1:=by unfold wV;rw[if_pos hl]
  have e2:(JA n).kind=1:=by show(mW n).toNat.toUInt8=1;rw[hk,e1];rfl
  have e3:(JA n).there=true:=rfl;have e4:(JA n).body=kN n:=rfl;simp only[e2,e3,e4,and_self,if_true];unfold tP tC uu;rw[hb];rw[e1]at hd;rw[hd];simp[kB]
 ·have e1:wV n=2:=by unfold wV;rw[if_neg hl]
  have e2:(JA n).kind=2:=by show(mW n).toNat.toUInt8=2;rw[hk,e1];rfl
  have e3:(JA n).there=true:=rfl;have e4:(JA n).body=kN n:=rfl;have e5:¬((2:UInt8)=1):=by decide
  simp only[e2,e3,e4,e5,and_self,and_false,if_false,if_true];unfold tP tC uu;rw[hb];rw[e1]at hd;rw[hd];simp[kB]
end
end Go.Proofs.YtceoeaemenhbhabGreatDoor.P
end
section
namespace Go.Proofs.YtceoeaemenhbhabGreatDoor.P
open N
section
variable {room:Nat}{d:Dk}{x:TX}{root:Int}{E:List En}{X:List Int}{H:Nat}{key:ByteArray}{ed:List En->List En}
theorem sd0 (ok:x.Ok room)(bz:∀q c,x.fresh q=some c->c.body.size<=240):Sd room (eY x):=⟨ok,(fun _ hc=>by cases hc),(fun _ hc=>by cases hc),List.nodup_nil,(fun _ _ hc=>by cases hc),bz,(fun _ hc=>by cases hc)⟩
theorem TS.move {S S2:Dr}(T:TS room d S root E X H)(sd:Sd room S2)(us:∀p∈X,Us S2 p)(vw:∀p∈X,S2.vw d p=S.vw d p):TS room d S2 root E X H:=by
 rcases T with⟨a,b,c,_,f⟩| ⟨h,u,a,G,tb,e,rfl,f⟩
 ·exact .inl ⟨a,b,c,sd,f⟩
 ·refine .inr ⟨h,u,a,Gt.of sd G.g.wl G.g.sz us G.Jw.2.1 (fun y hy=>?_) G.g.od G.g.vl,tb,e,rfl,f⟩;have hm:y.1∈dN u:=List.mem_map_of_mem (f:=Prod.fst) hy;rw[vw y.1 hm];exact G.Jw.2.2 y hy
theorem TS.us {S:Dr}(T:TS room d S root E X H):∀p∈X,Us S p:=T.fm.us
theorem TS.sd {S:Dr}(T:TS room d S root E X H):Sd room S:=T.fm.ok
structure Tx (room:Nat)(d:Dk)(x:TX)(root:Int)(E:List En)(X:List Int)(H:Nat):Prop where
 ts:TS room d (eY x) root E X H
 own:∀p,(x.fresh p).isSome=true->p∈X
structure Mn (room:Nat)(x:TX)(X:List Int):Prop where
 all:∀p∈X,(x.fresh p).isSome=true
 cap:x.cap room+X.length=(room:Int)-2
theorem JD {z:Int}{c:Nat}{S':Dr}{r:Int}{E':List En}{X':List Int}{H':Nat}(hr:room<=16384)(T:Tx room d x root E X H)(T':TS room d S' r E' X' H')(F:Fm room d c ((eY x).bt z) X S' X')(L:List Int)(hL:∀k,k∈L↔(S'.nodes k).isSome=true):
  Tx room d (cM S'.nodes (aH S'.x S'.spare) L) r E' X' H'∧(Mn room x X->Mn room (cM S'.nodes (aH S'.x S'.spare) L) X')∧(cM S'.nodes (aH S'.x S'.spare) L).cnt=S'.x.cnt+L.length∧∀k∈L,k∈X':=by
 have sd:=F.ok;obtain⟨a1,a2,a3,a4,a5,a6⟩:=sR S'.spare S'.x (by omega) sd.x sd.sp sd.sn;obtain⟨b1,b2,b3,b4,b5⟩:=yX S'.nodes L (aH S'.x S'.spare) a1 (fun q hq=>by
  have h1:=(hL q).1 hq
  have h2:=sd.nf q h1
  obtain⟨n,hn⟩:=Option.isSome_iff_exists.1 h1
  exact⟨by rw[a4 q,if_neg h2.2];exact h2.1,n,hn,sd.fi q n hn⟩)
 generalize hy:cM S'.nodes (aH S'.x S'.spare) L=y at*;have fr:∀q,y.fresh q=if q∈L then(S'.nodes q).map JA else if q∈S'.spare then none else S'.x.fresh q:=fun q=>by rw[b5 q,a4 q]
 have fs:∀q,(y.fresh q).isSome=true↔(S'.x.fresh q).isSome=true∧q∉S'.spare:=fun q=>by
  rw[fr q];by_cases h1:q∈L
  ·have h2:=(hL q).1 h1;have h3:=sd.nf q h2;rw[if_pos h1];simp[h2,h3]
  ·rw[if_neg h1];by_cases h2:q∈S'.spare
   ·rw[if_pos h2];simp[h2]
   ·rw[if_neg h2];simp[h2]
 have bz:∀q c,y.fresh q=some c->c.body.size<=240:=fun q c hc=>by
  rw[fr q]at hc;split at hc
  ·obtain⟨n,hn,rfl⟩:=Option.map_eq_some_iff.1 hc;exact mK (sd.fi q n hn)
  ·split at hc
   ·cases hc
   ·exact sd.bz q c hc
 have inf:∀q,df y.free q↔df S'.x.free q∨q∈S'.spare:=fun q=>by rw[b3];exact a5 q
 have us:∀p∈X',Us (eY y) p:=fun p hp=>by
  have h1:=T'.us p hp;refine⟨h1.lo,?_,fun hc=>?_,by simp[eY]⟩
  ·show p< (y.pages:Int);rw[b2,a2];exact h1.hi
  ·rcases(inf p).1 hc with h2|h2
   ·exact h1.fr h2
   ·exact h1.sp h2
 have vw:∀p∈X',(eY y).vw d p=S'.vw d p:=fun p hp=>by
  have h1:=T'.us p hp;by_cases h2:p∈L
  ·obtain⟨n,hn⟩:=Option.isSome_iff_exists.1 ((hL p).1 h2);rw[UZ h1.lo (sd.fi p n hn) (by rw[fr p,if_pos h2,hn];rfl)];simp[Dr.vw,Dr.read,hn]
  ·have hn:S'.nodes p=none:=by
    cases hc:S'.nodes p with
    |none=>rfl
    |some n=>exact absurd ((hL p).2 (by rw[hc];rfl)) h2
   have hf:y.fresh p=S'.x.fresh p:=by rw[fr p,if_neg h2,if_neg h1.sp]
   have hg:∀k,bU y d p k=bU S'.x d p k:=fun k=>by
    unfold bU TX.get;rw[hf,b2,a2,jb (show¬df y.free p from(us p hp).fr),jb h1.fr]
   exact mN (S':=eY y) (hg 1) (hg 2) (by rw[hn];rfl)
 refine⟨⟨T'.move (sd0 b1 bz) us vw,fun p hp=>?_⟩,fun M=>⟨fun p hp=>?_,?_⟩,by rw[b4,a3],fun k hk=>?_⟩
 ·have h1:=(fs p).1 hp;rcases F.tight p h1.1 h1.2 with h2| ⟨h2,_,h3⟩
  ·exact h2
  ·exact absurd (T.own p h2) h3
 ·have hm:=(F.mine (fun q hq=>(dK _ q).2 ⟨M.all q hq,by simp[eY,Dr.bt]⟩)).1 p hp;exact(fs p).2 ((dK _ p).1 hm)
 ·have hm:=(F.mine (fun q hq=>(dK _ q).2 ⟨M.all q hq,by simp[eY,Dr.bt]⟩)).2.2;have h1:=F.cap;have h2:=M.cap;have h3:y.cap room=S'.x.cap room+S'.spare.length:=by
   have:y.cap room=(aH S'.x S'.spare).cap room:=by unfold TX.cap;rw[b3,b2]
   rw[this,a6]
  have e1:((eY x).bt z).taken.length=0:=rfl;have e2:((eY x).bt z).spare.length=0:=rfl;have e3:((eY x).bt z).x=x:=rfl;rw[e1,e2]at hm;rw[e1,e3]at h1;rw[h3];omega
 ·have h1:=sd.nf k ((hL k).1 hk);rcases F.tight k h1.1 h1.2 with h2| ⟨h2,_,h3⟩
  ·exact h2
  ·exact absurd (T.own k h2) h3
theorem OP (hr:room<=16384)(EH:Nt key ed){f m:Nat}(T:Tx room d x root E X H)(hH:H+1<24)(hf:3*(X.length+2*H+2)+5<=f)(hb:Bd (eY x) (X.length+8*H+30+m)):
  ∃es r e S',E9 d key es 30 (eY x) ⟨false,[],[root],[]⟩ (-1)∧jU (bp room d f) room d key ed root (eY x)=some ((r,e),S')∧Sd room S'∧(S'.cnt<=X.length+4*H+6∧S'.x.cnt<=x.cnt+X.length+4*H+6∧S'.taken.length<=X.length+4*H+6∧S'.spare.length<=X.length+4*H+6)∧
   (e≠0->e=2∧(Mn room x X->x.cap room<=4*H+4))∧
   (∃EL ER,E=EL++(es++ER)∧(∀x∈EL,bn x.1 key=true)∧∀x∈ER,bn key x.1=true)∧
   (e=0->∃X' H' E' EL ER,Q9 key ed E E' EL es ER∧H'<=H+1∧∀L,(∀k,k∈L↔(S'.nodes k).isSome=true)->Tx room d (cM S'.nodes (aH S'.x S'.spare) L) r E' X' H'∧(Mn room x X->Mn room (cM S'.nodes (aH S'.x S'.spare) L) X')∧(cM S'.nodes (aH S'.x S'.spare) L).cnt=S'.x.cnt+L.length∧∀k∈L,k∈X'):=by
 obtain⟨es,r,e,S',lf,h1,⟨z,h2⟩,h3,h4⟩:=Nw (m:=m) (f:=f) (S:=eY x) hr (fun h=>Jr hr h) EH rfl T.ts hH hf hb;have bnd:∀(z':Int) (X':List Int),Fm room d (4*H+6) ((eY x).bt z') X S' X'->S'.cnt<=X.length+4*H+6∧S'.x.cnt<=x.cnt+X.length+4*H+6∧S'.taken.length<=X.length+4*H+6∧S'.spare.length<=X.length+4*H+6:=fun z' X' F=>by
  have k1:=F.cnt;have k2:=F.mM;have k3:=F.Bc;have k4:=F.Da;have e1:((eY x).bt z').taken.length=0:=rfl;have e2:((eY x).bt z').spare.length=0:=rfl;have e3:((eY x).bt z').x.cnt=x.cnt:=rfl;have e4:((eY x).bt z').cnt=0:=rfl;omega
 by_cases he:e=0
 ·subst he;obtain⟨z',X',H',E',EL,ER,q1,q2,q3,q4⟩:=h3 rfl;exact⟨es,r,0,S',lf,h1,q2.ok,bnd z' X' q2,fun hc=>absurd rfl hc,h4,fun _=>⟨X',H',E',EL,ER,q4,q3,fun L hL=>JD hr T q1 q2 L hL⟩⟩
 ·obtain⟨g1,Xm,F,g2,g3⟩:=h2 he;refine⟨es,r,e,S',lf,h1,F.ok,bnd z Xm (F.mono (by omega)),fun _=>⟨g1,fun M=>?_⟩,h4,fun hc=>absurd hc he⟩;have hm:=(F.mine (fun q hq=>(dK _ q).2 ⟨M.all q hq,by simp[eY,Dr.bt]⟩)).2.1;have k1:=F.cap;have e1:((eY x).bt z).taken.length=0:=rfl;have e3:((eY x).bt z).x=x:=rfl;have k2:S'.x.cap room<=0:=by
   unfold TX.cap;rw[g2,pB];omega
  rw[e1]at hm;rw[e1,e3]at k1;omega
end
end Go.Proofs.YtceoeaemenhbhabGreatDoor.P
end
section
namespace Go.Proofs.YtceoeaemenhbhabGreatDoor
open Go.Shelf Go.RowKit Go.Lib Go.Sort
open N (Nd nd0 cC dm dX iF fO Sm dt En Ae xH kM pH eU)
section
variable {B:Nat}{w0 w w':World}{l:List aN}{P:List NV}{C:Cx}{S S':Dr}{x:TX}{d d1:Dk}{r er Nb:Int}{cf:pS}{key val:ByteArray}{es0:List En}{qk qv:Nat}
theorem Rc (T:bY B w0)(hst:∀C:Cx,aW B w0 C d Nb cf)(eh:∀ {S S':Dr} {n:Nd} {depth i tt:Int} {r:Nd×Int},DI S d.room->cf S n depth i tt=some (r,S')->DI S' d.room)(eQ:∀ {S9 S8:Dr} {n9:Nd} {i9 j9 k9:Int} {r9:Nd×Int},cf S9 n9 i9 j9 k9=some (r9,S8)->bW n9=true)(hel:∀es,((fun es=>xH es key) es).length<=es.length+1)(hr:d.room<=16384)(hNb:Nb<=1000000)(hN0:29<=Nb)(hd:bh d d1)(h:Sep B w0 w (TL C x d1 P l))(I:DI (eY x) d.room)(Ks:DI S' d.room)(hF:Fin S')(hlf:sY d key es0 30 (eY x) ⟨false,[],[C.root],[]⟩ (-1))(he:jU cf d.room d key (fun es=>xH es key) C.root (eY x)=some ((r,er),S'))(h0:C.err=0):Calls Tryz.prog 17 #[ptr C.tq,.string key] w fun e w'=>e=.returned (.tuple #[.bool (kM es0 key&&decide (er=0)),.int .i64 er])∧GK B w0 C S' d P l r er w':=by
 have S1:Hid (Sep B w0 ((w.alloc (.cells #[.string key] 9)).alloc (.cells #[.bool false] 4)) (TL C x d1 P ((Both (ax w.heap.size (.cells #[.string key] 9)) (ax (w.heap.size+1) (.cells #[.bool false] 4)))::l))):=Sep.pb [_,_,_,_] (Sep.join (Sep.qO (Sep.aP (Sep.aO h _) _ (w.heap.size+1) (by simp))));have KG:Hid _:=gy (w.alloc (.cells #[.string key] 9)) C.tq;have KC:Hid (Calls Tryz.prog 29 #[ptr C.tq,.string key,.func (.func 36) #[] #[.pointer (some ⟨w.heap.size,0,none⟩),.pointer (some ⟨w.heap.size+1,0,none⟩)]] ((w.alloc (.cells #[.string key] 9)).alloc (.cells #[.bool false] 4)) (GH B w0 C S' d P l (Both (ax w.heap.size (.cells #[.string key] 9)) (ax (w.heap.size+1) (.cells #[.bool false] 4))) (Both (ax w.heap.size (.cells #[.string key] 9)) (ax (w.heap.size+1) (.cells #[.bool (kM es0 key)] 4))) r er)):=uM.2 T hst (fun h1 h2=>eh h1 h2) (fun h=>eQ h) (fun C=>QR) hlf hel hr hNb hN0 hd S1.out I Ks hF he;obtain⟨ts,⟨t0,t1,t2⟩,_⟩:=Sep.uI (Sep.pk [_,_] (h));rw[h0]at t2;generalize kM es0 key=gb at*;clear h h0 hst eh eQ hel hr hNb hN0 hd I Ks hF hlf he S1;go_enter Tryz.func17,Tryz.ntmps17
 go_wp2_with fail
 refine Calls.mono KG.out ?_;rintro e w1 ⟨rfl,rfl⟩;clear KG
 go_wp2_with fail
 generalize(w.alloc (.cells #[.string key] 9)).alloc (.cells #[.bool false] 4)=w2 at*;generalize w.heap.size+1=q1 at*;generalize w.heap.size=q0 at*;refine Calls.mono KC.out ?_;rintro e w3 ⟨rfl,P',d',V,a1,a2,a3,a4,a5⟩;have Kt:Hid (GK B w0 C S' d P l r er w3):=by
  refine⟨P',d',a1,a4,?_⟩;rcases a5 with⟨b1,b2⟩| ⟨b1,L,b2,b3⟩
  ·exact .inl ⟨b1,Sep.drop (Sep.pk [_,_,_,_] (b2))⟩
  ·exact .inr ⟨b1,L,b2,Sep.drop (Sep.pk [_,_,_,_] (b3))⟩
 obtain⟨C2,x2,hS⟩:∃C2 x2,Sep B w0 w3 (TL C2 x2 d' P' (V::l)):=by
  rcases a5 with⟨b1,b2⟩| ⟨b1,L,b2,b3⟩
  ·exact⟨_,_,b2⟩
  ·exact⟨_,_,b3⟩
 have HA:Hid (er=0->V=(Both (ax q0 (.cells #[.string key] 9)) (ax q1 (.cells #[.bool gb] 4)))):=a3;clear KC a1 a4 a5 a3 t0 t1 t2 ts;by_cases e0:er=0
 ·subst e0;have hV:=HA.out rfl;subst hV;have S3:Hid (Sep B w0 w3 (TL C2 x2 d' P' ((Both (ax q0 (.cells #[.string key] 9)) (ax q1 (.cells #[.bool gb] 4)))::l))):=hS;clear hS a2 HA;cases gb with
  |false=>
   obtain⟨vs,v1,_⟩:=Sep.c1 (Sep.pk [_] (Sep.ei (Sep.pk [_,_,_,_] (S3.out))));have HG:Hid (GK B w0 C S' d P l r 0 w3):=Kt.out;clear S3 Kt;go_wp2;go_ret2;exact⟨rfl,HG.out⟩
  |true=>
   obtain⟨vs,v1,_⟩:=Sep.c1 (Sep.pk [_] (Sep.ei (Sep.pk [_,_,_,_] (S3.out))));have HG:Hid (GK B w0 C S' d P l r 0 w3):=Kt.out;clear S3 Kt;go_wp2;go_ret2;exact⟨rfl,HG.out⟩
 ·have hne:(er==0)=false:=beq_eq_false_iff_ne.2 e0;have HN:Hid (er≠0):=e0;rcases a2 with rfl|rfl
  ·have S3:Hid (Sep B w0 w3 (TL C2 x2 d' P' ((Both (ax q0 (.cells #[.string key] 9)) (ax q1 (.cells #[.bool false] 4)))::l))):=hS;clear hS HA e0;obtain⟨vs,v1,_⟩:=Sep.c1 (Sep.pk [_] (Sep.ei (Sep.pk [_,_,_,_] (S3.out))));have HG:Hid (GK B w0 C S' d P l r er w3):=Kt.out;clear S3 Kt;go_wp2;go_ret2;exact⟨by simp[HN.out],HG.out⟩
  ·have S3:Hid (Sep B w0 w3 (TL C2 x2 d' P' ((Both (ax q0 (.cells #[.string key] 9)) (ax q1 (.cells #[.bool gb] 4)))::l))):=hS;clear hS HA e0;cases gb with
   |false=>
    obtain⟨vs,v1,_⟩:=Sep.c1 (Sep.pk [_] (Sep.ei (Sep.pk [_,_,_,_] (S3.out))));have HG:Hid (GK B w0 C S' d P l r er w3):=Kt.out;clear S3 Kt;go_wp2;go_ret2;exact⟨by simp[HN.out],HG.out⟩
   |true=>
    obtain⟨vs,v1,_⟩:=Sep.c1 (Sep.pk [_] (Sep.ei (Sep.pk [_,_,_,_] (S3.out))));have HG:Hid (GK B w0 C S' d P l r er w3):=Kt.out;clear S3 Kt;go_wp2;go_ret2;exact⟨by simp[HN.out],HG.out⟩
end
end Go.Proofs.YtceoeaemenhbhabGreatDoor
end
section
namespace Go.Proofs.YtceoeaemenhbhabGreatDoor.P
open Go.Shelf Go.RowKit Go.Lib Go.Sort
open N (Nd nd0 cC dm dX iF fO Sm dt En Ae xH kM pH eU cF fY jq lJ kW jo pE Rg bn cH)
theorem Bi {d:Dk}{key:ByteArray}{es:List En}:∀(f:Nat) (S:Dr) (n:Nd) (depth:Int),E9 d key es f S n depth->sY d key es f S n depth
 |0,_,_,_,_=>trivial
 |f+1,S,n,depth,h=>by
  rw[E9]at h;rw[sY];split
  ·rename_i hl
   rw[if_pos hl]at h;exact h
  ·rename_i hl
   rw[if_neg hl]at h;exact fun h0=>Bi f S _ _ (h h0)
theorem Dl {α:Type}[DecidableEq α]:∀ {l m:List α},l.Nodup->(∀a∈l,a∈m)->l.length<=m.length
 |[],_,_,_=>Nat.zero_le _
 |x::l,m,nd,hs=>by
  obtain⟨n1,n2⟩:=List.nodup_cons.1 nd;have h1:=Dl (l:=l) (m:=m.erase x) n2 (fun a ha=>(List.mem_erase_of_ne (fun e=>n1 (by rw[<-e];exact ha))).2 (hs a (List.mem_cons_of_mem _ ha)));have h2:=List.length_erase_of_mem (hs x (List.mem_cons_self ..));have h3:0<m.length:=List.length_pos_of_mem (hs x (List.mem_cons_self ..));rw[List.length_cons];omega
theorem Dm (x:En):∀l,(kW x l).length=l.length+1
 |[]=>rfl
 |y::l=>by
  unfold kW;split
  ·simp
  ·simp[Dm x l]
theorem qw (key val:ByteArray)(es:List En):(Fq key val es).length<=es.length+1:=by
 unfold Fq jq lJ;split
 ·rw[Dm];have:=List.length_filter_le (fun x:En=>!decide (x.1=key)) es;omega
 ·omega
theorem NC (key:ByteArray)(es:List En):(Tj key es).length<=es.length+1:=by
 unfold Tj lJ;split
 ·have:=List.length_filter_le (fun x:En=>!decide (x.1=key)) es;omega
 ·omega
section
variable {B:Nat}{w0 w:World}{C:Cx}{x:TX}{d d1:Dk}{P:List NV}{l:List aN}{key val:ByteArray}{E:List En}{X:List Int}{H:Nat}
theorem Sd.di {room:Nat}{S:Dr}(h:Sd room S):DI S room:=⟨h.x,h.bz,h.fi⟩
theorem Sd.fin {room:Nat}{S:Dr}(hr:room<=16384)(h:Sd room S)(h1:S.taken.length<=100000)(h2:S.spare.length<=100000)(h3:S.cnt<=100000)(h4:S.x.cnt+S.cnt<1000000):Fin S:=by
 have key:∀k,(S.x.fresh k).isSome=true->Wf k:=fun k hk=>by
  have:=h.x.fs k hk;have:=h.x.pr;exact⟨by omega,by omega⟩
 exact⟨h1,fun k hk=>key k (h.tk k hk),h2,fun k hk=>key k (h.sp k hk),h3,h4,fun k hk=>key k (h.nf k hk).1⟩
theorem OQ (room:Nat)(d:Dk)(f:Nat):∀ {S S':Dr} {n:Nd} {depth i tt:Int} {r:Nd×Int},DI S room->bp room d f S n depth i tt=some (r,S')->DI S' room:=fun h he=>DI.settle f h he
theorem OS (room:Nat)(d:Dk)(f:Nat):∀ {S9 S8:Dr} {n9:Nd} {i9 j9 k9:Int} {r9:Nd×Int},bp room d (f+1) S9 n9 i9 j9 k9=some (r9,S8)->bW n9=true:=fun {S9 S8 n9 i9 j9 k9 r9} he=>by
 unfold bp at he;rw[aZ]at he;cases hs:bW n9 with
 |true=>rfl
 |false=>rw[if_pos (.inl hs)]at he;cases he
def GX (B:Nat)(w0:World)(C:Cx)(x:TX)(d:Dk)(P:List NV)(l:List aN)(X:List Int)(H:Nat)(E':List En)(er:Int)(w':World):Prop:=
 ∃P' d',(∀y∈P,y∈P')∧bh d d'∧((er=2∧(Mn d.room x X->x.cap d.room<=4*H+4)∧∃x',Sep B w0 w' (TL (C.yM 2) x' d' P' l))∨
  (er=0∧∃x' r X' H',Tx d.room d x' r E' X' H'∧(Mn d.room x X->Mn d.room x' X')∧x'.cnt<=x.cnt+X.length+4*H+6+X'.length∧Sep B w0 w' (TL (C.dM r) x' d' P' l)))
theorem OT {S':Dr}{r er:Int}{E':List En}{w':World}(g:GK B w0 C S' d P l r er w')(h1:er≠0->er=2∧(Mn d.room x X->x.cap d.room<=4*H+4))(h2:S'.x.cnt<=x.cnt+X.length+4*H+6)
  (h3:er=0->∃X' H',∀L,(∀k,k∈L↔(S'.nodes k).isSome=true)->Tx d.room d (cM S'.nodes (aH S'.x S'.spare) L) r E' X' H'∧(Mn d.room x X->Mn d.room (cM S'.nodes (aH S'.x S'.spare) L) X')∧(cM S'.nodes (aH S'.x S'.spare) L).cnt=S'.x.cnt+L.length∧∀k∈L,k∈X'):GX B w0 C x d P l X H E' er w':=by
 obtain⟨P',d',m1,m2,m3⟩:=g;refine⟨P',d',m1,m2,?_⟩;rcases m3 with⟨he,s⟩| ⟨he,L,⟨lp,lm⟩,s⟩
 ·obtain⟨e2,hc⟩:=h1 he;subst e2;exact .inl ⟨rfl,hc,_,s⟩
 ·obtain⟨X',H',q⟩:=h3 he;obtain⟨q1,q2,q3,q4⟩:=q L lm;have nd:L.Nodup:=lp.imp fun hab e=>by omega
  have hl:=Dl nd q4;exact .inr ⟨he,_,r,X',H',q1,q2,by omega,s⟩
theorem Re (T:bY B w0)(hr:d.room<=16384)(hd:bh d d1)(h:Sep B w0 w (TL C x d1 P l))(h0:C.err=0)(hm:cF key val=true)(TT:Tx d.room d x C.root E X H)(hX:X.length<=3000)(hH:H<=20)(hc:x.cnt<=800000):
  Calls Tryz.prog 10 #[ptr C.tq,.string key,.string val] w fun e w'=>∃er,e=.returned (.int .i64 er)∧GX B w0 C x d P l X H (jq E key val) er w':=by
 obtain⟨es,r,er,S',lf,g1,g2,⟨b1,b2,b3,b4⟩,g3,g4,g5⟩:=OP (f:=10000) (m:=0) hr (Nx hm) TT (by omega) (by omega) ⟨by show 0+_<_;omega,by show x.cnt+_<_;omega,by show 0+_<_;omega,by show 0+_<_;omega⟩;have hE:=TT.ts.rg;refine(QS (es0:=es) (cf:=bp d.room d 10000) (Nb:=90000) T (fun C=>sq T hr 10000) (OQ d.room d 10000) (OS d.room d 9999) (qw key val) hr (by omega) (by omega) hd h TT.ts.sd.di g2.di (g2.fin hr (by omega) (by omega) (by omega) (by omega)) (Bi _ _ _ _ lf) g1 h0 (by unfold eU;rw[if_pos hm])).mono fun e w' hh=>?_;obtain⟨he,gk⟩:=hh;refine⟨er,he,OT gk g3 b2 fun h00=>?_⟩;obtain⟨X',H',E',EL,ER,q1,q2,q3⟩:=g5 h00;refine⟨X',H',fun L hL=>?_⟩;obtain⟨t1,t2,t3,t4⟩:=q3 L hL;have eE:=q1.put hm hE t1.ts.rg;rw[eE]at t1;exact⟨t1,t2,t3,t4⟩
theorem Rf (T:bY B w0)(hr:d.room<=16384)(hd:bh d d1)(h:Sep B w0 w (TL C x d1 P l))(h0:C.err=0)(TT:Tx d.room d x C.root E X H)(hX:X.length<=3000)(hH:H<=20)(hc:x.cnt<=800000):
  Calls Tryz.prog 17 #[ptr C.tq,.string key] w fun e w'=>∃er,e=.returned (.tuple #[.bool (jo E key&&decide (er=0)),.int .i64 er])∧GX B w0 C x d P l X H (lJ E key) er w':=by
 obtain⟨es,r,er,S',lf,g1,g2,⟨b1,b2,b3,b4⟩,g3,⟨EL,ER,rfl,lo,hi⟩,g5⟩:=OP (f:=10000) (m:=0) hr (Ny key) TT (by omega) (by omega) ⟨by show 0+_<_;omega,by show x.cnt+_<_;omega,by show 0+_<_;omega,by show 0+_<_;omega⟩;have hE:=TT.ts.rg;have hg:kM es key=jo (EL++(es++ER)) key:=by
  unfold kM;rw[N.fE (oh hE),Bool.true_and,yV lo hi]
 refine(Rc (es0:=es) (cf:=bp d.room d 10000) (Nb:=90000) T (fun C=>sq T hr 10000) (OQ d.room d 10000) (OS d.room d 9999) (NC key) hr (by omega) (by omega) hd h TT.ts.sd.di g2.di (g2.fin hr (by omega) (by omega) (by omega) (by omega)) (Bi _ _ _ _ lf) g1 h0).mono fun e w' hh=>?_;obtain⟨he,gk⟩:=hh;refine⟨er,by rw[<-hg];exact he,OT gk g3 b2 fun h00=>?_⟩;obtain⟨X',H',E',EL',ER',q1,q2,q3⟩:=g5 h00;refine⟨X',H',fun L hL=>?_⟩;obtain⟨t1,t2,t3,t4⟩:=q3 L hL;have eE:=q1.del hE t1.ts.rg;rw[eE]at t1;exact⟨t1,t2,t3,t4⟩
end
end Go.Proofs.YtceoeaemenhbhabGreatDoor.P
end
section
namespace Go.Proofs.YtceoeaemenhbhabGreatDoor
open N
def a8 (tt k:ByteArray):Bool:=decide (tt=⟨#[]⟩)||bn k tt
def ju (ss:List ByteArray)(i:Nat)(fr:ByteArray):ByteArray:=if 0<i∧bn fr (ss.getD (i-1) ⟨#[]⟩)=true then ss.getD (i-1) ⟨#[]⟩else fr
def gB (ss:List ByteArray)(i:Nat)(tt:ByteArray):ByteArray:=if i<ss.length∧a8 tt (ss.getD i ⟨#[]⟩)=true then ss.getD i ⟨#[]⟩else tt
section
variable {σ:Type}
def oL (st:σ->En->σ×Bool)(tt:ByteArray):List En->σ->σ×Option Bool
 |[],s=>(s,none)
 |e::l,s=>if a8 tt e.1=false then(s,some true)else if(st s e).2=false then((st s e).1,some false)else oL st tt l (st s e).1
def fM (rec:σ->Int->ByteArray->ByteArray->Option (σ×(Bool×Int)))(n:Nd)(fr tt:ByteArray):Nat->Nat->σ->Option (σ×(Bool×Int))
 |0,_,s=>some (s,(true,0))
 |k+1,i,s=>if n.ss.length<i then none else if a8 (gB n.ss i tt) (ju n.ss i fr)=false then some (s,(true,0))else
  match rec s (n.ks.getD i 0) (ju n.ss i fr) (gB n.ss i tt)with
  |none=>none
  |some (s1,(m,e))=>if e≠0∨m=false then some (s1,(false,e))else fM rec n fr tt k (i+1) s1
def dO (x:TX)(d:Dk)(st:σ->En->σ×Bool):Nat->σ->Int->Int->ByteArray->ByteArray->Option (σ×(Bool×Int))
 |0,_,_,_,_,_=>none
 |f+1,s,id,depth,fr,tt=>
  if(dC x d id depth).2≠0 then some (s,(false,(dC x d id depth).2))
  else if(bW (dC x d id depth).1&&dm (dC x d id depth).1)=false∨1000<depth then none
  else match(oL st tt ((dC x d id depth).1.es.drop (iD (dC x d id depth).1.es fr)) s).2 with
   |some b=>some ((oL st tt ((dC x d id depth).1.es.drop (iD (dC x d id depth).1.es fr)) s).1,(b,0))
   |none=>fM (fun s id fr tt=>dO x d st f s id (depth+1) fr tt) (dC x d id depth).1 fr tt ((dC x d id depth).1.ks.length-dt (dC x d id depth).1.ss fr) (dt (dC x d id depth).1.ss fr) (oL st tt ((dC x d id depth).1.es.drop (iD (dC x d id depth).1.es fr)) s).1
theorem mP {m:σ->Nat}{st:σ->En->σ×Bool}(hm:∀s e,m s<=m (st s e).1)(tt:ByteArray):∀(l:List En) (s:σ),m s<=m (oL st tt l s).1
 |[],s=>Nat.le_refl _
 |e::l,s=>by
  rw[oL];split
  ·exact Nat.le_refl _
  ·split
   ·exact hm s e
   ·exact Nat.le_trans (hm s e) (mP hm tt l _)
theorem gM {m:σ->Nat}{rec:σ->Int->ByteArray->ByteArray->Option (σ×(Bool×Int))}(hr:∀s k f t s' r,rec s k f t=some (s',r)->m s<=m s')(n:Nd)(fr tt:ByteArray):∀(k i:Nat) (s s':σ) (r:Bool×Int),fM rec n fr tt k i s=some (s',r)->m s<=m s'
 |0,i,s,s',r,h=>by cases h;exact Nat.le_refl _
 |k+1,i,s,s',r,h=>by
  rw[fM]at h;split at h
  ·cases h
  ·split at h
   ·cases h;exact Nat.le_refl _
   ·split at h
    ·cases h
    ·rename_i s1 mm e he
     have h1:=hr _ _ _ _ _ _ he;split at h
     ·cases h;exact h1
     ·exact Nat.le_trans h1 (gM hr n fr tt k (i+1) s1 s' r h)
theorem iV {m:σ->Nat}{st:σ->En->σ×Bool}(hm:∀s e,m s<=m (st s e).1)(x:TX)(d:Dk):∀(f:Nat) (s:σ) (id depth:Int) (fr tt:ByteArray) (s':σ) (r:Bool×Int),dO x d st f s id depth fr tt=some (s',r)->m s<=m s'
 |0,_,_,_,_,_,_,_,h=>by cases h
 |f+1,s,id,depth,fr,tt,s',r,h=>by
  rw[dO]at h;split at h
  ·cases h;exact Nat.le_refl _
  ·split at h
   ·cases h
   ·split at h
    ·cases h;exact mP hm tt _ s
    ·exact Nat.le_trans (mP hm tt _ s) (gM (fun s k f' t s' r hh=>iV hm x d f s k (depth+1) f' t s' r hh) _ _ _ _ _ _ _ _ h)
def kQ (st:σ->En->σ×Bool):List En->σ->σ×Bool
 |[],s=>(s,true)
 |e::l,s=>if(st s e).2=false then((st s e).1,false)else kQ st l (st s e).1
def dR (fr tt:ByteArray)(l:List En):List En:=l.filter fun e=>!bn e.1 fr&&a8 tt e.1
abbrev Pg:=Int×Int×Nd
end
def Fb (x:TX)(d:Dk)(key:ByteArray):Nat->Nd->Int->Int->Option (Nd×Int)
 |0,_,_,_=>none
 |f+1,n,e,depth=>if e=0∧n.leaf=false then(if bW n=false∨n.ks.length<=dt n.ss key∨1000<depth then none else
   Fb x d key f (dC x d (n.ks.getD (dt n.ss key) 0) depth).1 (dC x d (n.ks.getD (dt n.ss key) 0) depth).2 (depth+1))else some (n,e)
def tU (rec:List Pg->Int->Option (List Pg×Int)):List Int->List Pg->Option (List Pg×Int)
 |[],s=>some (s,0)
 |k::ks,s=>match rec s k with
  |none=>none
  |some (s1,e)=>if e≠0 then some (s1,e)else tU rec ks s1
def fI (x:TX)(d:Dk):Nat->List Pg->Int->Int->Option (List Pg×Int)
 |0,_,_,_=>none
 |f+1,s,id,depth=>
  if(dC x d id depth).2≠0 then some (s,(dC x d id depth).2)
  else if bW (dC x d id depth).1=false∨1000<depth∨depth<0∨(s.any fun p=>decide (p.1=id))=true∨100000<s.length then none
  else tU (fun s k=>fI x d f s k (depth+1)) (dC x d id depth).1.ks (s++[(id,depth,(dC x d id depth).1)])
end Go.Proofs.YtceoeaemenhbhabGreatDoor
end
section
namespace Go.Proofs.YtceoeaemenhbhabGreatDoor
open Go.Shelf Go.RowKit Go.Lib Go.Sort
open N (Nd nd0 cC dm dX iF fO Sm dt En Ae xH kM pH eU aT hidR aj ai Ch aI ah waits)
def JE (B:Nat)(w0:World)(C:Cx)(x:TX)(c1 c2 c3:Value)(es0:List En)(U U':aN):Prop:=
 ∀ {w:World} {d:Dk} {P:List NV} {l:List aN} {p:NV},Sep B w0 w (TL C x d P (U::l))->p∈P->p.n.es=es0->p.n.es.length<=500->
  Calls Tryz.prog 43 #[.slice p.ae p.n.es.length p.ce,c1,c2,c3] w fun e w'=>e=.returned (.tuple #[])∧Sep B w0 w' (TL C x d P (U'::l))
def JL (B:Nat)(w0:World)(C:Cx)(x:TX)(d:Dk)(P:List NV)(U:aN)(l:List aN)(q7:Nat)(cs:Array Value)(nn:Nd)(er:Int)(f9 f13:Bool)(v:Value)(w:World):Prop:=
 (f9=false->Sep B w0 w (TL C x d P (U::ax q7 (.cells cs 54)::l)))∧(f9=true->∃p d',p.n=nn∧v=.tuple #[.agg (cN p),.int .i64 er]∧gj d d' 2∧(f13=false->Sep B w0 w (TL C x d' (p::P) (U::ax q7 (.cells cs 54)::l)))∧(f13=true->Sep B w0 w (TL C x d' (p::P) (U::ax q7 (.cells (cN p) 54)::l))))∧(f13=true->f9=true)
section
variable {B:Nat}{w0 w:World}{l:List aN}{P:List NV}{C:Cx}{x:TX}{d d1:Dk}{key:ByteArray}{c1 c2 c3:Value}{es0:List En}{U U':aN}{m:Nd}{er:Int}
def GLf (B:Nat)(w0:World)(C:Cx)(x:TX)(d:Dk)(P:List NV)(U U':aN)(l:List aN)(er:Int)(e:Ending)(w':World):Prop:=
 e=.returned (.int .i64 er)∧∃P' d' V,(∀y∈P,y∈P')∧bh d d'∧(er=0->V=U')∧(er≠0->V=U)∧Sep B w0 w' (TL C x d' P' (V::l))
def JLr (B:Nat)(w0:World)(CC:Cx)(x:TX)(d:Dk)(P:List NV)(U:aN)(l:List aN)(nn:Nd)(er:Int)(q7 r ro Oy ck t:Nat)(kid dp:Int)(key:ByteArray)(cs:Array Value){y2 y3 y4 y5 y6 nO mo nP y13 mq kC kD k7 rU rV y20 y21 y22 y23 y24 y25 rW y27 y28 y29 tH y31 y32 rX y34 oW oX vQ vR vS vT vU tM yj:Value}(C:List Bool->Act->Prop)(w:World):Prop:=∀{f0 f1 f2 f3 f4 f5 f6 f7 f8 f9 f10 f11 f12 f13 f14:Bool}{x8 Ao x38 x39 x40 x41 Ku x43 Kv Kw Ky Fs Kz KH:Value},f14=false->JL B w0 CC x d P U l q7 cs nn er f9 f13 Fs w->Hid (f0=true->x38=ptr CC.tq)->Hid (f1=true->x39=.pointer (some ⟨q7,2,none⟩))->Hid (f2=true->x40=.slice (some ⟨r,ro,none⟩) Oy ck)->Hid (f3=true->x41=.agg cs)->Hid (f4=true->Ku=.string key)->Hid (f5=true->f3=true∧x43=.int .i64 (t:Int))->Hid (f6=true->f2=true∧f5=true∧Kv=.pointer (some ⟨r,ro+t,none⟩))->Hid (f7=true->f6=true∧Kw=.int .i64 kid)->Hid (f8=true->Ky=.int .i64 dp)->Hid (f9=true->f2=true∧f3=true∧f5=true∧f6=true∧f7=true∧True)->Hid (f10=true->f9=true∧Ao=Fs)->Hid (f11=true->f9=true∧Fs=.tuple #[Kz,.int .i64 er])->Hid (f12=true->f9=true∧KH=.int .i64 er)->Hid (f13=true->True)->C [f0,f1,f2,f3,f4,f5,f6,f7,f8,f9,f10,f11,f12,f13,f14] {tmps:=#[ptr CC.tq,.string key,y2,y3,y4,y5,y6,.pointer (some ⟨q7,0,none⟩),x8,.int .i64 dp,nO,mo,nP,y13,mq,kC,kD,k7,rU,rV,y20,y21,y22,y23,y24,y25,rW,y27,y28,y29,tH,y31,y32,rX,y34,oW,oX,Ao,x38,x39,x40,x41,Ku,x43,Kv,Kw,Ky,Fs,Kz,KH,vQ,vR,vS,vT,vU,tM,yj],defers:=[]}
theorem Rh {f:Nat}(T:bY B w0)(hr:d.room<=16384)(ok:x.Ok d.room)(hz:x.Sz)(h0:C.err=0)(hu:JE B w0 C x c1 c2 c3 es0 U U')(hw:Wf C.root)(hd:bh d d1)(h:Sep B w0 w (TL C x d1 P (U::l)))(he:Fb x d key f (dC x d C.root 0).1 (dC x d C.root 0).2 1=some (m,er))(hes:er=0->m.es=es0∧m.es.length<=500):
  Calls Tryz.prog 42 #[ptr C.tq,.string key,.func (.func 43) #[] #[c1,c2,c3]] w (GLf B w0 C x d P U U' l er):=by
 have Wd:Hid _:=nS (id:=C.root) (depth:=0) T h hw (by rw[hd.room];exact ok) (by rw[hd.room];exact hr) hz;rw[hd.dC]at Wd;have HU:Hid (JE B w0 C x c1 c2 c3 es0 U U'):=hu;have HES:Hid (er=0->m.es=es0∧m.es.length<=500):=hes;have HX:Hid (d.room<=16384∧x.Ok d.room∧x.Sz):=⟨hr,ok,hz⟩;have HD0:Hid (bh d d1):=hd;have Kr:Hid (Fb x d key f (dC x d C.root 0).1 (dC x d C.root 0).2 1=some (m,er)):=he;obtain⟨ts,⟨t0,t1,t2⟩,_⟩:=Sep.uI (Sep.pk [_,_] h);rw[h0]at t2;clear h hu hes hr ok hz hd he;generalize dC x d C.root 0=rr at*;obtain⟨n0,e0⟩:=rr;simp only at Wd Kr;go_enter Tryz.func42,Tryz.ntmps42
 go_wp2_with fail
 refine Calls.mono Wd.out ?_;rintro e v1 ⟨p0,d2,hn0,rfl,hd2,s1⟩;subst hn0;unfold NV.v;have D2:Hid (bh d d2):=HD0.out.trans ⟨_,hd2⟩;have S1:Hid (Sep B w0 (v1.alloc (.cells (cN p0) 54)) (TL C x d2 (p0::P) (U::ax v1.heap.size (.cells (cN p0) 54)::l))):=Sep.pb [_,_,_,_,_] (Sep.aP s1 _ _ rfl);clear Wd hd2 s1 t0 t1 t2 ts HD0;go_wp2;generalize v1.heap.size=q7 at*;generalize World.alloc _ _=v2 at*
 go_loopg [8,9] f (fun kx s8 s9 wr=>∃(g:Nat) (pc:NV) (Pc:List NV) (dc:Dk) (ec dp:Int),s8=.int .i64 ec∧s9=.int .i64 dp∧g<=kx∧Hid (1<=dp)∧Hid (Fb x d key g pc.n ec dp=some (m,er))∧Hid (pc∈Pc∧∀y∈P,y∈Pc)∧Hid (bh d dc)∧Hid (Sep B w0 wr (TL C x dc Pc (U::ax q7 (.cells (cN pc) 54)::l))))
 case atStart=>exact⟨f,p0,p0::P,d2,e0,1,rfl,rfl,Nat.le_refl _,(by show(1:Int)<=1;omega),Kr.out,⟨List.mem_cons_self ..,fun _ h=>List.mem_cons_of_mem _ h⟩,D2.out,S1.out⟩
 case round=>
  clear S1 D2 Kr;obtain⟨g,pc,Pc,dc,ec,dp,rfl,rfl,MR,HDP,HE,HP,HD,HS⟩:=hrel;cases g with
  |zero=>
   have:=HE.out;cases this
  |succ g=>
   have hE:=HE.out;unfold Fb at hE;obtain⟨_,⟨c0,c1',c2',c3'⟩,g0,g1,g2,g3⟩:=Sep.c4 (Sep.pk [_,_,_,_,_] HS.out);clear HE;by_cases hc:ec=0∧pc.n.leaf=false
   ·rw[if_pos hc]at hE;obtain⟨rfl,hlf⟩:=hc;by_cases hn:bW pc.n=false∨pc.n.ks.length<=dt pc.n.ss key∨1000<dp
    ·rw[if_pos hn]at hE;cases hE
    rw[if_neg hn]at hE;have hnn:bW pc.n=true∧dt pc.n.ss key<pc.n.ks.length∧dp<=1000:=by
     refine⟨?_,by omega,by omega⟩;cases hx:bW pc.n
     ·exact absurd (.inl hx) hn
     ·rfl
    obtain⟨hsm,hkl,hdp⟩:=hnn;obtain⟨im,_,_,_,hwk⟩:=eu hsm;obtain⟨ae,ce,ak,ck,az,cz,n⟩:=pc;simp only at*;obtain⟨r,ro,rfl,_,_⟩:=NV.kid (p:=⟨ae,ce,ak,ck,az,cz,n⟩) (Sep.pool (Sep.pk [_,_,_] HS.out) _ HP.out.1) (i:=dt n.ss key) hkl;have Ri:Hid (Wf (n.ks.getD (dt n.ss key) 0)):=by
     refine hwk _ ?_;rw[List.getD_eq_getElem?_getD,List.getElem?_eq_getElem hkl];exact List.getElem_mem _
    have KC:Hid (∀u,Sep B w0 u (TL C x dc Pc (U::ax q7 (.cells #[.bool n.leaf,.slice ae n.es.length ce,.slice (some ⟨r,ro,none⟩) n.ks.length ck,.slice az n.ss.length cz] 54)::l))->Calls Tryz.prog 59 #[.agg #[.bool n.leaf,.slice ae n.es.length ce,.slice (some ⟨r,ro,none⟩) n.ks.length ck,.slice az n.ss.length cz],.string key] u fun e w'=>e=.returned (.int .i64 (dt n.ss key))∧Sep B w0 w' (TL C x dc Pc (U::ax q7 (.cells #[.bool n.leaf,.slice ae n.es.length ce,.slice (some ⟨r,ro,none⟩) n.ks.length ck,.slice az n.ss.length cz] 54)::l))):=fun u hu=>(N.ki n key _ _ _ u (Sep.pool (Sep.pk [_,_,_] hu) _ HP.out.1) im).mono fun _ _ ⟨h1,h2⟩=>⟨h1,hu.below h2⟩;have hE2:Hid (Fb x d key g (dC x d (n.ks.getD (dt n.ss key) 0) dp).1 (dC x d (n.ks.getD (dt n.ss key) 0) dp).2 (dp+1)=some (m,er)):=hE;have MX:Hid ((⟨ae,ce,some ⟨r,ro,none⟩,ck,az,cz,n⟩:NV)∈Pc):=HP.out.1;have HTL:Hid (dt n.ss key<n.ks.length):=hkl;have U0:Hid (1<=dp∧dp<=1000):=⟨HDP.out,hdp⟩;generalize o0:n.ks.getD (dt n.ss key) 0=kid at*;have U4:Hid (n.ks.getD (dt n.ss key) 0=kid):=o0;have KR:Hid (∀u,Sep B w0 u (TL C x dc Pc (U::ax q7 (.cells #[.bool n.leaf,.slice ae n.es.length ce,.slice (some ⟨r,ro,none⟩) n.ks.length ck,.slice az n.ss.length cz] 54)::l))->Calls Tryz.prog 58 #[ptr C.tq,.int .i64 kid,.int .i64 dp] u (GN B w0 C x dc Pc (U::ax q7 (.cells #[.bool n.leaf,.slice ae n.es.length ce,.slice (some ⟨r,ro,none⟩) n.ks.length ck,.slice az n.ss.length cz] 54)::l) 2 (dC x d kid dp).1 (dC x d kid dp).2)):=fun u hu=>by
     have:=nS (id:=kid) (depth:=dp) T hu Ri.out (by rw[HD.out.room];exact HX.out.2.1) (by rw[HD.out.room];exact HX.out.1) HX.out.2.2
     rwa [HD.out.dC]at this
    rw[hlf]at c0;have ZU:Hid (n.leaf=false):=hlf;clear hE hn hsm im hwk hkl hdp o0 HDP
    go_wp2_with fail
    clear hlf c0 c1' c2' c3' g0 g1 g2 g3;refine aT 14 (JLr B w0 C x dc Pc U l (dC x d kid dp).1 (dC x d kid dp).2 q7 r ro n.ks.length ck (dt n.ss key) kid dp key #[.bool n.leaf,.slice ae n.es.length ce,.slice (some ⟨r,ro,none⟩) n.ks.length ck,.slice az n.ss.length cz]) (by kernel_rfl) (by kernel_rfl) (by kernel_rfl) (fun _ k=>k rfl ⟨fun _=>HS.out.drew,(fun h=>by cases h),fun h=>by cases h⟩ aj aj aj aj aj aj aj aj aj aj aj aj aj aj) ?_ ?_ ?_
    ·intro i w' hne f0 f1 f2 f3 f4 f5 f6 f7 f8 f9 f10 f11 f12 f13 f14 x8 Ao x38 x39 x40 x41 Ku x43 Kv Kw Ky Fs Kz KH e14 hB h0 h1 h2 h3 h4 h5 h6 h7 h8 h9 h10 h11 h12 bG hi;obtain⟨hlt,hun,_⟩:=aI hi;have hlt':i<15:=hlt;clear hlt;rcases(by omega:i=0∨i=1∨i=2∨i=3∨i=4∨i=5∨i=6∨i=7∨i=8∨i=9∨i=10∨i=11∨i=12∨i=13)with rfl|rfl|rfl|rfl|rfl|rfl|rfl|rfl|rfl|rfl|rfl|rfl|rfl|rfl
     ·refine ai rfl fun K HK=>?_;go_simp;exact HK.out _ _ fun _ k=>k e14 hB hidR h1 h2 h3 h4 h5 h6 h7 h8 h9 h10 h11 h12 bG
     ·refine ai rfl fun K HK=>?_;go_simp;exact HK.out _ _ fun _ k=>k e14 hB h0 hidR h2 h3 h4 h5 h6 h7 h8 h9 h10 h11 h12 bG
     ·have un:f2=false:=hun;cases h1 (ah 1 hi (by kernel_rfl));have n9:f9=false:=by
       cases hf:f9
       ·rfl
       ·exact absurd (h9.out hf).1 (by rw[un];simp)
      obtain⟨_,⟨y0,y1,y2,y3⟩,_⟩:=Sep.c4 (Sep.pk [_,_,_,_,_] (hB.1 n9));refine ai rfl fun K HK=>?_;go_simp;exact HK.out _ _ fun _ k=>k e14 hB h0 h1 hidR h3 h4 h5 (fun d=>by have e:=(h6.out d).1;rw[un]at e;cases e) h7 h8 (fun d=>by have e:=(h9.out d).1;rw[un]at e;cases e) h10 h11 h12 bG
     ·have un:f3=false:=hun;have n9:f9=false:=by
       cases hf:f9
       ·rfl
       ·exact absurd (h9.out hf).2.1 (by rw[un];simp)
      obtain⟨_,⟨y0,y1,y2,y3⟩,_⟩:=Sep.c4 (Sep.pk [_,_,_,_,_] (hB.1 n9));refine ai rfl fun K HK=>?_;go_simp;exact HK.out _ _ fun _ k=>k e14 hB h0 h1 h2 hidR h4 (fun d=>by have e:=(h5.out d).1;rw[un]at e;cases e) h6 h7 h8 (fun d=>by have e:=(h9.out d).2.1;rw[un]at e;cases e) h10 h11 h12 bG
     ·refine ai rfl fun K HK=>?_;go_simp;exact HK.out _ _ fun _ k=>k e14 hB h0 h1 h2 h3 hidR h5 h6 h7 h8 h9 h10 h11 h12 bG
     ·have un:f5=false:=hun;have d3:f3=true:=ah 3 hi (by kernel_rfl);cases h3 d3;cases h4 (ah 4 hi (by kernel_rfl));have n9:f9=false:=by
       cases hf:f9
       ·rfl
       ·exact absurd (h9.out hf).2.2.1 (by rw[un];simp)
      refine ai rfl fun K HK=>?_;go_simp;refine Calls.mono (KC.out _ (hB.1 n9)) ?_;rintro e u4 ⟨rfl,s4⟩;exact HK.out _ _ fun _ k=>k e14 ⟨fun _=>s4,(fun h=>by rw[n9]at h;cases h),hB.2.2⟩ h0 h1 h2 h3 h4 (fun _=>⟨d3,rfl⟩) (fun d=>by have e:=(h6.out d).2.1;rw[un]at e;cases e) h7 h8 (fun d=>by have e:=(h9.out d).2.2.1;rw[un]at e;cases e) h10 h11 h12 bG
     ·have un:f6=false:=hun;have d2:f2=true:=ah 2 hi (by kernel_rfl);cases h2 d2;have d5:f5=true:=ah 5 hi (by kernel_rfl);obtain⟨u3,rfl⟩:=h5.out d5;have htl:((dt n.ss key:Nat):Int)< (n.ks.length:Int):=by have:=HTL.out;omega
      refine ai rfl fun K HK=>?_;go_simp;exact HK.out _ _ fun _ k=>k e14 hB h0 h1 h2 h3 h4 h5 (fun _=>⟨d2,d5,rfl⟩) (fun d=>by have e:=(h7.out d).1;rw[un]at e;cases e) h8 (fun d=>by have e:=(h9.out d).2.2.2.1;rw[un]at e;cases e) h10 h11 h12 bG
     ·have un:f7=false:=hun;have d6:f6=true:=ah 6 hi (by kernel_rfl);obtain⟨_,_,rfl⟩:=h6.out d6;have n9:f9=false:=by
       cases hf:f9
       ·rfl
       ·exact absurd (h9.out hf).2.2.2.2.1 (by rw[un];simp)
      have hzc:=NV.kid (p:=(⟨ae,ce,some ⟨r,ro,none⟩,ck,az,cz,n⟩:NV)) (Sep.pool (Sep.pk [_,_,_] (hB.1 n9)) _ MX.out) (i:=dt n.ss key) HTL.out;obtain⟨z1,z2,hz3,hzs,hzc⟩:=hzc;cases hz3;simp only at hzc;rw[U4.out]at hzc;refine ai rfl fun K HK=>?_;go_simp;exact HK.out _ _ fun _ k=>k e14 hB h0 h1 h2 h3 h4 h5 h6 (fun _=>⟨d6,rfl⟩) h8 (fun d=>by have e:=(h9.out d).2.2.2.2.1;rw[un]at e;cases e) h10 h11 h12 bG
     ·refine ai rfl fun K HK=>?_;go_simp;exact HK.out _ _ fun _ k=>k e14 hB h0 h1 h2 h3 h4 h5 h6 h7 hidR h9 h10 h11 h12 bG
     ·have un:f9=false:=hun;cases h0 (ah 0 hi (by kernel_rfl));have d7:f7=true:=ah 7 hi (by kernel_rfl);obtain⟨_,rfl⟩:=h7.out d7;cases h8 (ah 8 hi (by kernel_rfl));have d6:f6=true:=(h7.out d7).1;refine ai rfl fun K HK=>?_;go_simp;refine Calls.mono (KR.out _ (hB.1 un)) ?_;rintro e u4 ⟨p9,d9,Fc,rfl,ND,s4⟩;exact HK.out _ _ fun _ k=>k e14 ⟨(fun h=>by cases h),(fun _=>⟨p9,d9,Fc,rfl,ND,fun _=>s4,fun h=>by have:=hB.2.2 h;rw[un]at this;cases this⟩),fun _=>rfl⟩ h0 h1 h2 h3 h4 h5 h6 h7 h8 (fun _=>⟨(h6.out d6).1,(h5.out (h6.out d6).2.1).1,(h6.out d6).2.1,d6,d7,trivial⟩) (fun d=>by have e:=(h10.out d).1;rw[un]at e;cases e) (fun d=>by have e:=(h11.out d).1;rw[un]at e;cases e) (fun d=>by have e:=(h12.out d).1;rw[un]at e;cases e) bG
     ·have d9:f9=true:=ah 9 hi (by kernel_rfl);obtain⟨u2,u3,u5,u6,u7,_⟩:=h9.out d9;refine ai rfl fun K HK=>?_;go_simp;exact HK.out _ _ fun _ k=>k e14 hB h0 h1 h2 h3 h4 h5 h6 h7 h8 h9 (fun _=>⟨d9,rfl⟩) h11 h12 bG
     ·have d10:f10=true:=ah 10 hi (by kernel_rfl);obtain⟨_,rfl⟩:=h10.out d10;have u9:f9=true:=(h10.out d10).1;obtain⟨p9,d9,Fc,e47,ND,s9⟩:=hB.2.1 u9;have U5:Hid _:=Fc;clear Fc;subst e47;refine ai rfl fun K HK=>?_;go_simp;exact HK.out _ _ fun _ k=>k e14 hB h0 h1 h2 h3 h4 h5 h6 h7 h8 h9 h10 (fun _=>⟨u9,rfl⟩) h12 bG
     ·have d10:f10=true:=ah 10 hi (by kernel_rfl);obtain⟨_,rfl⟩:=h10.out d10;have u9:f9=true:=(h10.out d10).1;obtain⟨p9,d9,Fc,e47,ND,s9⟩:=hB.2.1 u9;have U5:Hid _:=Fc;clear Fc;subst e47;refine ai rfl fun K HK=>?_;go_simp;exact HK.out _ _ fun _ k=>k e14 hB h0 h1 h2 h3 h4 h5 h6 h7 h8 h9 h10 h11 (fun _=>⟨u9,rfl⟩) bG
     ·have un:f13=false:=hun;obtain⟨u9,mo⟩:=h11.out (ah 11 hi (by kernel_rfl));obtain⟨p9,d9,Fc,e47,ND,s9,X0⟩:=hB.2.1 u9;have U5:Hid _:=Fc;clear Fc;subst e47;cases mo;obtain⟨_,⟨y0,y1,y2,y3⟩,g0,g1,g2,g3⟩:=Sep.c4 (Sep.pk [_,_,_,_,_] (s9 un));refine ai rfl fun K HK=>?_;go_simp;exact HK.out _ _ fun _ k=>k e14 ⟨(fun h=>by rw[u9]at h;cases h),(fun _=>⟨p9,d9,U5.out,rfl,ND,(fun h=>by cases h),fun _=>Sep.pb [_,_,_,_,_] (Sep.s4 (Sep.pk [_,_,_,_,_] (s9 un)) _ _ _ _)⟩),fun _=>u9⟩ h0 h1 h2 h3 h4 h5 h6 h7 h8 h9 h10 h11 h12 (fun _=>trivial)
    ·intro w' f0 f1 f2 f3 f4 f5 f6 f7 f8 f9 f10 f11 f12 f13 f14 x8 Ao x38 x39 x40 x41 Ku x43 Kv Kw Ky Fs Kz KH e14 hB h0 h1 h2 h3 h4 h5 h6 h7 h8 h9 h10 h11 h12 bG hi;have d12:f12=true:=ah 12 hi (by kernel_rfl);obtain⟨u9,nP⟩:=h12.out d12;have d13:f13=true:=ah 13 hi (by kernel_rfl);clear hi;obtain⟨p9,d9,Fc,e47,ND,s9,X0⟩:=hB.2.1 u9;have U5:Hid _:=Fc;clear Fc;subst nP;refine ai rfl fun K HK=>?_;go_simp;refine HK.out _ _ ?_;have S5:Hid (Sep B w0 w' (TL C x d9 (p9::Pc) (U::ax q7 (.cells (cN p9) 54)::l))):=X0 d13;have hw1:wrap64 (dp+1)=dp+1:=by have:=U0.out;unfold wrap64;omega
     clear s9 X0 e47 h0 h1 h2 h3 h4 h5 h6 h7 h8 h9 h10 h11 h12 bG hB;have HN:Hid (Fb x d key g p9.n (dC x d kid dp).2 (dp+1)=some (m,er)):=by rw[show p9.n=(dC x d kid dp).1 from U5.out];exact hE2.out
     generalize(dC x d kid dp).2=ek at*;go_wp2
     go_roundg g
     case measure=>omega
     case rel=>exact⟨g,p9,p9::Pc,d9,ek,dp+1,rfl,by simp[hw1],Nat.le_refl _,(by have:=U0.out;show(1:Int)<=dp+1;omega),HN.out,⟨List.mem_cons_self ..,fun y hy=>List.mem_cons_of_mem _ (HP.out.2 y hy)⟩,HD.out.trans ⟨_,ND⟩,S5.out⟩
    ·intro _ _;intros;assumption
   ·rw[if_neg hc]at hE;obtain⟨rfl,rfl⟩:pc.n=m∧ec=er:=by
     cases hE;exact⟨rfl,rfl⟩
    clear hE;by_cases h1:ec=0
    ·subst h1;have hlf:pc.n.leaf=true:=by
      cases hx:pc.n.leaf
      ·exact absurd ⟨rfl,hx⟩ hc
      ·rfl
     have KU:Hid _:=HU.out HS.out HP.out.1 (HES.out rfl).1 (HES.out rfl).2;rw[hlf]at c0;clear hc
     go_wp2_with fail
     refine Calls.mono KU.out ?_;rintro e v5 ⟨rfl,s5⟩;have S5:Hid _:=s5;clear c0 c1' c2' c3' g0 g1 g2 g3 KU s5;go_wp2;go_ret;exact⟨rfl,Pc,dc,U',HP.out.2,HD.out,fun _=>rfl,fun h=>absurd rfl h,Sep.drop (Sep.pk [_,_,_,_,_] S5.out)⟩
    ·have hne:(ec==0)=false:=by simpa using h1
     clear hc;go_wp2;go_ret;exact⟨rfl,Pc,dc,U,HP.out.2,HD.out,fun h=>absurd h h1,fun _=>rfl,Sep.drop (Sep.pk [_,_,_,_,_] HS.out)⟩
end
end Go.Proofs.YtceoeaemenhbhabGreatDoor
end
section
namespace Go.Proofs.YtceoeaemenhbhabGreatDoor
open Go.Shelf Go.RowKit Go.Lib Go.Sort
open N (Nd nd0 cC dm dX iF fO Sm dt En Ae xH kM pH eU aT hidR aj ai Ch aI ah waits)
section
variable {B:Nat}{w0 w:World}{l:List aN}{P:List NV}{C:Cx}{x:TX}{d d1:Dk}{key:ByteArray}{es0:List En}{qk qv qf:Nat}{m:Nd}{er:Int}
abbrev U3 (qk qv qf:Nat)(key v:ByteArray)(b:Bool):aN:=Both (ax qk (.cells #[.string key] 9)) (Both (ax qv (.cells #[.string v] 9)) (ax qf (.cells #[.bool b] 4)))
theorem Sep.yY {v:ByteArray}{b:Bool}(h:Sep B w0 w (U3 qk qv qf key v b::l)):Sep B w0 w (ax qk (.cells #[.string key] 9)::ax qv (.cells #[.string v] 9)::ax qf (.cells #[.bool b] 4)::l):=by
 have h1:Sep B w0 w (ax qk (.cells #[.string key] 9)::Both (ax qv (.cells #[.string v] 9)) (ax qf (.cells #[.bool b] 4))::l):=h.map fun _=>Hp.part (bc _ _) (aL (bc _ _) (bc _ _));exact Sep.tR (Sep.ei (Sep.jm h1))
theorem Sep.OU {v:ByteArray} {b:Bool} (h:Sep B w0 w (ax qk (.cells #[.string key] 9)::ax qv (.cells #[.string v] 9)::ax qf (.cells #[.bool b] 4)::l)):Sep B w0 w (U3 qk qv qf key v b::l):=
  Sep.join (Sep.jm (Sep.join (Sep.pk [_,_] (Sep.pk [_,_] h))))
theorem NF:JE B w0 C x (.pointer (some ⟨qk,0,none⟩)) (.pointer (some ⟨qv,0,none⟩)) (.pointer (some ⟨qf,0,none⟩)) es0 (U3 qk qv qf key ⟨#[]⟩ false) (U3 qk qv qf key (pH es0 key) (kM es0 key)):=by
 intro w d P l p h hp he0 hl;have h2:=Sep.yY (Sep.js h);obtain⟨ks,k0,_⟩:=Sep.c1 h2;have KG:Hid _:=N.BM (.slice p.ae p.n.es.length p.ce) p.n.es key w (Sep.pool (Sep.pU h) _ hp).e (by omega);rw[he0]at KG;have HS:Hid (Sep B w0 w (TL C x d P (U3 qk qv qf key ⟨#[]⟩ false::l))):=h;rw[<-he0];have hln:p.n.es.length=es0.length:=by rw[he0]
 rw[he0];clear h h2 hp hl;generalize kM es0 key=gb at*;generalize pH es0 key=gv at*;rw[hln]at*;clear he0 hln;go_enter Tryz.func43,Tryz.ntmps43
 go_wp2_with fail
 refine Calls.mono KG.out ?_;rintro e w1 ⟨rfl,b1⟩;have h3:=Sep.yY (Sep.js (HS.out.below b1));obtain⟨ir,k1,f0⟩:=Sep.c1 h3;obtain⟨vs1,v1,f1⟩:=Sep.c1 (Sep.jm h3);obtain⟨fs1,g1,f2⟩:=Sep.c1 (Sep.tR h3);have hne:qv≠qf:=Sep.ne (Sep.drop h3);have hne':=hne.symm;have S2:Hid (Sep B w0 ((w1.setCell ⟨qv,0,none⟩ (.string gv)).setCell ⟨qf,0,none⟩ (.bool gb)) (TL C x d P (U3 qk qv qf key gv gb::l))):=by
  have h4:=Sep.lh (x:=.string gv) (Sep.jm h3) 0;have h5:=Sep.lh (x:=.bool gb) (Sep.tR h4) 0;exact Sep.Kp (Sep.OU (Sep.tR (Sep.jm h5)))
 clear h3 KG HS b1;go_wp2
 go_end0
 exact⟨rfl,S2.out⟩
def GGt (B:Nat)(w0:World)(C:Cx)(x:TX)(d:Dk)(P:List NV)(l:List aN)(v:ByteArray)(b:Bool)(er:Int)(e:Ending)(w':World):Prop:=e=.returned (.tuple #[.string v,.bool b,.int .i64 er])∧∃P' d',(∀y∈P,y∈P')∧bh d d'∧Sep B w0 w' (TL C x d' P' l)
def JG (B:Nat)(w0:World)(C:Cx)(x:TX)(d d1:Dk)(P:List NV)(U U2:aN)(l:List aN)(er:Int)(f4:Bool)(w:World):Prop:=
 (f4=false->Sep B w0 w (TL C x d1 P (U::l)))∧(f4=true->∃P' d' V,(∀y∈P,y∈P')∧bh d d'∧(er=0->V=U2)∧(er≠0->V=U)∧Sep B w0 w (TL C x d' P' (V::l)))
def JGr (B:Nat)(w0:World)(CC:Cx)(x:TX)(d d1:Dk)(P:List NV)(U U2:aN)(l:List aN)(er:Int)(qk qv qf:Nat)(key:ByteArray){y2 y4 y5 y6 kC kD k7:Value}(C:List Bool->Act->Prop)(w:World):Prop:=∀{f0 f1 f2 f3 f4 f5:Bool}{x9 sX xX vM xY tD:Value},f5=false->JG B w0 CC x d d1 P U U2 l er f4 w->Hid (f0=true->sX=ptr CC.tq)->Hid (f1=true->xX=ptr CC.tq)->Hid (f2=true->vM=.string key)->Hid (f3=true->xY=.func (.func 43) #[] #[.pointer (some ⟨qk,0,none⟩),.pointer (some ⟨qv,0,none⟩),.pointer (some ⟨qf,0,none⟩)])->Hid (f4=true->f2=true∧tD=.int .i64 er)->C [f0,f1,f2,f3,f4,f5] {tmps:=#[ptr CC.tq,.string key,y2,.pointer (some ⟨qk,0,none⟩),y4,y5,y6,.pointer (some ⟨qv,0,none⟩),.pointer (some ⟨qf,0,none⟩),x9,sX,xX,vM,xY,tD,kC,kD,k7],defers:=[]}
theorem U6 {f:Nat}{gv:ByteArray}{gb:Bool}(hv1:er=0->gv=pH es0 key∧gb=kM es0 key)(hv2:er≠0->gv=⟨#[]⟩∧gb=false)(T:bY B w0)(hr:d.room<=16384)(ok:x.Ok d.room)(hz:x.Sz)(h0:C.err=0)(hw:Wf C.root)(hd:bh d d1)(h:Sep B w0 w (TL C x d1 P l))(he:Fb x d key f (dC x d C.root 0).1 (dC x d C.root 0).2 1=some (m,er))(hes:er=0->m.es=es0∧m.es.length<=500):
  Calls Tryz.prog 21 #[ptr C.tq,.string key] w (GGt B w0 C x d P l gv gb er):=by
 have HG:Hid ((er=0->gv=pH es0 key∧gb=kM es0 key)∧(er≠0->gv=⟨#[]⟩∧gb=false)):=⟨hv1,hv2⟩;clear hv1 hv2;have S1:Hid (Sep B w0 (((w.alloc (.cells #[.string key] 9)).alloc (.cells #[.string ⟨#[]⟩] 9)).alloc (.cells #[.bool false] 4)) (TL C x d1 P (U3 w.heap.size (w.heap.size+1) (w.heap.size+2) key ⟨#[]⟩ false::l))):=by
  have h3:=Sep.aP (Sep.aP (Sep.aO h (.cells #[.string key] 9)) (.cells #[.string ⟨#[]⟩] 9) (w.heap.size+1) (by simp)) (.cells #[.bool false] 4) (w.heap.size+2) (by simp);exact Sep.Kp (Sep.OU (Sep.tR (Sep.jm h3)))
 have KL:Hid (∀u,Sep B w0 u (TL C x d1 P (U3 w.heap.size (w.heap.size+1) (w.heap.size+2) key ⟨#[]⟩ false::l))->Calls Tryz.prog 42 #[ptr C.tq,.string key,.func (.func 43) #[] #[.pointer (some ⟨w.heap.size,0,none⟩),.pointer (some ⟨w.heap.size+1,0,none⟩),.pointer (some ⟨w.heap.size+2,0,none⟩)]] u (GLf B w0 C x d P (U3 w.heap.size (w.heap.size+1) (w.heap.size+2) key ⟨#[]⟩ false) (U3 w.heap.size (w.heap.size+1) (w.heap.size+2) key (pH es0 key) (kM es0 key)) l er)):=fun u hu=>Rh T hr ok hz h0 NF hw hd hu he hes;clear h hr ok hz hw hd he hes T;go_enter Tryz.func21,Tryz.ntmps21
 go_wp2_with fail
 generalize World.alloc _ _=w1 at*;generalize w.heap.size+2=qf at*;generalize w.heap.size+1=qv at*;generalize w.heap.size=qk at*;refine aT 5 (JGr B w0 C x d d1 P (U3 qk qv qf key ⟨#[]⟩ false) (U3 qk qv qf key (pH es0 key) (kM es0 key)) l er qk qv qf key) (by kernel_rfl) (by kernel_rfl) (by kernel_rfl) (fun _ k=>k rfl ⟨fun _=>S1.out.drew,fun h=>by cases h⟩ aj aj aj aj aj) ?_ ?_ ?_
 ·intro i w' hne f0 f1 f2 f3 f4 f5 x9 sX xX vM xY tD e5 hB h0 h1 h2 h3 h4 hi;obtain⟨hlt,hun,_⟩:=aI hi;have hlt':i<6:=hlt;clear hlt;rcases(by omega:i=0∨i=1∨i=2∨i=3∨i=4)with rfl|rfl|rfl|rfl|rfl
  ·refine ai rfl fun K HK=>?_;go_simp;exact HK.out _ _ fun _ k=>k e5 hB hidR h1 h2 h3 h4
  ·cases h0 (ah 0 hi (by kernel_rfl));refine ai rfl fun K HK=>?_;go_simp;refine Calls.mono (gy _ C.tq) ?_;rintro e u4 ⟨rfl,rfl⟩;exact HK.out _ _ fun _ k=>k e5 hB h0 hidR h2 h3 h4
  ·have un:f2=false:=hun;have n4:f4=false:=by
    cases hf:f4
    ·rfl
    ·exact absurd (h4.out hf).1 (by rw[un];simp)
   obtain⟨_,y0,_⟩:=Sep.c1 (Sep.yY (Sep.js (hB.1 n4)));refine ai rfl fun K HK=>?_;go_simp;exact HK.out _ _ fun _ k=>k e5 hB h0 h1 hidR h3 (fun d=>by have e:=(h4.out d).1;rw[un]at e;cases e)
  ·refine ai rfl fun K HK=>?_;go_simp;exact HK.out _ _ fun _ k=>k e5 hB h0 h1 h2 hidR h4
  ·have un:f4=false:=hun;cases h1 (ah 1 hi (by kernel_rfl));have d2:f2=true:=ah 2 hi (by kernel_rfl);cases h2 d2;cases h3 (ah 3 hi (by kernel_rfl));refine ai rfl fun K HK=>?_;go_simp;refine Calls.mono (KL.out _ (hB.1 un)) ?_;rintro e u4 ⟨rfl,s4⟩;exact HK.out _ _ fun _ k=>k e5 ⟨(fun h=>by cases h),fun _=>s4⟩ h0 h1 h2 h3 (fun _=>⟨d2,rfl⟩)
 ·intro w' f0 f1 f2 f3 f4 f5 x9 sX xX vM xY tD e5 hB h0 h1 h2 h3 h4 hi;have d4:f4=true:=ah 4 hi (by kernel_rfl);obtain⟨u2,rfl⟩:=h4.out d4;clear hi;refine ai rfl fun K HK=>?_;go_simp;refine HK.out _ _ ?_;obtain⟨P',d',V,m1,m2,m3,m4,s5⟩:=hB.2 d4;have S5:Hid (Sep B w0 w' (TL C x d' P' (V::l))):=s5;have HM:Hid ((∀y∈P,y∈P')∧bh d d'):=⟨m1,m2⟩;have HV:Hid ((er=0->V=U3 qk qv qf key (pH es0 key) (kM es0 key))∧(er≠0->V=U3 qk qv qf key ⟨#[]⟩ false)):=⟨m3,m4⟩;clear m1 m2 m3 m4 s5 h0 h1 h2 h3 h4 hB;by_cases he0:er=0
  ·subst he0;obtain rfl:=HV.out.1 rfl;obtain⟨rfl,rfl⟩:=HG.out.1 rfl;have h6:=Sep.yY (Sep.js S5.out);obtain⟨_,y1,_⟩:=Sep.c1 (Sep.jm h6);obtain⟨_,y2,_⟩:=Sep.c1 (Sep.tR h6);clear h6 HV
   go_wp2_with fail
   go_quiet (fail)
   go_wp2
   go_ret3
   exact⟨rfl,P',d',HM.out.1,HM.out.2,(Sep.drop (Sep.js S5.out)).drewN _⟩
  ·obtain rfl:=HV.out.2 he0;obtain⟨rfl,rfl⟩:=HG.out.2 he0;have h6:=Sep.yY (Sep.js S5.out);obtain⟨_,y1,_⟩:=Sep.c1 (Sep.jm h6);obtain⟨_,y2,_⟩:=Sep.c1 (Sep.tR h6);clear h6 HV
   go_wp2_with fail
   go_quiet (fail)
   go_wp2
   go_ret3
   exact⟨rfl,P',d',HM.out.1,HM.out.2,(Sep.drop (Sep.js S5.out)).drewN _⟩
 ·intro _ _;intros;assumption
end
end Go.Proofs.YtceoeaemenhbhabGreatDoor
end
section
namespace Go.Proofs.YtceoeaemenhbhabGreatDoor.P
open Go.Shelf Go.RowKit Go.Lib Go.Sort
open N (Nd nd0 cC dm dX cD bR iF fO Sm dt En Ae xH kM pH eU cF fY jq lJ kW jo pE Rg bn cH fE kJ)
section
variable {B:Nat}{w0 w:World}{C:Cx}{x:TX}{d d1:Dk}{P:List NV}{l:List aN}{key:ByteArray}{E:List En}{X:List Int}{H:Nat}{room:Nat}
theorem JF (x:TX)(d:Dk)(id depth:Int):(eY x).read d id depth=dC x d id depth:=by
 unfold Dr.read;rw[if_neg (by simp[eY])];rfl
theorem Rj {l:List En}(h:cD l<=240):l.length<=500:=by
 have:2*l.length<=cD l:=kj;omega
theorem Dn (hr:room<=16384):∀(h:Nat) (b:BT h) (depth:Int) (f:Nat),Gb room d (eY x) h b->depth+h<=24->h<f->
  ∃L es R EL ER,Loc h b key L es R EL ER∧Fb x d key f (aU h b) 0 depth=some (⟨true,es,[],[]⟩,0)∧es.length<=500
 |0,b,depth,f,G,hd,hf=>by
  obtain⟨f,rfl⟩:∃f',f=f'+1:=⟨f-1,by omega⟩;refine⟨[],b,[],[],[],⟨?_,?_,.inl rfl,.inl rfl,(fun _ hc=>by cases hc),(fun _ hc=>by cases hc),(fun _ hc=>by cases hc),(fun _ hc=>by cases hc)⟩,?_,Rj G.sz⟩
  ·show mO b=[]++(mO b++[]);rw[List.nil_append,List.append_nil]
  ·show dW 0 b=[]++(dW 0 b++[]);rw[List.nil_append,List.append_nil]
  ·rw[Fb,if_neg (by simp[aU])];rfl
 |h+1,b,depth,f,G,hd,hf=>by
  obtain⟨f,rfl⟩:∃f',f=f'+1:=⟨f-1,by omega⟩;obtain⟨K,ss,rfl⟩:=fh b;have R0:=G.rw;have hl:ss.length+1=K.length:=G.wl.1;obtain⟨sA,sB,rfl,hch,k1,k2⟩:=wJ (key:=key) (kv (by omega) R0.od);obtain⟨A,w,B,rfl,hA⟩:∃A w B,K=A++w::B∧A.length=sA.length:=by
   obtain⟨w,B,r1,_⟩:=ew (l:=K.drop sA.length) (n:=K.length-sA.length-1) (by rw[List.length_drop];simp at hl;omega);exact⟨K.take sA.length,w,B,by rw[<-r1,List.take_append_drop],by rw[List.length_take];simp at hl;omega⟩
  have hB:B.length=sB.length:=by simp at hl;omega
  have hwz:=R0.wl w (by simp);have Wc:bO (dy A sA++(cj h w.2++jy (B.map fun u=>cj h u.2) sB)):=by rw[<-eW hA];exact R0.od
  have hsub:(bj h w.2).Sublist (aV (A++w::B)):=by
   rw[bf,bD,bX];exact List.Sublist.trans (List.sublist_cons_self _ _) (List.Sublist.trans (List.sublist_append_left _ _) (List.sublist_append_right _ _))
  have Gw:Gb room d (eY x) h w.2:=⟨G.sd,hwz.1,hwz.2,fun p hp=>R0.us p (hsub.subset hp),R0.nd.sublist hsub,fun y hy=>R0.is y (by rw[cY,dF];simp[nV,hy]),Wc.sub (List.Sublist.trans (List.sublist_append_left _ _) (List.sublist_append_right _ _)),fun y hy=>R0.vl y (by rw[cm,bS];simp[hy])⟩;obtain⟨L,es,R,EL,ER,loc,q1,q2⟩:=Dn hr h w.2 (depth+1) f Gw (by omega) (by omega);refine⟨_,es,_,_,_,Loc.up loc hA hB R0.od k1 k2,?_,q2⟩;have hgd:(aU (h+1) (bH (A++w::B) (sA++sB))).ks.getD (dt (aU (h+1) (bH (A++w::B) (sA++sB))).ss key) 0=w.1:=by
   rw[bQ];simp only[hch];rw[<-hA];simp[List.getD_eq_getElem?_getD]
  have hrd:dC x d w.1 depth=(aU h w.2,0):=by rw[<-JF];exact jW R0.is (by simp) (by omega)
  rw[Fb,if_pos ⟨rfl,by rw[bQ]⟩,if_neg (by
   rw[G.sm hr,bQ]
   simp only[hch,List.length_map,List.length_append,List.length_cons]
   simp
   omega),hgd,hrd]
  exact q1
theorem U7 (hr:room<=16384){root:Int}(T:TS room d (eY x) root E X H)(hH:H+1<24):∃es EL ER,Fb x d key 30 (dC x d root 0).1 (dC x d root 0).2 1=some (⟨true,es,[],[]⟩,0)∧E=EL++(es++ER)∧(∀y∈EL,bn y.1 key=true)∧(∀y∈ER,bn key y.1=true)∧es.length<=500:=by
 rcases T with⟨rfl,rfl,rfl,sd,rfl⟩| ⟨h,u,rfl,G,tb,rfl,rfl,rfl⟩
 ·refine⟨[],[],[],?_,rfl,(fun _ hc=>by cases hc),(fun _ hc=>by cases hc),by simp⟩;unfold dC;rw[if_pos rfl,Fb,if_neg (by simp[lf0])];rfl
 ·have hrd:dC x d u.1 0=(aU h u.2,0):=by rw[<-JF,(eY x).gA d _ _ (by omega)];exact G.rd
  obtain⟨L,es,R,EL,ER,loc,q1,q2⟩:=Dn (key:=key) hr h u.2 1 30 G.g (by omega) (by omega);rw[hrd];exact⟨es,EL,ER,q1,loc.en,(loc.lo G.g.od).1,(loc.lo G.g.od).2,q2⟩
theorem TS.wf (hr:room<=16384){root:Int}(T:TS room d (eY x) root E X H):Wf root:=by
 rcases T with⟨rfl,_⟩| ⟨h,u,rfl,G,_⟩
 ·exact⟨by omega,by omega⟩
 ·have h1:=G.us.lo;have h2:=G.us.hi;have h3:=G.g.sd.x.pr;exact⟨by omega,by omega⟩
theorem Rk (T:bY B w0)(hr:d.room<=16384)(hd:bh d d1)(h:Sep B w0 w (TL C x d1 P l))(h0:C.err=0)(TT:Tx d.room d x C.root E X H)(hH:H+1<24):
  Calls Tryz.prog 21 #[ptr C.tq,.string key] w (GGt B w0 C x d P l (pE E key) (jo E key) 0):=by
 have hE:=TT.ts.rg;obtain⟨es,EL,ER,q1,rfl,lo,hi,q2⟩:=U7 (key:=key) hr TT.ts hH;refine U6 (es0:=es) (fun _=>⟨?_,?_⟩) (fun hc=>absurd rfl hc) T hr TT.ts.sd.x TT.ts.sd.bz h0 (TT.ts.wf hr) hd h q1 (fun _=>⟨rfl,q2⟩)
 ·unfold pH;rw[fE (oh hE),if_pos rfl,Rb hE lo hi]
 ·unfold kM;rw[fE (oh hE),Bool.true_and,yV lo hi]
end
end Go.Proofs.YtceoeaemenhbhabGreatDoor.P
end
section
namespace Go.Proofs.YtceoeaemenhbhabGreatDoor
open Go.Shelf Go.RowKit Go.Lib Go.Sort
open N (bn)
theorem U8 (x y:ByteArray):Builtin.max_ #[9,9] 9 #[.string x,.string y]=pure (.string (if bn x y=true then y else x)):=by
 cases h:bn x y
 ·have h2:Op.bytesLess x.toList y.toList=false:=h;simp[Builtin.max_,Builtin.max2,Op.stringOp,asBool,h2]
 ·have h2:Op.bytesLess x.toList y.toList=true:=h;simp[Builtin.max_,Builtin.max2,Op.stringOp,asBool,h2]
section
variable {B:Nat}{w0 w w':World}{l:List aN}{fr tt k:ByteArray}
theorem ky (h:Sep B w0 w l):Calls Tryz.prog 80 #[.agg #[.string fr,.string tt],.string k] w fun e w'=>e=.returned (.bool (a8 tt k))∧Sep B w0 w' l:=by
 have SF:Hid (Sep B w0 (w.alloc (.cells #[.string fr,.string tt] 75)) l):=h.alloc _;clear h;by_cases h0:tt=⟨#[]⟩
 ·have HE:Hid (a8 tt k=true):=by show _=true;simp[a8,h0]
  subst h0;go_enter Tryz.func80,Tryz.ntmps80;go_wp2;go_ret;exact⟨by rw[HE.out];rfl,SF.out⟩
 ·have HE:Hid (a8 tt k=bn k tt):=by show _=_;simp[a8,h0]
  have he:tt.toList≠[]:=fun e=>h0 (N.gq (e.trans (by simp)));have he2:tt.toList.isEmpty=false:=by simpa using he
  clear h0;go_enter Tryz.func80,Tryz.ntmps80;go_wp2;go_ret;exact⟨by rw[HE.out];rfl,SF.out⟩
theorem Sep.c2 {q:Nat}{a0 a1:Value}{ty:TypeId}(h:Sep B w0 w (ax q (.cells #[a0,a1] ty)::l)):q<w.heap.size∧(w.cell? ⟨q,0,none⟩=some a0∧w.cell? ⟨q,1,none⟩=some a1)∧w.frozen? ⟨q,0,none⟩=false∧w.frozen? ⟨q,1,none⟩=false:=by
 have hb:=h.blk;refine⟨(Array.getElem?_eq_some_iff.1 hb).1,⟨?_,?_⟩,?_,?_⟩<;>simp[World.cell?,World.frozen?,hb]
end
end Go.Proofs.YtceoeaemenhbhabGreatDoor
end
