/- Walks of the package cowtree and of what it stands on: lemmas, made short. -/
import Derived.Test.YtceoeaemenhbhabGreatDoorU13
import Derived.Test.YtceoeaemenhbhabGreatDoorU12
import Derived.Test.YtceoeaemenhbhabGreatDoorU10
import Derived.Deep.QuietTactic
import Derived.BigQuiet
set_option maxHeartbeats 16000000
set_option maxRecDepth 100000
set_option linter.unusedVariables false
set_option linter.unusedSimpArgs false
namespace Go.Proofs.YtceoeaemenhbhabGreatDoor
namespace P
open N
section
variable {room:Nat}{d:Dk}{S S1 S2 S3:Dr}{h:Nat}{A B M:List (KT h)}{sA sB fx:List ByteArray}{w:KT h}
theorem sL (hA:A.length=sA.length)(hk:∀j,KP (A++w::B) (sA++sB) j)(R':List (KT h)){ss' t':List ByteArray}(e:ss'=sA.take (A.length-1)++t'):∀j,j<A.length-1->KP (A++R') ss' j:=fun j hj=>by
 rw[e];exact Sl hA hk R' t' (by omega)
theorem qi (hA:A.length=sA.length)(hB:B.length=sB.length)(hk:∀j,KP (A++w::B) (sA++sB) j)(L':List (KT h)){ss' t':List ByteArray}(e:B≠[]->ss'=t'++sB.drop 1∧t'.length=L'.length):∀j,L'.length+1<=j->KP (L'++B) ss' j:=fun j hj=>by
 by_cases h0:B=[]
 ·subst h0;exact Oa (by simp;omega)
 ·obtain⟨e1,e2⟩:=e h0;obtain⟨y,B',rfl,_⟩:=eh (l:=B) (n:=B.length-1) (by have:=List.length_pos_iff.2 h0;omega);obtain⟨s1,lF,rfl,_⟩:=eh (l:=sB) (n:=B'.length) (by simpa using hB.symm);have:=Sn (w:=w) hA hk L' t' e2 (b:=j-L'.length) (by omega);rw[e1,List.drop_one,List.tail_cons]
  rwa [show L'.length+(j-L'.length)=j by omega]at this
theorem uN (hA:A.length=sA.length)(x:List ByteArray):sA++x=sA.take (A.length-1)++(sA.drop (A.length-1)++x):=by rw[<-List.append_assoc,List.take_append_drop]
theorem gO (hB:B.length=sB.length)(h0:B≠[])(x:List ByteArray):x++sB=(x++sB.take 1)++sB.drop 1∧(sB.take 1).length=1:=by
 have:=List.length_pos_iff.2 h0;exact⟨by rw[List.append_assoc,List.take_append_drop],by rw[List.length_take];omega⟩
theorem JD (hr:room<=16384)(HJ:∀h,lG room d h){depth:Int}(hd:depth+1+h<24){f m:Nat}(C:Ctx room d S h A sA B sB)(hp:P0 S w.1)(t:BT h)(ho:Ob room d S h t)(hnd:(pX w.1++bn h t++(aW A++aW B)).Nodup)(hk:∀j,KP (A++w::B) (sA++sB) j)(hod:bP (dw A sA++(cx h t++jB (B.map fun u=>cx h u.2) sB)))(hsz:bO (sA++sB)<=240)(hsw:bZ (aV h w.2)=true)
    (hf:3*((pX w.1++bn h t++(aW A++aW B)).length+2)+5<=f)(hb:Bd S ((pX w.1++bn h t++(aW A++aW B)).length+6+m)):
    ∃n e S',dZ (bu room d f) room S (aV (h+1) (bI (A++w::B) (sA++sB))) (A.length:Int) depth (aV h w.2) (aV h t)=some ((n,e),S')∧Er room d 4 S (pX w.1++bn h t++(aW A++aW B)) S' e∧
      (e=0->∃K' ss',PlR room d 4 S (pX w.1++bn h t++(aW A++aW B)) (dw A sA++(cx h t++jB (B.map fun u=>cx h u.2) sB)) (bD A++(dM h t++bD B)) (bO (sA++sB)+21) n S' h K' ss'):=by
  obtain⟨sd,us,nd,is,vl⟩:=ho.facts;have hA:=C.hA;have hB:=C.hB;have hgd:(A.map Prod.fst++w.1::B.map Prod.fst).getD ((A.length:Int)).toNat 0=w.1:=by simp[List.getD_eq_getElem?_getD]
  have hgd':(aV (h+1) (bI (A++w::B) (sA++sB))).ks.getD ((A.length:Int)).toNat 0=w.1:=by
    rw[bU];simp[List.getD_eq_getElem?_getD]
  have hsm:bZ (aV (h+1) (bI (A++w::B) (sA++sB)))=true:=Bc hr sd _ _ (by simp;omega) (by omega) (fun u hu=>by
    simp only[List.mem_append,List.mem_cons]at hu
    rcases hu with hu|rfl|hu
    · exact .inr (C.us _ (List.mem_append_left _ (qh hu)))
    · exact hp
    · exact .inr (C.us _ (List.mem_append_right _ (qh hu))))
  have hlen:(aV (h+1) (bI (A++w::B) (sA++sB))).ks.length=A.length+B.length+1:=by rw[bU];simp;omega
  have hXl:(bn h t).length<=(pX w.1++bn h t++(aW A++aW B)).length:=by simp only[List.length_append];omega
  have N5:=(List.nodup_append.1 hnd).1;have qT:(bn h t++pX w.1).Perm (pX w.1++bn h t):=List.perm_append_comm;obtain⟨parts,keys,e,S1,t1,t2,t3⟩:=Sk (m:=m) hr HJ t ho (depth:=depth+1) (f:=f) (by omega) (by omega) (hb.mono (by omega));unfold dZ;rw[if_neg (by rw[hb.ok,hsm,hsw,hlen];simp;omega),t1,hgd'];simp only;by_cases he:e=0
  · subst he;rw[if_neg (by simp)];rcases t3 rfl with⟨rfl,rfl,rfl,Wn,hen,hfl⟩| ⟨rfl,rfl,rfl,wt,zt,fi⟩| ⟨c1,c2,k,rfl,rfl,wc1,wc2,z1,z2,f1,f2,ic,F0,oi,en,ln⟩
    ·
      have F:=Od (d:=d) sd hp;rw[if_pos rfl];simp only[eH];rw[if_neg (by simp),if_neg (by simp),wH hA hB [] [] (by first| (simp;done)| (simp;omega))];rw[hfl,List.nil_append]at hod⊢;rw[hen,List.nil_append];by_cases h0:A=[]
      · subst h0;have hsA:sA=[]:=List.length_eq_zero_iff.1 (by simpa using hA.symm);subst hsA;obtain⟨R,E,sf,hz⟩:=sK C t hnd Wn hod (by omega) F (.inr ⟨rfl,rfl⟩);have en0:(⟨false,[],List.map Prod.fst ([]:List (KT h))++[]++B.map Prod.fst,iy ([]++sB) (uz ([]:List (KT h)).length []) (uA ([]:List (KT h)).length (([]:List (KT h)).length+1) []) []⟩:Nd)=aV (h+1) (bI ([]++([]++B)) (sB.drop 1)):=by
          rw[bU];have:=Oc (sB:=sB);simp only[List.length_nil]at this⊢;rw[this];rfl
        rw[en0];exact iZ hr (HJ h) hd (m:=m) R (a:=0) (b:=1) (by first| (simp;done)| (simp;omega)) (by first| (simp;done)| (simp;omega)) (fun j hj=>by omega) (fun j hj=>qi (A:=[]) (sA:=[]) (w:=w) (t':=[]) rfl hB hk [] (fun _=>⟨rfl,rfl⟩) j (by simpa using hj)) E (by omega) (OI.sub sf) (by simp[bD]) (by omega) (by
          have:=E.A8
          rw[bc,bc]
          simp only[List.length_append]at*
          simp[aW,hZ]at*
          omega) (by omega) hf hb
      · have hpos:=List.length_pos_iff.2 h0;obtain⟨R,E,sf,hz⟩:=sK C t hnd Wn hod (by omega) F (.inl ⟨h0,rfl⟩);have en0:(⟨false,[],A.map Prod.fst++[]++B.map Prod.fst,iy (sA++sB) (uz A.length []) (uA A.length (A.length+1) []) []⟩:Nd)=aV (h+1) (bI (A++([]++B)) (sA.take (A.length-1)++sB)):=by
          rw[bU,Sr hA h0];simp
        rw[en0];refine iZ hr (HJ h) hd (m:=m) R (a:=A.length-1) (b:=A.length+1) (by omega) (by first| (simp;done)| (simp;omega)) ?_ ?_ E (by omega) (OI.sub sf) (by simp[bD]) (by omega) (by
          rw[bc,bc]
          simp only[List.length_append]
          simp[aW,hZ]
          omega) (by omega) hf hb
        · exact sL hA hk _ rfl
        · exact qi hA hB hk A (t':=sA.take (A.length-1)++sB.take 1) (fun hb0=>⟨(gO hB hb0 _).1,by rw[List.length_append,(gO hB hb0 []).2,List.length_take];omega⟩)
    ·
      obtain⟨q,e2,S2,k1,k2,k3⟩:=wI (d:=d) sd hp fi hb;rw[if_neg (by simp)];simp only[eH,k1];by_cases he2:e2=0
      · subst he2;obtain⟨F,hv⟩:=k3 rfl;obtain⟨R,E⟩:=uM C hp t ho hnd hod (by omega) wt zt F hv;rw[if_neg (by simp)];simp only;rw[if_neg (by simp),List.nil_append,wH hA hB [q] [] (by first| (simp;done)| (simp;omega))];have en0:(⟨false,[],A.map Prod.fst++[q]++B.map Prod.fst,iy (sA++sB) (uz A.length [q]) (uA A.length (A.length+1) [q]) []⟩:Nd)=aV (h+1) (bI (A++([(q,t)]++B)) (sA++sB)):=by
          rw[bU,Sp hA];simp
        rw[en0];have hpl:(aW (A++([(q,t)]++B))).length<=(pX w.1++bn h t++(aW A++aW B)).length+2:=by
          rw[bc,bc];simp only[List.length_append];simp[aW,hZ,nT];omega
        have hen':bD (A++([(q,t)]++B))=bD A++(dM h t++bD B):=by simp[bD]
        have hoi:OI (dw A sA++(cx h t++jB (B.map fun u=>cx h u.2) sB)) (dw (A++([(q,t)]++B)) (sA++sB)):=by
          rw[List.singleton_append,eO hA];exact OI.refl _
        by_cases hg:dG (aV h w.2)<=dG (aV h t)
        · rw[if_pos ⟨by simp,hg⟩];exact iZ hr (HJ h) hd (m:=m) R (a:=A.length) (b:=A.length+1) (by omega) (by first| (simp;done)| (simp;omega)) (fun j hj=>(hk j).grow (c:=(q,t)) (by omega) hg) (fun j hj=>(hk j).grow (c:=(q,t)) (by omega) hg) E (by omega) hoi hen' (by omega) hpl (by omega) hf hb
        · rw[if_neg (fun hc=>hg hc.2)];refine iZ hr (HJ h) hd (m:=m) R (a:=A.length-1) (b:=A.length+2) (by omega) (by first| (simp;done)| (simp;omega)) ?_ ?_ E (by omega) hoi hen' (by omega) hpl (by omega) hf hb
          · exact sL hA hk _ (uN hA _)
          · intro j hj;have:=qi (ss':=sA++sB) hA hB hk (A++[(q,t)]) (t':=sA++sB.take 1) (fun hb0=>⟨(gO hB hb0 _).1,by rw[List.length_append,(gO hB hb0 []).2];simp;omega⟩) j (by simp;omega);simpa using this
      · rw[if_pos he2];simp only;rw[if_pos he2];exact⟨_,_,_,rfl,((k2.ext us N5).ext C.us hnd).mono (by omega),fun h0=>absurd h0 he2⟩
    ·
      have G0:=((F0.ext (Y:=pX w.1) (zb hp) (qT.nodup_iff.2 N5)).perm qT List.perm_append_comm).ext C.us hnd;have hp1:P0 S1 w.1:=by
        rcases hp with e|e
        · exact .inl e
        · by_cases hz:w.1=0
          · exact .inl hz
          · refine .inr (F0.yZ e (fun hc=>?_)).1;obtain⟨n1,_,_⟩:=List.nodup_append.1 hnd;exact(List.nodup_append.1 n1).2.2 w.1 (by simp[pX,hz]) w.1 hc rfl
      have Vg:Bd S1 (m+4):=F0.bd hb (by simp only[List.length_append]at*;omega);obtain⟨q1,e1,S2,k1,k2,k3⟩:=wI (d:=d) F0.ok hp1 f1 Vg;rw[if_neg (by simp)];simp only[eH,k1];by_cases he1:e1=0
      · subst he1;obtain⟨F1,v1⟩:=k3 rfl;rw[if_neg (by simp)];have Yp:Bd S2 (m+2):=F1.bd Vg (by
          have:(pX w.1).length<=1:=by unfold pX;split<;>simp
          simp only[List.length_cons,List.length_nil]
          omega)
        obtain⟨q2,e2,S3,j1,j2,j3⟩:=wI (d:=d) (p:=0) F1.ok (.inl rfl) f2 Yp;simp only[j1];by_cases he2:e2=0
        · subst he2;obtain⟨F2,v2⟩:=j3 rfl;have e0:pX 0=[]:=by simp[pX]
          rw[e0]at F2;have Vh:bP (dw A sA++((cx h c1++(true,k)::cx h c2)++jB (B.map fun u=>cx h u.2) sB)):=oi _ _ hod;have hks:k.size<=16:=(Vh.sz (true,k) (by simp)).2;have aaz:bO (sA++k::sB)=bO (sA++sB)+(5+k.size):=by rw[dD,dD,bO];omega
          obtain⟨R,E⟩:=EW C hp t c1 c2 hnd Vh (by omega) ⟨wc1,z1⟩ ⟨wc2,z2⟩ (by rw[<-en];exact vl) ic F0 F1 v1 F2 v2;rw[if_neg (by simp)];simp only[List.nil_append];rw[if_neg (by simp),if_neg (by simp)];rw[show [q1]++[q2]=[q1,q2]from rfl,wH hA hB [q1,q2] [k] (by first| (simp;done)| (simp;omega))];have en0:(⟨false,[],A.map Prod.fst++[q1,q2]++B.map Prod.fst,iy (sA++sB) (uz A.length [q1,q2]) (uA A.length (A.length+1) [q1,q2]) [k]⟩:Nd)=aV (h+1) (bI (A++([(q1,c1),(q2,c2)]++B)) (sA++k::sB)):=by
            rw[bU,Sq hA];simp
          rw[en0];have hpl:(aW (A++([(q1,c1),(q2,c2)]++B))).length<=(pX w.1++bn h t++(aW A++aW B)).length+2:=by
            rw[bc,bc];simp only[List.length_append]at*;simp[aW,hZ,nT]at*;omega
          refine iZ hr (HJ h) hd (m:=m) R (a:=A.length-1) (b:=A.length+3) (by omega) (by first| (simp;done)| (simp;omega)) ?_ ?_ E (by omega) ?_ ?_ (by omega) hpl (by omega) hf hb
          · exact sL hA hk _ (uN hA _)
          · intro j hj;have:=qi (ss':=sA++k::sB) hA hB hk (A++[(q1,c1),(q2,c2)]) (t':=sA++[k]++sB.take 1) (fun hb0=>⟨by rw[<- (gO hB hb0 _).1];simp,by rw[List.length_append,(gO hB hb0 []).2];simp;omega⟩) j (by simp;omega);simpa using this
          · show OI _ (dw (A++(q1,c1)::(q2,c2)::B) (sA++k::sB));rw[p8 hA];have:=oi.ctx (dw A sA) (jB (B.map fun u=>cx h u.2) sB);simpa using this
          · rw[en];simp[bD]
        · rw[if_pos he2];simp only;rw[if_pos he2];have G1:=(F1.ext F0.us (List.nodup_append.1 G0.nd).1).ext (fun q hq=>G0.us q (List.mem_append_right _ hq)) G0.nd;have e0:pX 0=[]:=by simp[pX]
          rw[e0]at j2;exact⟨_,_,_,rfl,((G0.trans G1).er (j2.ext (X:=[]) G1.us G1.nd)).mono (by omega),fun h0=>absurd h0 he2⟩
      · rw[if_pos he1];simp only;rw[if_pos he1];exact⟨_,_,_,rfl,(G0.er ((k2.ext F0.us (List.nodup_append.1 G0.nd).1).ext (fun q hq=>G0.us q (List.mem_append_right _ hq)) G0.nd)).mono (by omega),fun h0=>absurd h0 he1⟩
  · rw[if_pos he];exact⟨_,_,_,rfl,(((t2.ext (zb hp) (qT.nodup_iff.2 N5)).perm qT).ext C.us hnd).mono (by omega),fun h0=>absurd h0 he⟩
end
end P
namespace P
open N
def _root_.Go.Proofs.YtceoeaemenhbhabGreatDoor.Dr.bt (S:Dr)(z:Int):Dr:=⟨S.x,S.nodes,S.cnt,S.taken,S.spare,z⟩
def mR (l:List En):List It:=l.map fun(x:En)=>((false,x.1):It)
section
variable {room:Nat}{d:Dk}{S S1 S2:Dr}{h:Nat}{A B:List (KT h)}{sA sB:List ByteArray}{w:KT h}{key:ByteArray}{ed:List En->List En}
theorem Us.bt {p:Int}(hp:Us S p)(z:Int):Us (S.bt z) p:=⟨hp.lo,hp.hi,hp.fr,hp.sp⟩
theorem Sd.bt (ok:Sd room S)(z:Int):Sd room (S.bt z):=⟨ok.x,ok.sp,ok.nf,ok.sn,ok.fi,ok.bz,ok.tk⟩
theorem Bd.bt {m:Nat}(hb:Bd S m)(z:Int):Bd (S.bt z) m:=⟨hb.cnt,hb.mP,hb.A8,hb.Db⟩
theorem oL.bt {C:List (Int×Nd)}(hC:oL S d C)(z:Int):oL (S.bt z) d C:=hC
theorem wJ {z:It}{y:List It}:∀(l:List (List It)) (ss:List ByteArray),y∈l->z∈y->z∈iW l ss
 |[],_,hy,_=>by cases hy
 |a::l,[],hy,hz=>List.mem_flatten.2 ⟨y,hy,hz⟩
 |a::l,s::ss,hy,hz=>by
  rw[gN];rcases List.mem_cons.1 hy with rfl|hy
  ·exact List.mem_append_left _ hz
  ·exact List.mem_append_right _ (List.mem_cons_of_mem _ (wJ l ss hy hz))
theorem ja:∀(h:Nat) (b:BT h) (x:En),x∈dM h b->(false,x.1)∈cx h b
 |0,l,x,hx=>List.mem_map_of_mem (f:=fun(x:En)=>((false,x.1):It)) hx
 |h+1,b,x,hx=>by
  obtain⟨K,ss,rfl⟩:=eZ b;rw[oM]at hx;rw[Jv];obtain⟨l,hl,hxl⟩:=List.mem_flatten.1 hx;obtain⟨u,hu,rfl⟩:=List.mem_map.1 hl;exact wJ _ ss (List.mem_map_of_mem (f:=fun u:KT h=>cx h u.2) hu) (ja h u.2 x hxl)
theorem sN {K:List (KT h)}{x:En}(hx:x∈bD K)(l:List (List It))(hl:∀y∈K.map (fun u=>cx h u.2),y∈l)(ss:List ByteArray):(false,x.1)∈iW l ss:=by
 obtain⟨l',hl',hxl⟩:=List.mem_flatten.1 hx;obtain⟨u,hu,rfl⟩:=List.mem_map.1 hl';exact wJ _ ss (hl _ (List.mem_map_of_mem (f:=fun u:KT h=>cx h u.2) hu)) (ja h u.2 x hxl)
structure Loc (h:Nat)(b:BT h)(key:ByteArray)(L:List It)(es:List En)(R:List It)(EL ER:List En):Prop where
 fl:cx h b=L++(mR es++R)
 en:dM h b=EL++(es++ER)
 l1:L=[]∨∃L' s,L=L'++[(true,s)]
 r1:R=[]∨∃s R',R=(true,s)::R'
 l2:∀x∈L,x.1=true->bh key x.2=false
 r2:∀x∈R,x.1=true->bh key x.2=true
 el:∀x∈EL,(false,x.1)∈L
 er:∀x∈ER,(false,x.1)∈R
structure Oe (key:ByteArray)(ed:List En->List En):Prop where
 rg:∀es,Rg es->Rg (ed es)
 mem:∀es,Rg es->∀x∈ed es,(x.1=key∧1<=key.size∧key.size<=16)∨x∈es
 sz:∀es,Rg es->cA (ed es)<=cA es+58
theorem JE {L R:List It}{es:List En}(ho:bP (L++(mR es++R)))(l1:L=[]∨∃L' s,L=L'++[(true,s)])(l2:∀x∈L,x.1=true->bh key x.2=false):∀x∈L,RI x (false,key):=fun x hx=>by
 have p1:=(List.pairwise_append.1 ho.up).1;by_cases hb:x.1=true
 ·simpa[RI,hb]using l2 x hx hb
 ·rcases l1 with rfl| ⟨L',s,rfl⟩
  ·cases hx
  ·rcases List.mem_append.1 hx with hx|hx
   ·have h1:=(List.pairwise_append.1 p1).2.2 x hx (true,s) (by simp);have h2:=l2 (true,s) (by simp) rfl;have h3:bh x.2 s=true:=by simpa[RI]using h1
    simp only[RI,hb,if_false,Bool.false_eq_true];exact gA h2 h3
   ·rw[List.mem_singleton.1 hx]at hb;exact absurd rfl hb
theorem JF {L R:List It}{es:List En}(ho:bP (L++(mR es++R)))(r1:R=[]∨∃s R',R=(true,s)::R')(r2:∀x∈R,x.1=true->bh key x.2=true):∀y∈R,RI (false,key) y:=fun y hy=>by
 have p5:=(List.pairwise_append.1 (List.pairwise_append.1 ho.up).2.1).2.1;by_cases hb:y.1=true
 ·simpa[RI,hb]using r2 y hy hb
 ·rcases r1 with rfl| ⟨s,R',rfl⟩
  ·cases hy
  ·rcases List.mem_cons.1 hy with rfl|hy
   ·exact absurd rfl hb
   ·have h1:=(List.pairwise_cons.1 p5).1 y hy;have h2:bh key s=true:=r2 (true,s) (by simp) rfl;have h3:bh y.2 s=false:=by simpa[RI,hb]using h1
    simp only[RI,hb,if_false,Bool.false_eq_true];exact gA h3 h2
theorem sO {L R:List It}{es:List En}(E:Oe key ed)(ho:bP (L++(mR es++R)))(hv:∀x∈es,x.2.size<=40)(l1:L=[]∨∃L' s,L=L'++[(true,s)])(r1:R=[]∨∃s R',R=(true,s)::R')
    (l2:∀x∈L,x.1=true->bh key x.2=false)(r2:∀x∈R,x.1=true->bh key x.2=true):bP (L++(mR (ed es)++R)):=by
  obtain⟨p1,p2,p3⟩:=List.pairwise_append.1 ho.up;obtain⟨p4,p5,p6⟩:=List.pairwise_append.1 p2;have oe:bP (mR es):=ho.sub (List.Sublist.trans (List.sublist_append_left _ _) (List.sublist_append_right _ _));have hrg:Rg es:=bP.leaf oe hv;have rg':=E.rg es hrg;have mem':=E.mem es hrg;have hL:=JE ho l1 l2;have hR:=JF ho r1 r2;have hin:∀x∈mR (ed es),(x=(false,key)∧1<=key.size∧key.size<=16)∨x∈mR es:=fun x hx=>by
    obtain⟨y,hy,rfl⟩:=List.mem_map.1 hx;rcases mem' y hy with⟨e,hk⟩|e
    · exact .inl ⟨by rw[e],hk⟩
    · exact .inr (List.mem_map_of_mem (f:=fun(x:En)=>((false,x.1):It)) e)
  refine⟨List.pairwise_append.2 ⟨p1,List.pairwise_append.2 ⟨?_,p5,fun x hx y hy=>?_⟩,fun x hx y hy=>?_⟩,fun x hx=>?_⟩
  · unfold mR;rw[List.pairwise_map];exact rg'.up.imp fun {a b} hab=>by simpa[RI]using hab
  · rcases hin x hx with⟨rfl,_⟩|hx
    · exact hR y hy
    · exact p6 x hx y hy
  · rcases List.mem_append.1 hy with hy|hy
    · rcases hin y hy with⟨rfl,_⟩|hy
      · exact hL x hx
      · exact p3 x hx y (List.mem_append_left _ hy)
    · exact p3 x hx y (List.mem_append_right _ hy)
  · simp only[List.mem_append]at hx;rcases hx with hx|hx|hx
    · exact ho.sz x (by simp[hx])
    · rcases hin x hx with⟨rfl,hk⟩|hx
      · exact hk
      · exact ho.sz x (by simp[hx])
    · exact ho.sz x (by simp[hx])
theorem wK:∀ {A:List (KT h)} {sA:List ByteArray},A.length=sA.length->(dw A sA=[]∨∃L' s,dw A sA=L'++[(true,s)]∧s∈sA)
 |[],[],_=>.inl rfl
 |[],_::_,e=>by cases e
 |_::_,[],e=>by cases e
 |u::A,s::sA,e=>by
  right;have h1:dw (u::A) (s::sA)=cx h u.2++(true,s)::dw A sA:=rfl;rcases wK (A:=A) (sA:=sA) (by simpa using e)with h2| ⟨L',s',h2,h3⟩
  ·exact⟨cx h u.2,s,by rw[h1,h2],by simp⟩
  ·exact⟨cx h u.2++(true,s)::L',s',by rw[h1,h2];simp,by simp[h3]⟩
theorem uO {B:List (List It)}{sB:List ByteArray}(e:B.length=sB.length):jB B sB=[]∨∃s R',jB B sB=(true,s)::R'∧s∈sB:=by
 cases B with
 |nil=>cases sB with
  |nil=>exact .inl rfl
  |cons s sB=>cases e
 |cons x B=>cases sB with
  |nil=>cases e
  |cons s sB=>exact .inr ⟨s,_,iX _ _ _ _,by simp⟩
theorem Loc.up {L R:List It}{es EL ER:List En}(H:Loc h w.2 key L es R EL ER)(hA:A.length=sA.length)(hB:B.length=sB.length)(ho:bP (dw (A++w::B) (sA++sB)))(k1:∀s∈sA,bh key s=false)(k2:∀s∈sB,bh key s=true):
  Loc (h+1) (bI (A++w::B) (sA++sB)) key (dw A sA++L) es (R++jB (B.map fun u=>cx h u.2) sB) (bD A++EL) (ER++bD B):=by
 have e1:cx (h+1) (bI (A++w::B) (sA++sB))=dw A sA++(cx h w.2++jB (B.map fun u=>cx h u.2) sB):=eO hA;rw[eO hA]at ho;refine⟨?_,?_,?_,?_,fun x hx hb=>?_,fun x hx hb=>?_,fun x hx=>?_,fun x hx=>?_⟩
 ·rw[e1,H.fl];simp
 ·rw[oM,bQ,bV,H.en];simp
 ·rcases H.l1 with rfl| ⟨L',s,rfl⟩
  ·rw[List.append_nil];rcases wK hA with e| ⟨L',s,e,_⟩
   ·exact .inl e
   ·exact .inr ⟨L',s,e⟩
  ·exact .inr ⟨dw A sA++L',s,by simp⟩
 ·rcases H.r1 with rfl| ⟨s,R',rfl⟩
  ·rw[List.nil_append];rcases uO (B:=B.map fun u=>cx h u.2) (sB:=sB) (by simpa using hB)with e| ⟨s,R',e,_⟩
   ·exact .inl e
   ·exact .inr ⟨s,R',e⟩
  ·exact .inr ⟨s,R'++jB (B.map fun u=>cx h u.2) sB,rfl⟩
 ·rcases List.mem_append.1 hx with hx|hx
  ·
   rcases wK hA with h0| ⟨L',s,h0,hsA⟩
   ·rw[h0]at hx;cases hx
   ·have hs:(true,s)∈dw A sA:=by rw[h0];simp
    have hsm:bh key s=false:=k1 s hsA;rw[h0]at hx;rcases List.mem_append.1 hx with hx|hx
    ·rw[h0,List.append_assoc]at ho;have h1:=(List.pairwise_append.1 ho.up).2.2 x hx (true,s) (by simp);have h2:bh x.2 s=true:=by simpa[RI]using h1
     cases hc:bh key x.2 with
     |false=>rfl
     |true=>rw[cT hc h2]at hsm;cases hsm
    ·rw[List.mem_singleton.1 hx];exact hsm
  ·exact H.l2 x hx hb
 ·rcases List.mem_append.1 hx with hx|hx
  ·exact H.r2 x hx hb
  ·rcases uO (B:=B.map fun u=>cx h u.2) (sB:=sB) (by simpa using hB)with e| ⟨s,R',e,hs⟩
   ·rw[e]at hx;cases hx
   ·rw[e]at hx;have h0:=k2 s hs;rcases List.mem_cons.1 hx with rfl|hx
    ·exact h0
    ·rw[e]at ho;have h1:=(List.pairwise_append.1 (List.pairwise_append.1 ho.up).2.1).2.1;have h2:=(List.pairwise_cons.1 h1).1 x hx;have h3:bh s x.2=true:=by simpa[RI,hb]using h2
     exact cT h0 h3
 ·rcases List.mem_append.1 hx with hx|hx
  ·exact List.mem_append_left _ (sN hx _ (fun y hy=>hy) sA)
  ·exact List.mem_append_right _ (H.el x hx)
 ·rcases List.mem_append.1 hx with hx|hx
  ·exact List.mem_append_left _ (H.er x hx)
  ·exact List.mem_append_right _ (sN hx _ (fun y hy=>List.mem_cons_of_mem _ hy) sB)
theorem Loc.lo {b:BT h}{L R:List It}{es EL ER:List En}(H:Loc h b key L es R EL ER)(ho:bP (cx h b)):(∀x∈EL,bh x.1 key=true)∧∀x∈ER,bh key x.1=true:=by
 rw[H.fl]at ho;exact⟨fun x hx=>by simpa[RI]using JE ho H.l1 H.l2 _ (H.el x hx),fun x hx=>by simpa[RI]using JF ho H.r1 H.r2 _ (H.er x hx)⟩
end
end P
namespace P
open N
section
variable {room:Nat}{d:Dk}{S S1 S2:Dr}{h:Nat}{A B:List (KT h)}{sA sB:List ByteArray}{w:KT h}{key:ByteArray}{ed:List En->List En}
theorem wL:∀ {ss:List ByteArray},ss.Pairwise (fun x y=>bh x y=true)->∃sA sB,ss=sA++sB∧dA ss key=sA.length∧(∀s∈sA,bh key s=false)∧∀s∈sB,bh key s=true
 |[],_=>⟨[],[],rfl,rfl,(fun _ hc=>by cases hc),(fun _ hc=>by cases hc)⟩
 |s::ss,hp=>by
  obtain⟨p1,p2⟩:=List.pairwise_cons.1 hp;cases hs:bh key s with
  |false=>
   obtain⟨sA,sB,r1,r2,r3,r4⟩:=wL (ss:=ss) p2;refine⟨s::sA,sB,by rw[r1];rfl,?_,fun x hx=>?_,r4⟩
   ·unfold dA at r2⊢;rw[List.countP_cons_of_pos (by simp[hs]),r2];rfl
   ·rcases List.mem_cons.1 hx with rfl|hx
    ·exact hs
    ·exact r3 x hx
  |true=>
   have hall:∀x∈s::ss,bh key x=true:=fun x hx=>by
    rcases List.mem_cons.1 hx with rfl|hx
    ·exact hs
    ·exact cT hs (p1 x hx)
   refine⟨[],s::ss,rfl,?_,(fun _ hc=>by cases hc),hall⟩;unfold dA;rw[List.countP_eq_zero.2 (fun x hx=>by simp[hall x hx])];rfl
theorem kF {K:List (KT h)}{ss:List ByteArray}(hl:ss.length<=K.length)(ho:bP (dw K ss)):ss.Pairwise (fun x y=>bh x y=true):=by
 have h1:=ho.sub (gV (K.map fun u=>cx h u.2) ss (by simpa using hl));have h2:=h1.up;rw[List.pairwise_map]at h2;exact h2.imp fun {a b} hab=>by simpa[RI]using hab
structure Gb (room:Nat)(d:Dk)(S:Dr)(h:Nat)(b:BT h):Prop where
 sd:Sd room S
 wl:Wl h b
 sz:bS h b<=240
 us:∀p∈bn h b,Us S p
 nd:(bn h b).Nodup
 is:oL S d (lD h b)
 od:bP (cx h b)
 vl:∀x∈dM h b,x.2.size<=40
theorem Gb.rw {K:List (KT h)}{ss:List ByteArray}(G:Gb room d S (h+1) (bI K ss)):Rw room d S h K ss:=⟨G.sd,G.wl.2.2,G.us,G.nd,G.is,G.od,G.vl,by have:4+bO ss<=240:=G.sz;omega,.inl G.wl.1⟩
theorem Gb.sm (hr:room<=16384){b:BT h}(G:Gb room d S h b):bZ (aV h b)=true:=by
 cases h with
 |zero=>exact kD b (Nat.le_trans G.sz (by omega))
 |succ h=>
  obtain⟨K,ss,rfl⟩:=eZ b;exact G.rw.sm hr
def EX (d:Dk)(key:ByteArray)(es0:List En):Nat->Dr->Nd->Int->Prop
 |0,_,_,_=>True
 |f+1,S,n,depth=>if n.leaf=true then n.es=es0 else((S.read d (n.ks.getD (dA n.ss key) 0) (depth+1)).2=0->EX d key es0 f S (S.read d (n.ks.getD (dA n.ss key) 0) (depth+1)).1 (depth+1))
structure PB (room:Nat)(d:Dk)(c:Nat)(S:Dr)(X:List Int)(F:List It)(E:List En)(n:Nd)(S':Dr)(h:Nat)(t:BT h):Prop where
 n:n=aV h t
 ob:Ob room d S' h t
 fm:Fm room d c S X S' (bn h t)
 oi:OI F (cx h t)
 en:dM h t=E
 ln:(bn h t).length<=X.length+2*h
theorem step_ok (hr:room<=16384)(HJ:∀h,lG room d h){depth z:Int}(hd:depth+1+h<24){f m c:Nat}(C:Ctx room d S h A sA B sB)(hp:P0 S w.1)(us:∀p∈bn h w.2,Us S p)(hnd:(pX w.1++bn h w.2++(aW A++aW B)).Nodup)(hk:∀j,KP (A++w::B) (sA++sB) j)(hsz:bO (sA++sB)<=236)(hsw:bZ (aV h w.2)=true)
    {F:List It}{E:List En}{n:Nd}{t:BT h}(R:PB room d c (S.bt z) (bn h w.2) F E n S1 h t)(hod:bP (dw A sA++(F++jB (B.map fun u=>cx h u.2) sB)))(hc:c<=4*h)
    (hf:3*((pX w.1++bn h w.2++(aW A++aW B)).length+2*h+2)+5<=f)(hb:Bd S ((pX w.1++bn h w.2++(aW A++aW B)).length+6*h+6+m)):
    ∃n' e S',dZ (bu room d f) room S1 (aV (h+1) (bI (A++w::B) (sA++sB))) (A.length:Int) depth (aV h w.2) n=some ((n',e),S')∧Er room d (c+4) (S.bt z) (pX w.1++bn h w.2++(aW A++aW B)) S' e∧
      (e=0->∃K' ss',PB room d (c+4) (S.bt z) (pX w.1++bn h w.2++(aW A++aW B)) (dw A sA++(F++jB (B.map fun u=>cx h u.2) sB)) (bD A++(E++bD B)) n' S' (h+1) (bI K' ss')∧bO ss'<=bO (sA++sB)+21):=by
  obtain⟨rfl,ob,fm,oi,en,ln⟩:=R;have eX:(bn h w.2++(pX w.1++(aW A++aW B))).Perm (pX w.1++bn h w.2++(aW A++aW B)):=by
    rw[<-List.append_assoc];exact List.Perm.append_right _ List.perm_append_comm
  have eX2:(bn h t++(pX w.1++(aW A++aW B))).Perm (pX w.1++bn h t++(aW A++aW B)):=by
    rw[<-List.append_assoc];exact List.Perm.append_right _ List.perm_append_comm
  have usY:∀p∈pX w.1++(aW A++aW B),Us (S.bt z) p:=fun p hp'=>by
    rcases List.mem_append.1 hp' with h1|h1
    · exact(zb hp p h1).bt z
    · exact(C.us p h1).bt z
  have ndY:=eX.nodup_iff.2 hnd;have Ss:∀p∈pX w.1++(aW A++aW B),p∉bn h w.2:=fun p h1 h2=>(List.nodup_append.1 ndY).2.2 p h2 p h1 rfl;have F1:=(fm.ext usY ndY).perm eX eX2;have C1:Ctx room d S1 h A sA B sB:=⟨C.hA,C.hB,C.wl,fun q hq=>(fm.yZ ((C.us q hq).bt z) (Ss q (List.mem_append_right _ hq))).1,fm.NY (C.is.bt z) (by rw[List.map_append];exact fun q hq=>(C.us q hq).bt z) (by rw[List.map_append];exact fun q hq=>Ss q (List.mem_append_right _ hq)),C.vl⟩;have hp1:P0 S1 w.1:=by
    by_cases h0:w.1=0
    · exact .inl h0
    · have hm:w.1∈pX w.1:=by simp[pX,h0]
      exact .inr (fm.yZ (usY _ (List.mem_append_left _ hm)) (Ss _ (List.mem_append_left _ hm))).1
  have hl1:(pX w.1++bn h t++(aW A++aW B)).length<=(pX w.1++bn h w.2++(aW A++aW B)).length+2*h:=by
    simp only[List.length_append]at*;omega
  obtain⟨n',e,S',q1,q2,q3⟩:=JD (m:=m) hr HJ hd C1 hp1 t ob F1.nd hk (oi _ _ hod) (by omega) hsw (f:=f) (by omega) (F1.bd (hb.bt z) (by omega));refine⟨n',e,S',q1,F1.er q2,fun he=>?_⟩;obtain⟨K',ss',P⟩:=q3 he;refine⟨K',ss',⟨P.n,⟨P.rw,P.kp,by have:=P.sz;show bO ss'<=257;omega⟩,?_,?_,?_,?_⟩,P.sz⟩
  · exact F1.trans P.fm
  · exact(oi.ctx _ _).trans P.oi
  · rw[oM,P.en,en]
  · have:=P.ln;show(aW K').length<=_;omega
theorem fH (hr:room<=16384)(EH:Oe key ed){f:Nat}(l:List En)(depth:Int)(f0:Nat)(sd:Sd room S)(od:bP (cx 0 l))(vl:∀x∈l,x.2.size<=40)(hz:cA l<=240)(hf0:0<f0):
  ∃L es R EL ER,Loc 0 l key L es R EL ER∧EX d key es f0 S (aV 0 l) depth∧∃n ch e S',bA (bu room d f) room d key ed f0 S (aV 0 l) depth=some ((n,ch,e),S')∧Er room d (4*0) (S.bt (depth+(0:Nat))) (bn 0 l) S' e∧(e=0->ch=!decide (ed es=es)∧(ch=false->S'=S.bt (depth+(0:Nat)))∧(ch=true->∃t,PB room d (4*0) (S.bt (depth+(0:Nat))) (bn 0 l) (L++(mR (ed es)++R)) (EL++(ed es++ER)) n S' 0 t)):=by
 obtain⟨f0,rfl⟩:∃f',f0=f'+1:=⟨f0-1,by omega⟩;have hrg:Rg l:=bP.leaf od vl;refine⟨[],l,[],[],[],⟨?_,?_,.inl rfl,.inl rfl,(fun _ hc=>by cases hc),(fun _ hc=>by cases hc),(fun _ hc=>by cases hc),(fun _ hc=>by cases hc)⟩,rfl,?_⟩
 ·show mR l=[]++(mR l++[]);simp
 ·show l=[]++(l++[]);simp
 refine⟨aV 0 (ed l),!decide (ed l=l),0,S.bt depth,?_,fun hc=>absurd rfl hc,fun _=>⟨rfl,fun _=>by simp,fun _=>⟨ed l,rfl,⟨sd.bt _,?_,?_,?_⟩,?_,?_,?_,?_⟩⟩⟩
 ·rw[bA,if_neg (by rw[kD l (Nat.le_trans (show bS 0 l<=240 from hz) (by omega))];simp)];rfl
 ·have o:bP ([]++(mR l++[])):=by rw[List.nil_append,List.append_nil];exact od
  have:=sO (L:=[]) (R:=[]) (es:=l) EH o vl (.inl rfl) (.inl rfl) (fun _ hc=>by cases hc) (fun _ hc=>by cases hc);rw[List.nil_append,List.append_nil]at this;exact this
 ·exact fun x hx=>(cj.1 ((EH.rg l hrg).may x hx)).2.2
 ·have h1:=EH.sz l hrg;have h2:cA l<=240:=hz;omega
 ·simp only[Int.natCast_zero,Int.add_zero];exact Fm.refl (sd.bt _) (fun p hc=>by cases hc) List.nodup_nil
 ·show OI ([]++(mR (ed l)++[])) (mR (ed l));simp only[List.nil_append,List.append_nil];exact OI.refl _
 ·show ed l=[]++(ed l++[]);simp
 ·show 0<=0+_;omega
theorem sP (hr:room<=16384)(HJ:∀h,lG room d h)(EH:Oe key ed){f m:Nat}:∀(h:Nat) (b:BT h) (depth:Int) (f0:Nat),Gb room d S h b->depth+h<24->h<f0->3*((bn h b).length+2*h+2)+5<=f->Bd S ((bn h b).length+6*h+6+m)->
  ∃L es R EL ER,Loc h b key L es R EL ER∧EX d key es f0 S (aV h b) depth∧∃n ch e S',bA (bu room d f) room d key ed f0 S (aV h b) depth=some ((n,ch,e),S')∧Er room d (4*h) (S.bt (depth+h)) (bn h b) S' e∧(e=0->ch=!decide (ed es=es)∧(ch=false->S'=S.bt (depth+h))∧(ch=true->∃t,PB room d (4*h) (S.bt (depth+h)) (bn h b) (L++(mR (ed es)++R)) (EL++(ed es++ER)) n S' h t))
 |0,b,depth,f0,G,hd,hf0,hf,hb=>fH hr EH b depth f0 G.sd G.od G.vl G.sz hf0
 |h+1,b,depth,f0,G,hd,hf0,hf,hb=>by
  obtain⟨f0,rfl⟩:∃f',f0=f'+1:=⟨f0-1,by omega⟩;obtain⟨K,ss,rfl⟩:=eZ b;have R0:=G.rw;have hl:ss.length+1=K.length:=G.wl.1;obtain⟨sA,sB,rfl,hch,k1,k2⟩:=wL (key:=key) (kF (by omega) R0.od);obtain⟨A,w,B,rfl,hA⟩:∃A w B,K=A++w::B∧A.length=sA.length:=by
   obtain⟨w,B,r1,_⟩:=eh (l:=K.drop sA.length) (n:=K.length-sA.length-1) (by rw[List.length_drop];simp at hl;omega);exact⟨K.take sA.length,w,B,by rw[<-r1,List.take_append_drop],by rw[List.length_take];simp at hl;omega⟩
  have hB:B.length=sB.length:=by simp at hl;omega
  have hwz:=R0.wl w (by simp);have Pz:∀p∈dN w++(aW A++aW B),Us S p:=fun p hp=>R0.us p (by
   rw[bc,bE]
   simp only[List.mem_append]at hp⊢
   rcases hp with hp|hp|hp
   ·exact .inr (.inl hp)
   ·exact .inl hp
   ·exact .inr (.inr hp))
  have hperm:(dN w++(aW A++aW B)).Perm (aW (A++w::B)):=by
   rw[bc,bE,<-List.append_assoc,<-List.append_assoc];exact List.Perm.append_right _ List.perm_append_comm
  have hw0:w.1≠0:=by
   have:=(Pz w.1 (by simp[dN,nT])).lo;omega
  have PC:pX w.1=[w.1]:=by simp[pX,hw0]
  have eX:pX w.1++bn h w.2++(aW A++aW B)=dN w++(aW A++aW B):=by rw[PC,bY];rfl
  have Su:(pX w.1++bn h w.2++(aW A++aW B)).Nodup:=by rw[eX];exact hperm.nodup_iff.2 R0.nd
  have Og:(pX w.1++bn h w.2++(aW A++aW B)).length=(bn (h+1) (bI (A++w::B) (sA++sB))).length:=by
   rw[eX];exact hperm.length_eq
  have hlw:(bn h w.2).length<=(bn (h+1) (bI (A++w::B) (sA++sB))).length:=by
   rw[<-Og];simp only[List.length_append];omega
  have Wo:bP (dw A sA++(cx h w.2++jB (B.map fun u=>cx h u.2) sB)):=by rw[<-eO hA];exact R0.od
  have Gw:Gb room d S h w.2:=⟨G.sd,hwz.1,hwz.2,fun p hp=>Pz p (by simp[bY,hp]),by
    have:=(List.nodup_append.1 (List.nodup_append.1 Su).1).2.1
    exact this,fun x hx=>R0.is x (by rw[dg,dF];simp[nT,hx]),Wo.sub (List.Sublist.trans (List.sublist_append_left _ _) (List.sublist_append_right _ _)),fun x hx=>R0.vl x (by rw[bQ,bV];simp[hx])⟩
  obtain⟨L,es,R,EL,ER,loc,lfp,n,ch,e,S1,t1,t2,t3⟩:=sP hr HJ EH (f:=f) (m:=m) h w.2 (depth+1) f0 Gw (by omega) (by omega) (by omega) (hb.mono (by omega));have loc':=Loc.up loc hA hB R0.od k1 k2;have hgd:(aV (h+1) (bI (A++w::B) (sA++sB))).ks.getD (dA (aV (h+1) (bI (A++w::B) (sA++sB))).ss key) 0=w.1:=by
   rw[bU];simp only[hch];rw[<-hA];simp[List.getD_eq_getElem?_getD]
  have hci:((dA (aV (h+1) (bI (A++w::B) (sA++sB))).ss key:Nat):Int)=(A.length:Int):=by
   rw[bU];simp only[hch];omega
  have hrd:S.read d w.1 (depth+1)=(aV h w.2,0):=j4 R0.is (by simp) (by omega);refine⟨_,es,_,_,_,loc',?_,?_⟩
  ·rw[EX,if_neg (by rw[bU];simp),hgd,hrd];exact fun _=>lfp
  rw[bA,if_neg (by rw[G.sm hr];simp),if_neg (by rw[bU];simp),if_neg (by
   rw[bU]
   simp only[hch,List.length_map,List.length_append,List.length_cons]
   omega),hgd,hrd,if_neg (by simp)]
  simp only[t1];have hde:depth+1+(h:Int)=depth+((h+1:Nat):Int):=by omega
  by_cases he:e=0
  ·subst he;obtain⟨c1,c2,c3⟩:=t3 rfl;cases ch with
   |false=>
    rw[if_pos (by simp)];exact⟨_,_,_,_,rfl,fun hc=>absurd rfl hc,fun _=>⟨c1,fun _=>by rw[c2 rfl,hde],fun hc=>by cases hc⟩⟩
   |true=>
    rw[if_neg (by simp),hci];obtain⟨t,CR⟩:=c3 rfl;have Yq:bP (dw A sA++((L++(mR (ed es)++R))++jB (B.map fun u=>cx h u.2) sB)):=by
     have:=sO EH (by have:=Wo;rw[loc.fl]at this;simpa using this) (fun x hx=>Gw.vl x (by rw[loc.en];simp[hx])) loc'.l1 loc'.r1 loc'.l2 loc'.r2;simpa using this
    obtain⟨n',e',S',p1,p2,p3⟩:=step_ok (m:=m) hr HJ (depth:=depth) (z:=depth+1+h) (by omega) ⟨hA,hB,fun u hu=>R0.wl u (by simp only[List.mem_append]at hu;rcases hu with hu|hu<;>simp[hu]),fun q hq=>Pz q (List.mem_append_right _ hq),fun x hx=>R0.is x (by
      rw[dg,dF]
      simp only[List.mem_append]at hx⊢
      rcases hx with hx|hx
      ·exact .inl hx
      ·exact .inr (.inr hx)),fun x hx=>R0.vl x (by
      rw[bQ,bV]
      simp only[List.mem_append]at hx⊢
      rcases hx with hx|hx
      ·exact .inl hx
      ·exact .inr (.inr hx))⟩ (.inr (Pz w.1 (by simp[bY]))) Gw.us Su G.wl.2.1 (by have:4+bO (sA++sB)<=240:=G.sz;omega) (Gw.sm hr) CR Yq (by omega) (f:=f) (by rw[Og];omega) (hb.mono (by rw[Og];omega))
    rw[p1];refine⟨_,_,_,_,rfl,by rw[<-hde];exact(p2.perm (by rw[eX];exact hperm)).mono (by omega),fun he'=>⟨c1,(fun hc=>by cases hc),fun _=>?_⟩⟩;obtain⟨K',ss',P,_⟩:=p3 he';refine⟨bI K' ss',P.n,P.ob,?_,?_,?_,?_⟩
    ·have:=P.fm;rw[hde]at this;exact(this.perm (by rw[eX];exact hperm) (List.Perm.refl _)).mono (by omega)
    ·have:=P.oi;simpa using this
    ·rw[P.en];simp
    ·have:=P.ln;rw[Og]at this;exact this
  ·rw[if_pos (.inl he)];refine⟨_,_,_,_,rfl,?_,fun h0=>absurd h0 he⟩;have qW:(bn h w.2++(pX w.1++(aW A++aW B))).Perm (pX w.1++bn h w.2++(aW A++aW B)):=by
    rw[<-List.append_assoc];exact List.Perm.append_right _ List.perm_append_comm
   rw[<-hde];refine((t2.ext (Y:=pX w.1++(aW A++aW B)) (fun q hq=>?_) (qW.nodup_iff.2 Su)).perm (qW.trans (by rw[eX];exact hperm))).mono (by omega);exact(Pz q (by rw[<-eX];exact qW.mem_iff.1 (List.mem_append_right _ hq))).bt _
end
end P
namespace P
open N
section
variable {room:Nat}{d:Dk}{S S1 S2:Dr}{h:Nat}{key:ByteArray}{ed:List En->List En}
structure Gt (room:Nat)(d:Dk)(S:Dr)(h:Nat)(u:KT h):Prop where
 g:Gb room d S h u.2
 us:Us S u.1
 ni:u.1∉bn h u.2
 rd:S.vw d u.1=(aV h u.2,0)
theorem Gt.JH {u:KT h}(G:Gt room d S h u):(∀p∈dN u,Us S p)∧(dN u).Nodup∧oL S d (nT u):=by
 refine⟨fun p hp=>?_,?_,fun x hx=>?_⟩
 ·rcases List.mem_cons.1 hp with rfl|hp
  ·exact G.us
  ·exact G.g.us p hp
 ·exact List.nodup_cons.2 ⟨G.ni,G.g.nd⟩
 ·rcases List.mem_cons.1 hx with rfl|hx
  ·exact G.rd
  ·exact G.g.is x hx
theorem Gt.of {u:KT h}(sd:Sd room S)(wl:Wl h u.2)(sz:bS h u.2<=240)(us:∀p∈dN u,Us S p)(nd:(dN u).Nodup)(is:oL S d (nT u))(od:bP (cx h u.2))(vl:∀x∈dM h u.2,x.2.size<=40):Gt room d S h u:=
 ⟨⟨sd,wl,sz,fun p hp=>us p (List.mem_cons_of_mem _ hp),(List.nodup_cons.1 nd).2,fun x hx=>is x (List.mem_cons_of_mem _ hx),od,vl⟩,us _ (List.mem_cons_self ..),(List.nodup_cons.1 nd).1,is _ (List.mem_cons_self ..)⟩
theorem uP (u:KT h)(ss:List ByteArray)(j:Nat):KP [u] ss j:=by
 rw[nY];refine⟨fun a b k h1 h2=>?_,fun i a b k e1 e2 h1 h2=>?_⟩
 ·rw[List.getElem?_eq_none (by simp)]at h2;cases h2
 ·simp at e2;omega
def Vi:(h:Nat)->BT h->Prop
 |0,_=>True
 |h+1,t=>t.1.length≠1
theorem nZ:∀(h:Nat) (u:KT h) (S:Dr) (f:Nat) (depth:Int) (m:Nat),Gt room d S h u->S.bot=depth+h->0<=depth->depth+h<24->h<f->Bd S ((dN u).length+m)->
  ∃h' u' S',dE d f S u.1 depth=some ((u'.1,0),S')∧Gt room d S' h' u'∧Vi h' u'.2∧Fm room d 0 S (dN u) S' (dN u')∧dM h' u'.2=dM h u.2∧h'<=h
 |0,u,S,f,depth,m,G,Oh,h0,hd,hf,hb=>by
  obtain⟨f,rfl⟩:∃f',f=f'+1:=⟨f-1,by omega⟩;have hr:S.read d u.1 depth=(aV 0 u.2,0):=by rw[S.gF d _ _ (by omega)];exact G.rd
  refine⟨0,u,S,?_,G,trivial,Fm.refl G.g.sd G.JH.1 G.JH.2.1,rfl,Nat.le_refl _⟩;rw[dE,if_neg (by rw[hb.ok];simp),hr,if_neg (by simp),if_neg (by simp[aV]),if_neg (by omega)]
 |h+1,u,S,f,depth,m,G,Oh,h0,hd,hf,hb=>by
  obtain⟨f,rfl⟩:∃f',f=f'+1:=⟨f-1,by omega⟩;have hr:S.read d u.1 depth=(aV (h+1) u.2,0):=by rw[S.gF d _ _ (by omega)];exact G.rd
  by_cases h1:u.2.1.length=1
  ·obtain⟨p,b⟩:=u;obtain⟨K,ss,rfl⟩:=eZ b;have h1:K.length=1:=h1;obtain⟨v,rfl⟩:=sG h1;have hss:ss=[]:=by have:=G.g.wl.1;simpa[bI]using this
   subst hss;have R:=G.g.rw;have hD:Fm room d 0 S [p] (S.drop p) []:=qg G.g.sd G.us;have eP:aW [v]=dN v:=by simp[aW,hZ]
   have eC:hZ [v]=nT v:=by simp[hZ]
   have ePK:dN (p,bI [v] [])=[p]++dN v:=by
    rw[<-eP];rfl
   have usv:∀q∈dN v,Us S q:=by rw[<-eP];exact R.us
   have nv:p∉dN v:=by rw[<-eP];exact G.ni
   have E:=hD.ext (Y:=dN v) usv (by
    rw[List.singleton_append]
    exact List.nodup_cons.2 ⟨nv,by rw[<-eP];exact R.nd⟩)
   rw[List.nil_append]at E;have hwv:=R.wl v (by simp);have eF:dw [v] []=cx h v.2:=by simp[dw,iW]
   have Gv:Gt room d (S.drop p) h v:=Gt.of E.ok hwv.1 hwv.2 E.us E.nd (hD.NY (by rw[<-eC];exact R.is) usv (fun q hq hc=>nv (by rw[List.mem_singleton.1 hc]at hq;exact hq))) (by rw[<-eF];exact R.od) (fun x hx=>R.vl x (by simpa[bD]using hx));have hbv:Bd (S.drop p) ((dN v).length+m):=by
    refine E.bd hb ?_;rw[ePK];simp only[List.length_append,List.length_cons,List.length_nil];omega
   obtain⟨h',u',S',q1,q2,q3,q4,q5,q6⟩:=nZ h v (S.drop p) f (depth+1) m Gv (by rw[E.bot,Oh];omega) (by omega) (by omega) (by omega) hbv;refine⟨h',u',S',?_,q2,q3,?_,?_,by omega⟩
   ·rw[dE,if_neg (by rw[hb.ok];simp),hr,if_neg (by simp),if_pos (by rw[bU];simp)];rw[bU];exact q1
   ·rw[ePK];exact E.trans q4
   ·rw[q5];show _=bD [v];simp[bD]
  ·refine⟨h+1,u,S,?_,G,h1,Fm.refl G.g.sd G.JH.1 G.JH.2.1,rfl,Nat.le_refl _⟩;rw[dE,if_neg (by rw[hb.ok];simp),hr,if_neg (by simp),if_neg (by
    obtain⟨p,b⟩:=u
    obtain⟨K,ss,rfl⟩:=eZ b
    rw[bU]
    have h1:¬K.length=1:=h1
    simpa using h1),if_neg (by omega)]
theorem EZ (hr:room<=16384)(t:BT h)(ho:Ob room d S h t)(wt:Wl h t)(fi:cE (aV h t)=true)(hne:(aV h t).es≠[]∨(aV h t).ks≠[])(sm:bZ (aV h t)=true)(od:bP (cx h t)){f m:Nat}(hf:3<=f)(hb:Bd S ((bn h t).length+6+m)):
  ∃n e S',dZ (bu room d f) room S ⟨false,[],[0],[]⟩ 0 (-1) nd0 (aV h t)=some ((n,e),S')∧Er room d 0 S (bn h t) S' e∧
   (e=0->∃q,n=aV (h+1) (bI [(q,t)] [])∧Gt room d S' h (q,t)∧Fm room d 2 S (bn h t) S' (dN (q,t))):=by
 obtain⟨sd,us,nd,is,vl⟩:=ho.facts;have hfi:=fi;unfold cE at hfi;rw[Bool.and_eq_true,decide_eq_true_eq]at hfi;have zt:bS h t<=240:=hfi.2;have hfit:bX (bu room d f) S (aV h t) (-1+1)=some (([aV h t],[],0),S):=by
  unfold bX;rw[if_neg (fun hc=>by rcases hne with e|e;exact e hc.1;exact e hc.2),if_neg (by rw[sm];simp),if_neg (by rw[hfi.1];simp),if_pos fi]
 have hs0:bZ nd0=true:=by decide
 have hs1:bZ (⟨false,[],[0],[]⟩:Nd)=true:=by decide
 obtain⟨q,e2,S2,k1,k2,k3⟩:=wI (d:=d) (p:=0) sd (.inl rfl) fi hb;unfold dZ;rw[if_neg (by rw[hb.ok,hs0,hs1];simp),hfit];simp only;rw[if_neg (by simp),if_neg (by simp)];have hg:([(0:Int)]:List Int).getD (0:Int).toNat 0=0:=rfl;rw[hg];simp only[eH,k1];by_cases he:e2=0
 ·subst he;obtain⟨F,hv⟩:=k3 rfl;rw[if_neg (by simp)];simp only;have esw:fT ⟨false,[],[0],[]⟩ 0 (0+1) ([]++[q]) []=aV (h+1) (bI [(q,t)] []):=by
   rw[bU];simp[fT,swB,iy,uz,uA]
  have hw:P0 S ((0,t):KT h).1:=.inl rfl;have e0:pX ((0,t):KT h).1=[]:=by simp[pX]
  have e0':pX (0:Int)=[]:=by simp[pX]
  obtain⟨R,E⟩:=uM (w:=((0,t):KT h)) (A:=[]) (B:=[]) (sA:=[]) (sB:=[]) ⟨rfl,rfl,(fun _ hc=>by cases hc),(fun _ hc=>by cases hc),(fun _ hc=>by cases hc),(fun _ hc=>by cases hc)⟩ hw t ho (by rw[e0];simpa[aW,hZ]using nd) (by
   show bP ([]++(cx h t++[]))
   rw[List.nil_append,List.append_nil];exact od) (by simp[bO]) wt zt F hv
  have E':Fm room d 2 S (bn h t) S2 (dN (q,t)):=by
   have e1:aW ([]++([(q,t)]++[]))=dN (q,t):=by simp[aW,hZ]
   have e2:pX ((0,t):KT h).1++bn h t++(aW ([]:List (KT h))++aW ([]:List (KT h)))=bn h t:=by rw[e0];simp[aW,hZ]
   rw[e1,e2]at E;exact E
  have R':Rw room d S2 h [(q,t)] []:=R;have hst:∀(a b:Int),b<=2->0<=max a 0->max a 0<=2->bu room d f S2 (aV (h+1) (bI [(q,t)] [])) (-1) a b=some ((aV (h+1) (bI [(q,t)] []),0),S2):=fun a b hb' h1 h2=>by
   unfold bu;obtain⟨i,hi⟩:∃i:Nat,max a 0=(i:Int):=⟨(max a 0).toNat,by omega⟩;rw[hi];exact il hr R' (uP _ _) (by omega) f i b (by omega)
  have G:Gt room d S2 h (q,t):=Gt.of R'.sd wt zt (fun p hp=>R'.us p (by simpa[aW,hZ]using hp)) (by have:=R'.nd;simpa[aW,hZ]using this) (fun x hx=>R'.is x (by simpa[hZ]using hx)) od vl;rw[esw,if_neg (by simp)];split
  ·rw[hst _ _ (by simp) (by omega) (by omega)];exact⟨_,0,_,rfl,fun hc=>absurd rfl hc,fun _=>⟨q,rfl,G,E'⟩⟩
  ·rw[hst _ _ (by simp) (by omega) (by omega)];exact⟨_,0,_,rfl,fun hc=>absurd rfl hc,fun _=>⟨q,rfl,G,E'⟩⟩
 ·rw[if_pos he];simp only;rw[if_pos he];have e0:pX (0:Int)=[]:=by simp[pX]
  rw[e0]at k2;exact⟨_,_,_,rfl,(k2.ext (X:=[]) us nd).mono (by omega),fun h0=>absurd h0 he⟩
end
end P
namespace P
open N
section
variable {room:Nat}{d:Dk}{S S1 S2:Dr}{key:ByteArray}{ed:List En->List En}
def TS (room:Nat)(d:Dk)(S:Dr)(root:Int)(E:List En)(X:List Int)(H:Nat):Prop:=
 (root=0∧E=[]∧X=[]∧Sd room S∧H=0)∨∃h,∃u:KT h,u.1=root∧Gt room d S h u∧Vi h u.2∧dM h u.2=E∧X=dN u∧h=H
structure Sv (key:ByteArray)(ed:List En->List En)(E E' EL es ER:List En):Prop where
 was:E=EL++(es++ER)
 is:E'=EL++(ed es++ER)
 lo:∀x∈EL,bh x.1 key=true
 hi:∀x∈ER,bh key x.1=true
theorem Fm.bt {c:Nat}{S S':Dr}{X X':List Int}(F:Fm room d c S X S' X')(z:Int):Fm room d c (S.bt z) X (S'.bt z) X':=
 ⟨F.ok.bt z,fun p hp=>(F.us p hp).bt z,F.nd,fun p hp hn=>by
  obtain⟨a1,a2,a3,a4⟩:=F.keep p ⟨hp.lo,hp.hi,hp.fr,hp.sp⟩ hn
  exact⟨a1.bt z,a2,a3,a4⟩,F.tight,F.cnt,F.mP,F.A8,F.Db,rfl,F.cap,F.mine⟩
theorem Rw.bt {h:Nat}{K:List (KT h)}{ss:List ByteArray}(R:Rw room d S h K ss)(z:Int):Rw room d (S.bt z) h K ss:=⟨R.sd.bt z,R.wl,fun p hp=>(R.us p hp).bt z,R.nd,R.is,R.od,R.vl,R.sz,R.ln⟩
theorem Sw (hr:room<=16384)(HJ:∀h,lG room d h)(EH:Oe key ed){f m h:Nat}(w:KT h)(hp:P0 S w.1)(sd:Sd room S)(us:∀p∈bn h w.2,Us S p)(nd:(pX w.1++bn h w.2).Nodup)(sm:bZ (aV h w.2)=true)(rd:S.read d w.1 0=(aV h w.2,0))(od:bP (cx h w.2))(vl:∀x∈dM h w.2,x.2.size<=40)(hh:h<24)
  (hf:3*((pX w.1++bn h w.2).length+2*h+2)+5<=f)(hb:Bd S ((pX w.1++bn h w.2).length+6*h+6+m))
  {L R:List It}{es EL ER:List En}(loc:Loc h w.2 key L es R EL ER)(lfp:EX d key es 29 S (aV h w.2) 0){n:Nd}{ch:Bool}{e:Int}(t1:bA (bu room d f) room d key ed 29 S (aV h w.2) 0=some ((n,ch,e),S1))(t2:Er room d (4*h) (S.bt (0+h)) (bn h w.2) S1 e)
  (t3:e=0->ch=!decide (ed es=es)∧(ch=false->S1=S.bt (0+h))∧(ch=true->∃t,PB room d (4*h) (S.bt (0+h)) (bn h w.2) (L++(mR (ed es)++R)) (EL++(ed es++ER)) n S1 h t)):
  EX d key es 30 S ⟨false,[],[w.1],[]⟩ (-1)∧∃n' ch' e' S',bA (bu room d f) room d key ed 30 S ⟨false,[],[w.1],[]⟩ (-1)=some ((n',ch',e'),S')∧Er room d (4*h+4) (S.bt h) (pX w.1++bn h w.2) S' e'∧
   (e'=0->(ch'=false->ed es=es∧S'=S.bt h)∧(ch'=true->∃K' ss',PB room d (4*h+4) (S.bt h) (pX w.1++bn h w.2) (L++(mR (ed es)++R)) (EL++(ed es++ER)) n' S' (h+1) (bI K' ss')∧bO ss'<=21)):=by
 have hgd:([w.1]:List Int).getD (dA [] key) 0=w.1:=rfl;have h01:(-1:Int)+1=0:=by omega
 have hsm:bZ (⟨false,[],[w.1],[]⟩:Nd)=true:=Bc hr sd [w] [] (by simp) (by simp[bO]) (fun u hu=>by rw[List.mem_singleton.1 hu];exact hp);have hz:(0:Int)+(h:Int)=(h:Int):=by omega
 refine⟨?_,?_⟩
 ·rw[EX,if_neg (by simp)];simp only[hgd,h01,rd];exact fun _=>lfp
 ·rw[bA,if_neg (by rw[hsm];simp),if_neg (by simp),if_neg (by simp[dA])];simp only[hgd,h01,rd,t1];rw[if_neg (by simp)];by_cases he:e=0
  ·subst he;obtain⟨c1,c2,c3⟩:=t3 rfl;cases ch with
   |false=>
    rw[if_pos (by simp)];refine⟨_,_,_,_,rfl,fun hc=>absurd rfl hc,fun _=>⟨fun _=>⟨?_,by rw[c2 rfl,hz]⟩,fun hc=>by cases hc⟩⟩;simpa using c1.symm
   |true=>
    rw[if_neg (by simp)];obtain⟨t,CR⟩:=c3 rfl;rw[hz]at CR;have eX:pX w.1++bn h w.2++(aW ([]:List (KT h))++aW ([]:List (KT h)))=pX w.1++bn h w.2:=by simp[aW,hZ]
    have Yq:bP (L++(mR (ed es)++R)):=sO EH (by rw[<-loc.fl];exact od) (fun x hx=>vl x (by rw[loc.en];simp[hx])) loc.l1 loc.r1 loc.l2 loc.r2;obtain⟨n',e',S',p1,p2,p3⟩:=step_ok (m:=m) (A:=[]) (B:=[]) (sA:=[]) (sB:=[]) (w:=w) (S:=S) (z:=h) hr HJ (depth:=-1) (by omega) ⟨rfl,rfl,(fun _ hc=>by cases hc),(fun _ hc=>by cases hc),(fun _ hc=>by cases hc),(fun _ hc=>by cases hc)⟩ hp us (by rw[eX];exact nd) (uP _ _) (by simp[bO]) sm CR (by
     show bP ([]++((L++(mR (ed es)++R))++[]))
     rw[List.nil_append,List.append_nil];exact Yq) (by omega) (f:=f) (by rw[eX];exact hf) (by rw[eX];exact hb)
    have p1':dZ (bu room d f) room S1 ⟨false,[],[w.1],[]⟩ ((dA [] key:Nat):Int) (-1) (aV h w.2) n=some ((n',e'),S'):=p1;rw[p1'];refine⟨_,_,_,_,rfl,by rw[eX]at p2;exact p2,fun he'=>⟨fun hc=>(by cases hc),fun _=>?_⟩⟩;obtain⟨K',ss',P,hz'⟩:=p3 he';refine⟨K',ss',⟨P.n,P.ob,?_,?_,?_,?_⟩,by simpa[bO]using hz'⟩
    ·have:=P.fm
     rwa [eX]at this
    ·have:OI ([]++((L++(mR (ed es)++R))++[])) _:=P.oi;rw[List.nil_append,List.append_nil]at this;exact this
    ·rw[P.en];simp[bD]
    ·have:=P.ln
     rwa [eX]at this
  ·rw[if_pos (.inl he)];rw[hz]at t2;have qT:(bn h w.2++pX w.1).Perm (pX w.1++bn h w.2):=List.perm_append_comm;exact⟨_,_,_,_,rfl,((t2.ext (Y:=pX w.1) (fun q hq=>(zb hp q hq).bt _) (qT.nodup_iff.2 nd)).perm qT).mono (by omega),fun h0=>absurd h0 he⟩
theorem JI (hr:room<=16384){f m h:Nat}{n:Nd}{X:List Int}{F:List It}{E:List En}{K:List (KT h)}{ss:List ByteArray}(P:PB room d (4*h+4) (S.bt h) X F E n S1 (h+1) (bI K ss))(hz:bO ss<=21)(hh:h+1<24)(hf:3<=f)(hb:Bd S (X.length+8*h+30+m)):
  ∃n2 e2 S2,jX (bu room d f) room 10 S1 n=some ((n2,e2),S2)∧(∃z:Int,Er room d (4*h+4) (S.bt z) X S2 e2)∧(e2=0->∃r S3,(if n2.ks.length=0 then some ((0,0),S2)else if S2.bot< -1000∨1000<S2.bot∨bZ n2=false then none else dE d 24 S2 (n2.ks.getD 0 0) 0)=some ((r,0),S3)∧∃z X' H,TS room d S3 r E X' H∧Fm room d (4*h+6) (S.bt z) X S3 X'∧H<=h+1):=by
 obtain⟨rfl,⟨R0,kp0,hz'⟩,fm0,oi,en0,ln0⟩:=P;have R:Rw room d S1 h K ss:=R0;have kp:∀j,KP K ss j:=kp0;have fm:Fm room d (4*h+4) (S.bt h) X S1 (aW K):=fm0;have ln:(aW K).length<=X.length+2*(h+1):=ln0;have en:bD K=E:=en0;clear R0 kp0 fm0 ln0 en0 hz';have Oh:S1.bot=h:=fm.bot;have hb1:Bd S1 ((aW K).length+6+m+4):=fm.bd (hb.bt h) (by omega);have hlen:(aV (h+1) (bI K ss)).ks.length=K.length:=by rw[bU];simp
 have ek:∀v:KT h,aW [v]=dN v:=fun v=>by simp[aW,hZ]
 have ec:∀v:KT h,hZ [v]=nT v:=fun v=>by simp[hZ]
 rw[jX,if_neg (by rw[R.sm hr];simp),hlen];by_cases h1:1<K.length
 ·have hl:ss.length+1=K.length:=by
   rcases R.ln with e| ⟨e,_⟩
   ·exact e
   ·rw[e]at h1;simp at h1
  rw[if_pos h1,if_neg (by omega)];have hrt:=iY hr R.sd K ss hl R.us R.od;have hfi:cE (aV (h+1) (bI K ss))=true:=by
   unfold cE;rw[hrt,Bool.true_and];exact decide_eq_true (show 4+bO ss<=240 by omega)
  have wt:Wl (h+1) (bI K ss):=by rw[sI];exact⟨hl,kp,R.wl⟩
  obtain⟨n2,e2,S2,q1,q2,q3⟩:=EZ (S:=S1.bt (S1.bot+1)) (d:=d) (room:=room) hr (bI K ss) ⟨R.bt _,kp,by show bO ss<=257;omega⟩ wt hfi (.inr (by rw[bU];intro hc;simp at hc;rw[hc]at h1;simp at h1)) (R.sm hr) R.od (f:=f) (m:=m) hf ((hb1.bt _).mono (by show(aW K).length+6+m<=_;omega));have q1':dZ (bu room d f) room ⟨S1.x,S1.nodes,S1.cnt,S1.taken,S1.spare,S1.bot+1⟩ ⟨false,[],[0],[]⟩ 0 (-1) nd0 (aV (h+1) (bI K ss))=some ((n2,e2),S2):=q1;rw[q1'];simp only;by_cases he:e2=0
  ·subst he;obtain⟨q,rfl,G,F2⟩:=q3 rfl;rw[if_neg (by simp)];have F2:Fm room d 2 (S1.bt (S1.bot+1)) (aW K) S2 (dN (q,bI K ss)):=F2;have hb2:S2.bot=(h:Int)+1:=by rw[F2.bot];show S1.bot+1=_;omega
   have hB2:Bd S2 ((dN (q,bI K ss)).length+m):=F2.bd (hb1.bt _) (by omega);have Vj:bZ (aV (h+1+1) (bI [(q,bI K ss)] []))=true:=Bc hr G.g.sd [(q,bI K ss)] [] (by simp) (by simp[bO]) (fun u hu=>by rw[List.mem_singleton.1 hu];exact .inr G.us);have hl2:(aV (h+1+1) (bI [(q,bI K ss)] [])).ks.length=1:=rfl;rw[jX,if_neg (by rw[Vj];simp),hl2,if_neg (by omega)];refine⟨_,0,S2,rfl,⟨0,fun hc=>absurd rfl hc⟩,fun _=>?_⟩;rw[hl2,if_neg (by omega),if_neg (by rw[Vj];simp;omega)];obtain⟨h',u',S',l1,l2,l3,l4,l5,l6⟩:=nZ (h+1) (q,bI K ss) S2 24 0 m G (by rw[hb2];omega) (by omega) (by omega) (by omega) hB2;refine⟨u'.1,S',l1,S1.bot+1,dN u',h',.inr ⟨h',u',rfl,l2,l3,?_,rfl,rfl⟩,?_,by omega⟩
   ·rw[l5];exact en
   ·exact(((fm.bt (S1.bot+1)).trans F2).trans l4).mono (by omega)
  ·rw[if_pos he];exact⟨_,_,_,rfl,⟨S1.bot+1,((fm.bt (S1.bot+1)).er q2).mono (by omega)⟩,fun h0=>absurd h0 he⟩
 ·rw[if_neg h1];refine⟨_,0,S1,rfl,⟨0,fun hc=>absurd rfl hc⟩,fun _=>?_⟩;rw[hlen];by_cases h0:K.length=0
  ·have hK:K=[]:=List.length_eq_zero_iff.1 h0;subst hK;rw[if_pos h0];refine⟨0,S1,rfl,h,[],0,.inl ⟨rfl,?_,rfl,R.sd,rfl⟩,fm.mono (by omega),by omega⟩;rw[<-en];rfl
  ·obtain⟨v,rfl⟩:=sG (l:=K) (by omega);have hwv:=R.wl v (by simp);have hss:ss=[]:=by
    rcases R.ln with e| ⟨e,_⟩
    ·exact List.length_eq_zero_iff.1 (by simpa using e)
    ·cases e
   subst hss;have eF:dw [v] []=cx h v.2:=by simp[dw,iW]
   have G:Gt room d S1 h v:=Gt.of R.sd hwv.1 hwv.2 (by rw[<-ek];exact R.us) (by rw[<-ek];exact R.nd) (by rw[<-ec];exact R.is) (by rw[<-eF];exact R.od) (fun x hx=>R.vl x (by simpa[bD]using hx));rw[if_neg (by simp),if_neg (by rw[R.sm hr];simp;omega)];obtain⟨h',u',S',l1,l2,l3,l4,l5,l6⟩:=nZ h v S1 24 0 m G (by rw[Oh];omega) (by omega) (by omega) (by omega) (hb1.mono (by rw[<-ek];omega));refine⟨u'.1,S',l1,h,dN u',h',.inr ⟨h',u',rfl,l2,l3,?_,rfl,rfl⟩,?_,by omega⟩
   ·have e1:bD [v]=dM h v.2:=by simp[bD]
    rw[l5,<-e1];exact en
   ·have fm':Fm room d (4*h+4) (S.bt h) X S1 (dN v):=by rw[<-ek];exact fm
    exact(fm'.trans l4).mono (by omega)
end
end P
namespace P
open N
section
variable {room:Nat}{d:Dk}{S S1 S2:Dr}{key:ByteArray}{ed:List En->List En}
theorem Gt.bt {h:Nat}{u:KT h}(G:Gt room d S h u)(z:Int):Gt room d (S.bt z) h u:=⟨⟨G.g.sd.bt z,G.g.wl,G.g.sz,fun p hp=>(G.g.us p hp).bt z,G.g.nd,G.g.is,G.g.od,G.g.vl⟩,G.us.bt z,G.ni,G.rd⟩
theorem TS.bt {root:Int}{E:List En}{X:List Int}{H:Nat}(T:TS room d S root E X H)(z:Int):TS room d (S.bt z) root E X H:=by
 rcases T with⟨a,b,c,e,f⟩| ⟨h,u,a,b,c⟩
 ·exact .inl ⟨a,b,c,e.bt z,f⟩
 ·exact .inr ⟨h,u,a,b.bt z,c⟩
theorem TS.fm {root:Int}{E:List En}{X:List Int}{H:Nat}(T:TS room d S root E X H):Fm room d 0 S X S X:=by
 rcases T with⟨a,b,rfl,e,f⟩| ⟨h,u,a,b,c,g,rfl,i⟩
 ·exact Fm.refl e (fun _ hc=>by cases hc) List.nodup_nil
 ·exact Fm.refl b.g.sd b.JH.1 b.JH.2.1
theorem ze (hr:room<=16384)(HJ:∀h,lG room d h)(EH:Oe key ed){f m h:Nat}(w:KT h)(hp:P0 S w.1)(sd:Sd room S)(us:∀p∈bn h w.2,Us S p)(nd:(pX w.1++bn h w.2).Nodup)(sm:bZ (aV h w.2)=true)(rd:S.read d w.1 0=(aV h w.2,0))(od:bP (cx h w.2))(vl:∀x∈dM h w.2,x.2.size<=40)(hh:h+1<24)
  (hf:3*((pX w.1++bn h w.2).length+2*h+2)+5<=f)(hb:Bd S ((pX w.1++bn h w.2).length+8*h+30+m))(T:TS room d S w.1 (dM h w.2) (pX w.1++bn h w.2) h)
  {L R:List It}{es EL ER:List En}(loc:Loc h w.2 key L es R EL ER)(lfp:EX d key es 29 S (aV h w.2) 0){n:Nd}{ch:Bool}{e:Int}(t1:bA (bu room d f) room d key ed 29 S (aV h w.2) 0=some ((n,ch,e),S1))(t2:Er room d (4*h) (S.bt (0+h)) (bn h w.2) S1 e)
  (t3:e=0->ch=!decide (ed es=es)∧(ch=false->S1=S.bt (0+h))∧(ch=true->∃t,PB room d (4*h) (S.bt (0+h)) (bn h w.2) (L++(mR (ed es)++R)) (EL++(ed es++ER)) n S1 h t)):
  EX d key es 30 S ⟨false,[],[w.1],[]⟩ (-1)∧∃r e S',jY (bu room d f) room d key ed w.1 S=some ((r,e),S')∧(∃z:Int,Er room d (4*h+4) (S.bt z) (pX w.1++bn h w.2) S' e)∧(e=0->∃z X' H' E',TS room d S' r E' X' H'∧Fm room d (4*h+6) (S.bt z) (pX w.1++bn h w.2) S' X'∧H'<=h+1∧Sv key ed (dM h w.2) E' EL es ER):=by
 have hlo:=loc.lo od;obtain⟨lf,n',ch',e',S',c1,c2,c3⟩:=Sw (m:=m) hr HJ EH w hp sd us nd sm rd od vl (by omega) hf (hb.mono (by omega)) loc lfp t1 t2 t3;refine⟨lf,?_⟩;unfold jY;rw[c1];simp only;by_cases he:e'=0
 ·subst he;obtain⟨k1,k2⟩:=c3 rfl;cases ch' with
  |false=>
   obtain⟨r1,r2⟩:=k1 rfl;rw[if_pos (by simp),r2];exact⟨_,0,_,rfl,⟨0,fun hc=>absurd rfl hc⟩,fun _=>⟨h,_,h,_,T.bt h,(T.fm.bt h).mono (by omega),by omega,loc.en,by rw[r1];exact loc.en,hlo.1,hlo.2⟩⟩
  |true=>
   obtain⟨K',ss',P,hz⟩:=k2 rfl;rw[if_neg (by simp)];obtain⟨n2,e2,S2,g1,g2,g3⟩:=JI (m:=m) (f:=f) hr P hz hh (by omega) hb;rw[g1];simp only;by_cases he2:e2=0
   ·subst he2;rw[if_neg (by simp)];obtain⟨r,S3,q1,z,X',H',q2,q3,q4⟩:=g3 rfl;rw[q1];exact⟨r,0,S3,rfl,⟨0,fun hc=>absurd rfl hc⟩,fun _=>⟨z,X',H',_,q2,q3,q4,loc.en,rfl,hlo.1,hlo.2⟩⟩
   ·rw[if_pos he2];exact⟨_,_,_,rfl,g2,fun h0=>absurd h0 he2⟩
 ·rw[if_pos (.inl he)];exact⟨_,_,_,rfl,⟨h,c2.mono (by omega)⟩,fun h0=>absurd h0 he⟩
theorem Oi (hr:room<=16384)(HJ:∀h,lG room d h)(EH:Oe key ed){f m H:Nat}{root:Int}{E:List En}{X:List Int}(hn0:S.nodes 0=none)(T:TS room d S root E X H)(hH:H+1<24)(hf:3*(X.length+2*H+2)+5<=f)(hb:Bd S (X.length+8*H+30+m)):
  ∃es r e S',EX d key es 30 S ⟨false,[],[root],[]⟩ (-1)∧jY (bu room d f) room d key ed root S=some ((r,e),S')∧(∃z:Int,Er room d (4*H+4) (S.bt z) X S' e)∧(e=0->∃z X' H' E' EL ER,TS room d S' r E' X' H'∧Fm room d (4*H+6) (S.bt z) X S' X'∧H'<=H+1∧Sv key ed E E' EL es ER)∧(∃EL ER,E=EL++(es++ER)∧(∀x∈EL,bh x.1 key=true)∧∀x∈ER,bh key x.1=true):=by
 have T0:=T;rcases T with⟨rfl,rfl,rfl,sd,rfl⟩| ⟨h,u,rfl,G,tb,rfl,rfl,rfl⟩
 ·have Yr:S.read d 0 0=(aV 0 [],0):=by
   unfold Dr.read dJ;rw[hn0];simp;rfl
  obtain⟨L,es,R,EL,ER,loc,lfp,n,ch,e,S1,t1,t2,t3⟩:=fH (S:=S) (d:=d) (f:=f) hr EH [] 0 29 sd ⟨List.Pairwise.nil,fun _ hc=>by cases hc⟩ (fun _ hc=>by cases hc) (by simp[cA]) (by omega);have e0:pX ((0,[]):KT 0).1++bn 0 ((0,[]):KT 0).2=[]:=rfl;obtain⟨lf,r,e',S',g1,g2,g3⟩:=ze (m:=m) (f:=f) hr HJ EH ((0,[]):KT 0) (.inl rfl) sd (fun _ hc=>by cases hc) (by rw[e0];exact List.nodup_nil) (kD [] (by simp[bS,aV,dG,cA])) Yr ⟨List.Pairwise.nil,fun _ hc=>by cases hc⟩ (fun _ hc=>by cases hc) (by omega) (by rw[e0];exact hf) (by rw[e0];exact hb) (by rw[e0];exact T0) loc lfp t1 t2 t3;refine⟨es,r,e',S',lf,g1,g2,fun he=>?_,EL,ER,loc.en,loc.lo ⟨List.Pairwise.nil,fun _ hc=>by cases hc⟩⟩;obtain⟨z,X',H',E',q1,q2,q3,q4⟩:=g3 he;exact⟨z,X',H',E',EL,ER,q1,q2,q3,q4⟩
 ·have hu0:u.1≠0:=by have:=G.us.lo;omega
  have PC:pX u.1++bn h u.2=dN u:=by simp[pX,hu0,bY]
  have hlu:(bn h u.2).length<=(dN u).length:=by rw[bY];simp
  obtain⟨L,es,R,EL,ER,loc,lfp,n,ch,e,S1,t1,t2,t3⟩:=sP (S:=S) (d:=d) (f:=f) (m:=m) hr HJ EH h u.2 0 29 G.g (by omega) (by omega) (by omega) (hb.mono (by omega));have Yr:S.read d u.1 0=(aV h u.2,0):=by rw[S.gF d _ _ (by omega)];exact G.rd
  obtain⟨lf,r,e',S',g1,g2,g3⟩:=ze (m:=m) (f:=f) hr HJ EH u (.inr G.us) G.g.sd G.g.us (by rw[PC];exact G.JH.2.1) (G.g.sm hr) Yr G.g.od G.g.vl hH (by rw[PC];exact hf) (by rw[PC];exact hb) (by rw[PC];exact T0) loc lfp t1 t2 t3;refine⟨es,r,e',S',lf,g1,by rw[PC]at g2;exact g2,fun he=>?_,EL,ER,loc.en,loc.lo G.g.od⟩;obtain⟨z,X',H',E',q1,q2,q3,q4⟩:=g3 he;rw[PC]at q2;exact⟨z,X',H',E',EL,ER,q1,q2,q3,q4⟩
end
end P
namespace P
open N
section
variable {h:Nat}
def NP:List (KT h)->Prop
 |u::v::K=>(80<=bS h u.2∨80<=bS h v.2)∧NP (v::K)
 |_=>True
theorem PD:∀ {K:List (KT h)} {ss:List ByteArray},ss.length+1=K.length->(∀j,KP K ss j)->(∀s∈ss,s.size<=16)->NP K
 |[],_,_,_,_=>trivial
 |[_],_,_,_,_=>trivial
 |u::v::K,[],hl,_,_=>by simp at hl
 |u::v::K,k::ss,hl,hk,hs=>by
  refine⟨?_,PD (ss:=ss) (by simpa using hl) (fun j=>?_) (fun s hx=>hs s (by simp[hx]))⟩
  ·by_cases hc:80<=bS h u.2
   ·exact .inl hc
   ·right;have h1:=(hk 0 [] u v K [] k ss rfl rfl rfl).1 rfl (by omega);rw[nU]at h1;have h2:=hs k (by simp);split at h1<;>omega
  ·intro A a b B sA k' sB e1 e2 e3;have:=hk (j+1) (u::A) a b B (k::sA) k' sB (by rw[e1];rfl) (by rw[e2];rfl) (by simpa using e3);exact⟨fun hj=>this.1 (by simp;omega),fun hB hj=>this.2 hB (by simp;omega)⟩
def tu (K:List (KT h)):Nat:=K.countP fun u=>decide (bS h u.2<80)
def oc (K:List (KT h)):Nat:=K.countP fun u=>decide (80<=bS h u.2)
theorem Vk (K:List (KT h)):tu K+oc K=K.length:=by
 induction K with
 |nil=>rfl
 |cons u K ih=>
  unfold tu oc at*;rw[List.countP_cons,List.countP_cons,List.length_cons];by_cases hc:bS h u.2<80
  ·have:¬80<=bS h u.2:=by omega
   simp[hc,this];omega
  ·have:80<=bS h u.2:=by omega
   simp[hc,this];omega
theorem JJ:∀ {K:List (KT h)},NP K->tu K<=oc K+1∧(∀u K',K=u::K'->80<=bS h u.2->tu K<=oc K)
 |[],_=>⟨by simp[tu,oc],fun _ _ hc=>by cases hc⟩
 |[u],_=>by
  refine⟨?_,fun u' K' hc hz=>?_⟩
  ·unfold tu oc;rw[List.countP_cons,List.countP_cons];simp;split<;>omega
  ·cases hc;unfold tu oc;simp[hz]
 |u::v::K,hn=>by
  obtain⟨i1,i2⟩:=JJ hn.2;have e1:tu (u::v::K)=tu (v::K)+(if bS h u.2<80 then 1 else 0):=by unfold tu;rw[List.countP_cons];simp
  have e2:oc (u::v::K)=oc (v::K)+(if 80<=bS h u.2 then 1 else 0):=by unfold oc;rw[List.countP_cons];simp
  rw[e1,e2];by_cases hc:bS h u.2<80
  ·have hv:80<=bS h v.2:=by rcases hn.1 with e|e<;>omega
   have:=i2 v K rfl hv;refine⟨by rw[if_pos hc,if_neg (by omega)];omega,fun u' K' he hz=>?_⟩;cases he;omega
  ·refine⟨by rw[if_neg hc,if_pos (by omega)];omega,fun u' K' he hz=>?_⟩;rw[if_neg hc,if_pos (by omega)];omega
structure Vl (h:Nat)(b:BT h):Prop where
 one:1<=(dM h b).length
 big:80<=bS h b->2^(h+1)<=(dM h b).length
 any:(4*((bn h b).length+1:Nat):Int)<=7*(dM h b).length-3+4*h
 few:80<=bS h b->(4*((bn h b).length+1:Nat):Int)<=7*(dM h b).length-7-12*h
theorem Dj:∀ {K:List (KT h)},(∀u∈K,Vl h u.2)->K.length<=(bD K).length∧oc K*2^(h+1)<=(bD K).length∧(4*(aW K).length:Int)<=7*(bD K).length+tu K*(4*h-3)-oc K*(12*h+7)
 |[],_=>by simp[bD,oc,tu,aW,hZ]
 |u::K,hK=>by
  obtain⟨i1,i2,i3⟩:=Dj (K:=K) (fun v hv=>hK v (List.mem_cons_of_mem _ hv));have C:=hK u (List.mem_cons_self ..);have e1:tu (u::K)=tu K+(if bS h u.2<80 then 1 else 0):=by unfold tu;rw[List.countP_cons];simp
  have e2:oc (u::K)=oc K+(if 80<=bS h u.2 then 1 else 0):=by unfold oc;rw[List.countP_cons];simp
  have e3:(bD (u::K)).length=(dM h u.2).length+(bD K).length:=by rw[bV,List.length_append]
  have e4:(aW (u::K)).length=(bn h u.2).length+1+(aW K).length:=by rw[bE,bY,List.length_append,List.length_cons]
  have c1:=C.one;have c2:=C.any;by_cases hc:bS h u.2<80
  ·have KZ:tu (u::K)=tu K+1:=by rw[e1,if_pos hc]
   have e2':oc (u::K)=oc K:=by rw[e2,if_neg (by omega)];rfl
   rw[KZ,e2',e3,e4,List.length_cons];refine⟨by omega,by omega,?_⟩
   push_cast at c2⊢
   rw[Int.add_mul];omega
  ·have hg:80<=bS h u.2:=by omega
   have c3:=C.big hg;have c4:=C.few hg;have KZ:tu (u::K)=tu K:=by rw[e1,if_neg hc];rfl
   have e2':oc (u::K)=oc K+1:=by rw[e2,if_pos hg]
   rw[KZ,e2',e3,e4,List.length_cons];refine⟨by omega,by rw[Nat.add_mul];omega,?_⟩
   push_cast at c4⊢
   rw[Int.add_mul (oc K:Int)];omega
theorem JK (l:List En)(h0:l≠[])(hx:∀x∈l,kf x<=58):Vl 0 l:=by
 have h1:1<=l.length:=List.length_pos_iff.2 h0;have h2:80<=bS 0 l->2<=l.length:=fun hz=>by
  have:=kg hx;have hz:80<=cA l:=hz;omega
 have e1:(dM 0 l).length=l.length:=rfl;have e2:(bn 0 l).length=0:=rfl;refine⟨h1,fun hz=>h2 hz,?_,fun hz=>?_⟩
 ·rw[e1,e2];push_cast;omega
 ·have:=h2 hz;rw[e1,e2];push_cast;omega
theorem uQ (K:List (KT h))(ss:List ByteArray)(hl:ss.length+1=K.length)(hk:∀j,KP K ss j)(hs:∀s∈ss,s.size<=16)(hK:∀u∈K,Vl h u.2):Vl (h+1) (bI K ss)∧(2<=K.length->2^(h+1)<=(bD K).length):=by
 obtain⟨i1,i2,i3⟩:=Dj hK;have np:=PD hl hk hs;obtain⟨c1,_⟩:=JJ np;have c2:=Vk K;have e1:(dM (h+1) (bI K ss)).length=(bD K).length:=rfl;have e2:(bn (h+1) (bI K ss)).length=(aW K).length:=rfl;have hbig:80<=bS (h+1) (bI K ss)->5<=K.length:=fun hz=>by
  have hz:80<=4+bO ss:=hz;have:=uv hs;omega
 have kk:(tu K:Int)*(4*h-3)- (oc K:Int)*(12*h+7)<=4*h-3∧(5<=K.length->(tu K:Int)*(4*h-3)- (oc K:Int)*(12*h+7)<=-(12*h)-23):=by
  by_cases h0:h=0
  ·subst h0;simp only[Int.natCast_zero,Int.mul_zero];omega
  ·have e:(12*(h:Int)+7)=(4*h-3)+(8*h+10):=by omega
   have hpos:(0:Int)<=4*h-3:=by omega
   have k1:(tu K:Int)*(4*h-3)<=((oc K:Int)+1)*(4*h-3):=Int.mul_le_mul_of_nonneg_right (by omega) hpos;rw[Int.add_mul,Int.one_mul]at k1;have g2:∀q:Nat,q<=oc K->(q:Int)*(8*h+10)<=(oc K:Int)*(8*h+10):=fun q hq=>Int.mul_le_mul_of_nonneg_right (by omega) (by omega);rw[e,Int.mul_add];refine⟨?_,fun h5=>?_⟩
   ·have:=g2 0 (by omega);simp only[Int.natCast_zero,Int.zero_mul]at this;omega
   ·have:=g2 2 (by omega);simp only[Int.cast_ofNat_Int]at this;omega
 have g2n:∀q:Nat,q<=oc K->q*2^(h+1)<=(bD K).length:=fun q hq=>Nat.le_trans (Nat.mul_le_mul_right _ hq) i2;refine⟨⟨by rw[e1];omega,fun hz=>?_,?_,fun hz=>?_⟩,fun h2=>?_⟩
 ·have:=hbig hz;have:=g2n 2 (by omega);rw[e1,Nat.pow_succ 2 (h+1)];omega
 ·have:=kk.1;rw[e1,e2]
  push_cast
  omega
 ·have:=kk.2 (hbig hz);rw[e1,e2]
  push_cast
  omega
 ·have:=g2n 1 (by omega);omega
theorem wM {room:Nat}{d:Dk}{S:Dr}:∀(h:Nat) (b:BT h),Wl h b->bP (cx h b)->(∀x∈dM h b,x.2.size<=40)->Vl h b
 |0,l,wl,od,vl=>JK l wl (fun x hx=>k7 (od.sz (false,x.1) (ja 0 l x hx)).2 (vl x hx))
 |h+1,b,wl,od,vl=>by
  obtain⟨K,ss,rfl⟩:=eZ b;have od:bP (dw K ss):=od;refine(uQ K ss wl.1 wl.2.1 (fun s hs=>?_) (fun u hu=>?_)).1
  ·have h1:=od.sub (gV (K.map fun u=>cx h u.2) ss (by have:=wl.1;simp only[bI]at this;simp;omega));exact(h1.sz (true,s) (List.mem_map_of_mem (f:=fun s=>((true,s):It)) hs)).2
  ·obtain⟨A,B,rfl⟩:=List.append_of_mem hu;refine wM (room:=room) (d:=d) (S:=S) h u.2 (wl.2.2 u hu).1 ?_ (fun x hx=>vl x (by rw[oM,bQ,bV];simp[hx]));have hl:=wl.1;simp only[bI]at hl;have e:ss=ss.take A.length++ss.drop A.length:=(List.take_append_drop _ _).symm;rw[e,eO (by rw[List.length_take];simp at hl;omega)]at od;exact od.sub (List.Sublist.trans (List.sublist_append_left _ _) (List.sublist_append_right _ _))
theorem TS.cnt {room:Nat}{d:Dk}{S:Dr}{root:Int}{E:List En}{X:List Int}{H:Nat}(T:TS room d S root E X H):(4*X.length:Int)<=7*E.length+4*H∧(H=0∨2^H<=E.length):=by
 rcases T with⟨rfl,rfl,rfl,sd,rfl⟩| ⟨h,u,rfl,G,tb,rfl,rfl,rfl⟩
 ·simp
 ·have C:=wM (room:=room) (d:=d) (S:=S) h u.2 G.g.wl G.g.od G.g.vl;have c1:=C.any;refine⟨?_,?_⟩
  ·rw[bY,List.length_cons];omega
  ·cases h with
   |zero=>exact .inl rfl
   |succ h=>
    right;obtain⟨p,b⟩:=u;obtain⟨K,ss,rfl⟩:=eZ b;have hl:ss.length+1=K.length:=G.g.wl.1;have tb:K.length≠1:=tb;have R:=G.g.rw;have od:bP (dw K ss):=R.od;refine(uQ K ss hl G.g.wl.2.1 (fun s hs=>?_) (fun u hu=>?_)).2 (by omega)
    ·have h1:=od.sub (gV (K.map fun u=>cx h u.2) ss (by simp;omega));exact(h1.sz (true,s) (List.mem_map_of_mem (f:=fun s=>((true,s):It)) hs)).2
    ·obtain⟨A,B,rfl⟩:=List.append_of_mem hu;refine wM (room:=room) (d:=d) (S:=S) h u.2 (R.wl u hu).1 ?_ (fun x hx=>R.vl x (by rw[bQ,bV];simp[hx]));have e:ss=ss.take A.length++ss.drop A.length:=(List.take_append_drop _ _).symm;rw[e,eO (by rw[List.length_take];simp at hl;omega)]at od;exact od.sub (List.Sublist.trans (List.sublist_append_left _ _) (List.sublist_append_right _ _))
end
end P
namespace P
open N
theorem qj:∀(l:List (List It)) (ss:List ByteArray),l.flatten.Sublist (iW l ss)
 |[],ss=>by rw[su];exact List.Sublist.refl _
 |x::l,[]=>List.Sublist.refl _
 |x::l,s::ss=>by
  rw[gN,List.flatten_cons];exact List.Sublist.append (List.Sublist.refl _) (List.Sublist.trans (qj l ss) (List.sublist_cons_self _ _))
theorem zg {α β:Type}{f g:α->List β}:∀ {l:List α},(∀x∈l,(f x).Sublist (g x))->(l.map f).flatten.Sublist (l.map g).flatten
 |[],_=>List.Sublist.refl _
 |x::l,hx=>by
  rw[List.map_cons,List.map_cons,List.flatten_cons,List.flatten_cons];exact List.Sublist.append (hx x (List.mem_cons_self ..)) (zg fun y hy=>hx y (List.mem_cons_of_mem _ hy))
theorem zh:∀(h:Nat) (b:BT h),(mR (dM h b)).Sublist (cx h b)
 |0,l=>List.Sublist.refl _
 |h+1,b=>by
  obtain⟨K,ss,rfl⟩:=eZ b;rw[oM,Jv];have e:mR (bD K)=(K.map fun u=>mR (dM h u.2)).flatten:=by
   unfold mR bD;rw[List.map_flatten,List.map_map];rfl
  rw[e];exact List.Sublist.trans (zg fun u hu=>zh h u.2) (qj _ _)
theorem TS.rg {room:Nat}{d:Dk}{S:Dr}{root:Int}{E:List En}{X:List Int}{H:Nat}(T:TS room d S root E X H):Rg E:=by
 rcases T with⟨rfl,rfl,rfl,sd,rfl⟩| ⟨h,u,rfl,G,tb,rfl,rfl,rfl⟩
 ·exact Rg.nil
 ·exact bP.leaf (G.g.od.sub (zh h u.2)) G.g.vl
theorem Dl (x:En):∀l,cA (gT x l)=kf x+cA l
 |[]=>by simp[gT,cA]
 |y::l=>by
  unfold gT;split
  ·simp[cA]
  ·simp only[cA,Dl x l];omega
theorem lJ (p:En->Bool):∀l:List En,cA (l.filter p)<=cA l
 |[]=>by simp
 |x::l=>by
  rw[List.filter_cons];have:=lJ p l;split<;>simp only[cA]<;>omega
def Lf (key val:ByteArray):List En->List En:=fun es=>if(cF key val&&gi es)=true then gp es key val else es
def TF (key:ByteArray):List En->List En:=fun es=>if gi es=true then ie es key else es
theorem wN {key val:ByteArray}(hm:cF key val=true){es:List En}(h:Rg es):Lf key val es=gp es key val:=by
 unfold Lf;rw[hm,fk h];rfl
theorem wO {key:ByteArray}{es:List En}(h:Rg es):TF key es=ie es key:=by
 unfold TF;rw[fk h];rfl
theorem Oj {key val:ByteArray}(hm:cF key val=true):Oe key (Lf key val):=by
 refine⟨fun es h=>by rw[wN hm h];exact rD h hm,fun es h x hx=>?_,fun es h=>?_⟩
 ·rw[wN hm h]at hx;rcases fQ.1 hx with rfl|hx
  ·have h1:=cj.1 hm;exact .inl ⟨rfl,h1.1,h1.2.1⟩
  ·exact .inr hx.1
 ·rw[wN hm h];have h1:=cj.1 hm;have h2:=lJ (fun x=>!decide (x.1=key)) es;unfold gp ie;rw[Dl];have:kf (key,val)<=58:=k7 h1.2.1 h1.2.2;omega
theorem Ol (key:ByteArray):Oe key (TF key):=by
 refine⟨fun es h=>by rw[wO h];exact vt h key,fun es h x hx=>?_,fun es h=>?_⟩
 ·rw[wO h]at hx;exact .inr (ig.1 hx).1
 ·rw[wO h];have h2:=lJ (fun x=>!decide (x.1=key)) es;unfold ie;omega
theorem og {EL es ER:List En}(h:Rg (EL++(es++ER))):Rg es:=h.sub (List.Sublist.trans (List.sublist_append_left _ _) (List.sublist_append_right _ _))
theorem Sv.put {key val:ByteArray}{E E' EL es ER:List En}(hm:cF key val=true)(R:Sv key (Lf key val) E E' EL es ER)(h:Rg E)(h':Rg E'):E'=gp E key val:=by
 obtain⟨rfl,rfl,lo,hi⟩:=R;rw[wN hm (og h)]at h'⊢;refine Rg.ext h' (rD h hm) fun x=>?_;rw[fQ];simp only[List.mem_append,fQ];constructor
 ·rintro(hx| (rfl|hx)|hx)
  ·exact .inr ⟨.inl hx,dY (lo x hx)⟩
  ·exact .inl rfl
  ·exact .inr ⟨.inr (.inl hx.1),hx.2⟩
  ·exact .inr ⟨.inr (.inr hx),(dY (hi x hx)).symm⟩
 ·rintro(rfl| ⟨hx|hx|hx,hn⟩)
  ·exact .inr (.inl (.inl rfl))
  ·exact .inl hx
  ·exact .inr (.inl (.inr ⟨hx,hn⟩))
  ·exact .inr (.inr hx)
theorem Sv.del {key:ByteArray}{E E' EL es ER:List En}(R:Sv key (TF key) E E' EL es ER)(h:Rg E)(h':Rg E'):E'=ie E key:=by
 obtain⟨rfl,rfl,lo,hi⟩:=R;rw[wO (og h)]at h'⊢;refine Rg.ext h' (vt h key) fun x=>?_;rw[ig];simp only[List.mem_append,ig];constructor
 ·rintro(hx|hx|hx)
  ·exact⟨.inl hx,dY (lo x hx)⟩
  ·exact⟨.inr (.inl hx.1),hx.2⟩
  ·exact⟨.inr (.inr hx),(dY (hi x hx)).symm⟩
 ·rintro⟨hx|hx|hx,hn⟩
  ·exact .inl hx
  ·exact .inr (.inl ⟨hx,hn⟩)
  ·exact .inr (.inr hx)
theorem zj {key:ByteArray}{EL es ER:List En}(lo:∀x∈EL,bh x.1 key=true)(hi:∀x∈ER,bh key x.1=true):fY (EL++(es++ER)) key=fY es key:=by
 rw[Bool.eq_iff_iff,dR,dR];simp only[List.mem_append];constructor
 ·rintro⟨x,hx|hx|hx,e⟩
  ·exact absurd e (dY (lo x hx))
  ·exact⟨x,hx,e⟩
  ·exact absurd e.symm (dY (hi x hx))
 ·rintro⟨x,hx,e⟩;exact⟨x,.inr (.inl hx),e⟩
theorem Sx {key:ByteArray}{EL es ER:List En}(h:Rg (EL++(es++ER)))(lo:∀x∈EL,bh x.1 key=true)(hi:∀x∈ER,bh key x.1=true):kJ (EL++(es++ER)) key=kJ es key:=by
 refine(L5 h (og h) fun v=>?_).2;simp only[List.mem_append];constructor
 ·rintro(hx|hx|hx)
  ·exact absurd rfl (dY (lo _ hx))
  ·exact hx
  ·exact absurd rfl (dY (hi _ hx))
 ·exact fun hx=>.inr (.inl hx)
end P
namespace P
open N
section
variable {room:Nat}{d:Dk}
theorem Om {free:List Pr}{id:Int}(hc:Cn free)(h0:0<=id∧id<=4294967295)(hn:¬dh free id):jn (Bw free [(id,id)])=jn free+1:=by
 have h1:=DW free [(id,id)];have c1:Cn [(id,id)]:=⟨fun r hr=>by rw[List.mem_singleton.1 hr];exact⟨h0.1,Int.le_refl _,h0.2⟩,by simp⟩;have e1:uf free [(id,id)]=[]:=qX _ _ (nu _ _) Cn.nil fun n=>by
  rw[nw];constructor
  ·rintro⟨h2,h3⟩;have:=(eI _ _).1 h3;have e:n=id:=by have:=this.2.2;omega
   exact absurd (e▸h2) hn
  ·exact fun h2=>absurd h2 (dx n)
 rw[e1,ug hc,ug c1,pD]at h1;have e2:jn [(id,id)]=1:=by simp[jn]
 omega
theorem sQ:∀(l:List Int) (x:TX),room<=4294967295->x.Ok room->(∀q∈l,(x.fresh q).isSome=true)->l.Nodup->
  (aI x l).Ok room∧(aI x l).pages=x.pages∧(aI x l).cnt=x.cnt∧(∀q,(aI x l).fresh q=if q∈l then none else x.fresh q)∧(∀q,dh (aI x l).free q↔dh x.free q∨q∈l)∧(aI x l).cap room=x.cap room+l.length
 |[],x,_,ok,_,_=>⟨ok,rfl,rfl,by simp[aI],by simp[aI],by simp[aI]⟩
 |id::l,x,hr,ok,hf,nd=>by
  have hid:=hf id (by simp);have k:=ok.fs id hid;have hpr:=ok.pr;obtain⟨n1,n2⟩:=List.nodup_cons.1 nd;have e0:x.drop id=⟨Bw x.free [(id,id)],x.pages,qQ x.fresh id,x.cnt⟩:=by unfold TX.drop;rw[if_pos hid]
  have hnf:¬dh x.free id:=fun c=>by rw[ok.dj id c]at hid;cases hid
  obtain⟨r1,r2,r3,r4,r5,r6⟩:=sQ l (x.drop id) hr (TX.Bx ok id) (fun q hq=>by
   rw[e0]
   simp only
   rw[nG,hf q (by simp[hq])]
   have:q≠id:=fun e=>n1 (e▸hq)
   simp[this]) n2
  have e1:aI x (id::l)=aI (x.drop id) l:=rfl;rw[e1];refine⟨r1,by rw[r2,e0],by rw[r3,e0],fun q=>?_,fun q=>?_,?_⟩
  ·rw[r4 q,e0];simp only[qQ,List.mem_cons];by_cases h1:q=id
   ·subst h1;simp
   ·simp[h1]
  ·rw[r5 q,e0];simp only;rw[vn,eI,List.mem_cons];constructor
   ·rintro((h1|h1)|h1)
    ·exact .inl h1
    ·exact .inr (.inl (by omega))
    ·exact .inr (.inr h1)
   ·rintro(h1|rfl|h1)
    ·exact .inl (.inl h1)
    ·exact .inl (.inr ⟨by omega,by omega,by simp,by simp⟩)
    ·exact .inr h1
  ·rw[r6,e0];unfold TX.cap;simp only;rw[Om ok.cn (by omega) hnf,List.length_cons]
   push_cast
   omega
def JM (n:Nd):C3:=⟨true,(mW n).toNat.toUInt8,kq n⟩
theorem mN {n:Nd}(hf:cE n=true):(kq n).size<=240:=by
 have h1:=hf;unfold cE at h1;rw[Bool.and_eq_true,decide_eq_true_eq]at h1;unfold kq;rw[if_pos hf];show(wX n).toArray.size<=240;rw[List.size_toArray,gU h1.1];exact h1.2
theorem zk (nodes:Int->Option Nd):∀(L:List Int) (x:TX),x.Ok room->(∀q∈L,(x.fresh q).isSome=true∧∃n,nodes q=some n∧cE n=true)->
  (cL nodes x L).Ok room∧(cL nodes x L).pages=x.pages∧(cL nodes x L).free=x.free∧(cL nodes x L).cnt=x.cnt+L.length∧(∀q,(cL nodes x L).fresh q=if q∈L then(nodes q).map JM else x.fresh q)
 |[],x,ok,_=>⟨ok,rfl,rfl,rfl,by simp[cL]⟩
 |id::L,x,ok,hL=>by
  obtain⟨hf,n,hn,hfi⟩:=hL id (by simp);have hs:=mN hfi;have e0:(x.put id (mW ((nodes id).getD nd0)).toNat.toUInt8 (kq ((nodes id).getD nd0))).2=⟨x.free,x.pages,gy x.fresh id (JM n),x.cnt+1⟩:=by
   rw[hn];unfold TX.put;rw[if_pos hf,if_neg (by simp only[Option.getD_some];omega)];rfl
  have ok':=TX.Qu ok id (mW ((nodes id).getD nd0)).toNat.toUInt8 (kq ((nodes id).getD nd0));rw[e0]at ok';obtain⟨r1,r2,r3,r4,r5⟩:=zk nodes L _ ok' (fun q hq=>⟨by simp only;rw[dC,(hL q (by simp[hq])).1,Bool.or_true],(hL q (by simp[hq])).2⟩);have e1:cL nodes x (id::L)=cL nodes ⟨x.free,x.pages,gy x.fresh id (JM n),x.cnt+1⟩ L:=by rw[cL,e0]
  rw[e1];refine⟨r1,r2,r3,by rw[r4,List.length_cons];simp only;omega,fun q=>?_⟩;rw[r5 q];by_cases h1:q∈L
  ·simp[h1]
  ·by_cases h2:q=id
   ·subst h2;simp[h1,hn,gy]
   ·simp[h1,h2,gy]
theorem Vm {y:TX}{p:Int}{n:Nd}(hp:2<=p)(hf:cE n=true)(hc:y.fresh p=some (JM n)):(eQ y).vw d p=(n,0):=by
 have h1:=hf;unfold cE at h1;rw[Bool.and_eq_true,decide_eq_true_eq]at h1;have hd:=yc h1.1 h1.2;have hb:(kq n).data.toList=wX n:=by unfold kq;rw[if_pos hf]
 have hk:mW n=wY n:=by unfold mW;rw[if_pos hf]
 unfold Dr.vw Dr.read dJ;have e0:¬(((eQ y).nodes p).isSome=true∧(0:Int)<24):=by simp[eQ]
 rw[if_neg e0,if_neg (by omega),if_neg (by omega)];have ex:(eQ y).x=y:=rfl;rw[ex];unfold bW TX.get;rw[hc];by_cases hl:n.leaf=true
 ·have e1:wY n=1:=by unfold wY;rw[if_pos hl]
  have e2:(JM n).kind=1:=by show(mW n).toNat.toUInt8=1;rw[hk,e1];rfl
  have e3:(JM n).there=true:=rfl;have e4:(JM n).body=kq n:=rfl;simp only[e2,e3,e4,and_self,if_true];unfold tR tE uy;rw[hb];rw[e1]at hd;rw[hd];simp[kK]
 ·have e1:wY n=2:=by unfold wY;rw[if_neg hl]
  have e2:(JM n).kind=2:=by show(mW n).toNat.toUInt8=2;rw[hk,e1];rfl
  have e3:(JM n).there=true:=rfl;have e4:(JM n).body=kq n:=rfl;have e5:¬((2:UInt8)=1):=by decide
  simp only[e2,e3,e4,e5,and_self,and_false,if_false,if_true];unfold tR tE uy;rw[hb];rw[e1]at hd;rw[hd];simp[kK]
end
end P
namespace P
open N
section
variable {room:Nat}{d:Dk}{x:TX}{root:Int}{E:List En}{X:List Int}{H:Nat}{key:ByteArray}{ed:List En->List En}
theorem sd0 (ok:x.Ok room)(bz:∀q c,x.fresh q=some c->c.body.size<=240):Sd room (eQ x):=⟨ok,(fun _ hc=>by cases hc),(fun _ hc=>by cases hc),List.nodup_nil,(fun _ _ hc=>by cases hc),bz,(fun _ hc=>by cases hc)⟩
theorem TS.move {S S2:Dr}(T:TS room d S root E X H)(sd:Sd room S2)(us:∀p∈X,Us S2 p)(vw:∀p∈X,S2.vw d p=S.vw d p):TS room d S2 root E X H:=by
 rcases T with⟨a,b,c,_,f⟩| ⟨h,u,a,G,tb,e,rfl,f⟩
 ·exact .inl ⟨a,b,c,sd,f⟩
 ·refine .inr ⟨h,u,a,Gt.of sd G.g.wl G.g.sz us G.JH.2.1 (fun y hy=>?_) G.g.od G.g.vl,tb,e,rfl,f⟩;have hm:y.1∈dN u:=List.mem_map_of_mem (f:=Prod.fst) hy;rw[vw y.1 hm];exact G.JH.2.2 y hy
theorem TS.us {S:Dr}(T:TS room d S root E X H):∀p∈X,Us S p:=T.fm.us
theorem TS.sd {S:Dr}(T:TS room d S root E X H):Sd room S:=T.fm.ok
structure Tx (room:Nat)(d:Dk)(x:TX)(root:Int)(E:List En)(X:List Int)(H:Nat):Prop where
 ts:TS room d (eQ x) root E X H
 own:∀p,(x.fresh p).isSome=true->p∈X
structure Mn (room:Nat)(x:TX)(X:List Int):Prop where
 all:∀p∈X,(x.fresh p).isSome=true
 cap:x.cap room+X.length=(room:Int)-2
theorem JN {z:Int}{c:Nat}{S':Dr}{r:Int}{E':List En}{X':List Int}{H':Nat}(hr:room<=16384)(T:Tx room d x root E X H)(T':TS room d S' r E' X' H')(F:Fm room d c ((eQ x).bt z) X S' X')(L:List Int)(hL:∀k,k∈L↔(S'.nodes k).isSome=true):
  Tx room d (cL S'.nodes (aI S'.x S'.spare) L) r E' X' H'∧(Mn room x X->Mn room (cL S'.nodes (aI S'.x S'.spare) L) X')∧(cL S'.nodes (aI S'.x S'.spare) L).cnt=S'.x.cnt+L.length∧∀k∈L,k∈X':=by
 have sd:=F.ok;obtain⟨a1,a2,a3,a4,a5,a6⟩:=sQ S'.spare S'.x (by omega) sd.x sd.sp sd.sn;obtain⟨b1,b2,b3,b4,b5⟩:=zk S'.nodes L (aI S'.x S'.spare) a1 (fun q hq=>by
  have h1:=(hL q).1 hq
  have h2:=sd.nf q h1
  obtain⟨n,hn⟩:=Option.isSome_iff_exists.1 h1
  exact⟨by rw[a4 q,if_neg h2.2];exact h2.1,n,hn,sd.fi q n hn⟩)
 generalize hy:cL S'.nodes (aI S'.x S'.spare) L=y at*;have fr:∀q,y.fresh q=if q∈L then(S'.nodes q).map JM else if q∈S'.spare then none else S'.x.fresh q:=fun q=>by rw[b5 q,a4 q]
 have fs:∀q,(y.fresh q).isSome=true↔(S'.x.fresh q).isSome=true∧q∉S'.spare:=fun q=>by
  rw[fr q];by_cases h1:q∈L
  ·have h2:=(hL q).1 h1;have h3:=sd.nf q h2;rw[if_pos h1];simp[h2,h3]
  ·rw[if_neg h1];by_cases h2:q∈S'.spare
   ·rw[if_pos h2];simp[h2]
   ·rw[if_neg h2];simp[h2]
 have bz:∀q c,y.fresh q=some c->c.body.size<=240:=fun q c hc=>by
  rw[fr q]at hc;split at hc
  ·obtain⟨n,hn,rfl⟩:=Option.map_eq_some_iff.1 hc;exact mN (sd.fi q n hn)
  ·split at hc
   ·cases hc
   ·exact sd.bz q c hc
 have inf:∀q,dh y.free q↔dh S'.x.free q∨q∈S'.spare:=fun q=>by rw[b3];exact a5 q
 have us:∀p∈X',Us (eQ y) p:=fun p hp=>by
  have h1:=T'.us p hp;refine⟨h1.lo,?_,fun hc=>?_,by simp[eQ]⟩
  ·show p< (y.pages:Int);rw[b2,a2];exact h1.hi
  ·rcases(inf p).1 hc with h2|h2
   ·exact h1.fr h2
   ·exact h1.sp h2
 have vw:∀p∈X',(eQ y).vw d p=S'.vw d p:=fun p hp=>by
  have h1:=T'.us p hp;by_cases h2:p∈L
  ·obtain⟨n,hn⟩:=Option.isSome_iff_exists.1 ((hL p).1 h2);rw[Vm h1.lo (sd.fi p n hn) (by rw[fr p,if_pos h2,hn];rfl)];simp[Dr.vw,Dr.read,hn]
  ·have hn:S'.nodes p=none:=by
    cases hc:S'.nodes p with
    |none=>rfl
    |some n=>exact absurd ((hL p).2 (by rw[hc];rfl)) h2
   have hf:y.fresh p=S'.x.fresh p:=by rw[fr p,if_neg h2,if_neg h1.sp]
   have hg:∀k,bW y d p k=bW S'.x d p k:=fun k=>by
    unfold bW TX.get;rw[hf,b2,a2,jl (show¬dh y.free p from(us p hp).fr),jl h1.fr]
   exact mQ (S':=eQ y) (hg 1) (hg 2) (by rw[hn];rfl)
 refine⟨⟨T'.move (sd0 b1 bz) us vw,fun p hp=>?_⟩,fun M=>⟨fun p hp=>?_,?_⟩,by rw[b4,a3],fun k hk=>?_⟩
 ·have h1:=(fs p).1 hp;rcases F.tight p h1.1 h1.2 with h2| ⟨h2,_,h3⟩
  ·exact h2
  ·exact absurd (T.own p h2) h3
 ·have hm:=(F.mine (fun q hq=>(dK _ q).2 ⟨M.all q hq,by simp[eQ,Dr.bt]⟩)).1 p hp;exact(fs p).2 ((dK _ p).1 hm)
 ·have hm:=(F.mine (fun q hq=>(dK _ q).2 ⟨M.all q hq,by simp[eQ,Dr.bt]⟩)).2.2;have h1:=F.cap;have h2:=M.cap;have h3:y.cap room=S'.x.cap room+S'.spare.length:=by
   have:y.cap room=(aI S'.x S'.spare).cap room:=by unfold TX.cap;rw[b3,b2]
   rw[this,a6]
  have e1:((eQ x).bt z).taken.length=0:=rfl;have e2:((eQ x).bt z).spare.length=0:=rfl;have e3:((eQ x).bt z).x=x:=rfl;rw[e1,e2]at hm;rw[e1,e3]at h1;rw[h3];omega
 ·have h1:=sd.nf k ((hL k).1 hk);rcases F.tight k h1.1 h1.2 with h2| ⟨h2,_,h3⟩
  ·exact h2
  ·exact absurd (T.own k h2) h3
theorem PE (hr:room<=16384)(EH:Oe key ed){f m:Nat}(T:Tx room d x root E X H)(hH:H+1<24)(hf:3*(X.length+2*H+2)+5<=f)(hb:Bd (eQ x) (X.length+8*H+30+m)):
  ∃es r e S',EX d key es 30 (eQ x) ⟨false,[],[root],[]⟩ (-1)∧jY (bu room d f) room d key ed root (eQ x)=some ((r,e),S')∧Sd room S'∧(S'.cnt<=X.length+4*H+6∧S'.x.cnt<=x.cnt+X.length+4*H+6∧S'.taken.length<=X.length+4*H+6∧S'.spare.length<=X.length+4*H+6)∧
   (e≠0->e=2∧(Mn room x X->x.cap room<=4*H+4))∧
   (∃EL ER,E=EL++(es++ER)∧(∀x∈EL,bh x.1 key=true)∧∀x∈ER,bh key x.1=true)∧
   (e=0->∃X' H' E' EL ER,Sv key ed E E' EL es ER∧H'<=H+1∧∀L,(∀k,k∈L↔(S'.nodes k).isSome=true)->Tx room d (cL S'.nodes (aI S'.x S'.spare) L) r E' X' H'∧(Mn room x X->Mn room (cL S'.nodes (aI S'.x S'.spare) L) X')∧(cL S'.nodes (aI S'.x S'.spare) L).cnt=S'.x.cnt+L.length∧∀k∈L,k∈X'):=by
 obtain⟨es,r,e,S',lf,h1,⟨z,h2⟩,h3,h4⟩:=Oi (m:=m) (f:=f) (S:=eQ x) hr (fun h=>Jz hr h) EH rfl T.ts hH hf hb;have bnd:∀(z':Int) (X':List Int),Fm room d (4*H+6) ((eQ x).bt z') X S' X'->S'.cnt<=X.length+4*H+6∧S'.x.cnt<=x.cnt+X.length+4*H+6∧S'.taken.length<=X.length+4*H+6∧S'.spare.length<=X.length+4*H+6:=fun z' X' F=>by
  have k1:=F.cnt;have k2:=F.mP;have k3:=F.A8;have k4:=F.Db;have e1:((eQ x).bt z').taken.length=0:=rfl;have e2:((eQ x).bt z').spare.length=0:=rfl;have e3:((eQ x).bt z').x.cnt=x.cnt:=rfl;have e4:((eQ x).bt z').cnt=0:=rfl;omega
 by_cases he:e=0
 ·subst he;obtain⟨z',X',H',E',EL,ER,q1,q2,q3,q4⟩:=h3 rfl;exact⟨es,r,0,S',lf,h1,q2.ok,bnd z' X' q2,fun hc=>absurd rfl hc,h4,fun _=>⟨X',H',E',EL,ER,q4,q3,fun L hL=>JN hr T q1 q2 L hL⟩⟩
 ·obtain⟨g1,Xm,F,g2,g3⟩:=h2 he;refine⟨es,r,e,S',lf,h1,F.ok,bnd z Xm (F.mono (by omega)),fun _=>⟨g1,fun M=>?_⟩,h4,fun hc=>absurd hc he⟩;have hm:=(F.mine (fun q hq=>(dK _ q).2 ⟨M.all q hq,by simp[eQ,Dr.bt]⟩)).2.1;have k1:=F.cap;have e1:((eQ x).bt z).taken.length=0:=rfl;have e3:((eQ x).bt z).x=x:=rfl;have k2:S'.x.cap room<=0:=by
   unfold TX.cap;rw[g2,pD];omega
  rw[e1]at hm;rw[e1,e3]at k1;omega
end
end P
end Go.Proofs.YtceoeaemenhbhabGreatDoor
namespace Go.Proofs.YtceoeaemenhbhabGreatDoor
open Go.Shelf Go.RowKit Go.Lib Go.Sort
section
open N (Nd nd0 cE cI dG je fT Sm dA En Ak xP kP pG eK)
section
variable {B:Nat}{w0 w w':World}{l:List aP}{P:List NV}{C:Cx}{S S':Dr}{x:TX}{d d1:Dk}{r er Nb:Int}{cm:pQ}{key val:ByteArray}{es0:List En}{qk qv:Nat}
theorem Sy (T:cd B w0)(hst:∀C:Cx,aX B w0 C d Nb cm)(dV:∀ {S S':Dr} {n:Nd} {depth i tt:Int} {r:Nd×Int},DI S d.room->cm S n depth i tt=some (r,S')->DI S' d.room)(eN:∀ {S9 S8:Dr} {n9:Nd} {i9 j9 k9:Int} {r9:Nd×Int},cm S9 n9 i9 j9 k9=some (r9,S8)->bZ n9=true)(hel:∀es,((fun es=>xP es key) es).length<=es.length+1)(hr:d.room<=16384)(hNb:Nb<=1000000)(hN0:29<=Nb)(hd:bp d d1)(h:Sep B w0 w (TL C x d1 P l))(I:DI (eQ x) d.room)(Le:DI S' d.room)(hF:Fin S')(hlf:th d key es0 30 (eQ x) ⟨false,[],[C.root],[]⟩ (-1))(he:jY cm d.room d key (fun es=>xP es key) C.root (eQ x)=some ((r,er),S'))(h0:C.err=0):Calls Tryz.prog 17 #[ptr C.tq,.string key] w fun e w'=>e=.returned (.tuple #[.bool (kP es0 key&&decide (er=0)),.int .i64 er])∧GK B w0 C S' d P l r er w':=by
 have S1:Hid (Sep B w0 ((w.alloc (.cells #[.string key] 9)).alloc (.cells #[.bool false] 4)) (TL C x d1 P ((Both (aF w.heap.size (.cells #[.string key] 9)) (aF (w.heap.size+1) (.cells #[.bool false] 4)))::l))):=Sep.pb [_,_,_,_] (Sep.join (Sep.qO (Sep.aU (Sep.aN h _) _ (w.heap.size+1) (by simp))));have KG:Hid _:=gD (w.alloc (.cells #[.string key] 9)) C.tq;have KC:Hid (Calls Tryz.prog 29 #[ptr C.tq,.string key,.func (.func 36) #[] #[.pointer (some ⟨w.heap.size,0,none⟩),.pointer (some ⟨w.heap.size+1,0,none⟩)]] ((w.alloc (.cells #[.string key] 9)).alloc (.cells #[.bool false] 4)) (GH B w0 C S' d P l (Both (aF w.heap.size (.cells #[.string key] 9)) (aF (w.heap.size+1) (.cells #[.bool false] 4))) (Both (aF w.heap.size (.cells #[.string key] 9)) (aF (w.heap.size+1) (.cells #[.bool (kP es0 key)] 4))) r er)):=uL.2 T hst (fun h1 h2=>dV h1 h2) (fun h=>eN h) (fun C=>RZ) hlf hel hr hNb hN0 hd S1.out I Le hF he;obtain⟨ts,⟨t0,t1,t2⟩,_⟩:=Sep.uJ (Sep.pk [_,_] (h));rw[h0]at t2;generalize kP es0 key=gb at*;clear h h0 hst dV eN hel hr hNb hN0 hd I Le hF hlf he S1;go_enter Tryz.func17,Tryz.ntmps17
 go_wp2_with fail
 refine Calls.mono KG.out ?_;rintro e w1 ⟨rfl,rfl⟩;clear KG
 go_wp2_with fail
 generalize(w.alloc (.cells #[.string key] 9)).alloc (.cells #[.bool false] 4)=w2 at*;generalize w.heap.size+1=q1 at*;generalize w.heap.size=q0 at*;refine Calls.mono KC.out ?_;rintro e w3 ⟨rfl,P',d',V,a1,a2,a3,a4,a5⟩;have Lg:Hid (GK B w0 C S' d P l r er w3):=by
  refine⟨P',d',a1,a4,?_⟩;rcases a5 with⟨b1,b2⟩| ⟨b1,L,b2,b3⟩
  ·exact .inl ⟨b1,Sep.drop (Sep.pk [_,_,_,_] (b2))⟩
  ·exact .inr ⟨b1,L,b2,Sep.drop (Sep.pk [_,_,_,_] (b3))⟩
 obtain⟨C2,x2,hS⟩:∃C2 x2,Sep B w0 w3 (TL C2 x2 d' P' (V::l)):=by
  rcases a5 with⟨b1,b2⟩| ⟨b1,L,b2,b3⟩
  ·exact⟨_,_,b2⟩
  ·exact⟨_,_,b3⟩
 have HA:Hid (er=0->V=(Both (aF q0 (.cells #[.string key] 9)) (aF q1 (.cells #[.bool gb] 4)))):=a3;clear KC a1 a4 a5 a3 t0 t1 t2 ts;by_cases e0:er=0
 ·subst e0;have hV:=HA.out rfl;subst hV;have S3:Hid (Sep B w0 w3 (TL C2 x2 d' P' ((Both (aF q0 (.cells #[.string key] 9)) (aF q1 (.cells #[.bool gb] 4)))::l))):=hS;clear hS a2 HA;cases gb with
  |false=>
   obtain⟨vs,v1,_⟩:=Sep.c1 (Sep.pk [_] (Sep.dW (Sep.pk [_,_,_,_] (S3.out))));have HG:Hid (GK B w0 C S' d P l r 0 w3):=Lg.out;clear S3 Lg;go_wp2;go_ret2;exact⟨rfl,HG.out⟩
  |true=>
   obtain⟨vs,v1,_⟩:=Sep.c1 (Sep.pk [_] (Sep.dW (Sep.pk [_,_,_,_] (S3.out))));have HG:Hid (GK B w0 C S' d P l r 0 w3):=Lg.out;clear S3 Lg;go_wp2;go_ret2;exact⟨rfl,HG.out⟩
 ·have hne:(er==0)=false:=beq_eq_false_iff_ne.2 e0;have HN:Hid (er≠0):=e0;rcases a2 with rfl|rfl
  ·have S3:Hid (Sep B w0 w3 (TL C2 x2 d' P' ((Both (aF q0 (.cells #[.string key] 9)) (aF q1 (.cells #[.bool false] 4)))::l))):=hS;clear hS HA e0;obtain⟨vs,v1,_⟩:=Sep.c1 (Sep.pk [_] (Sep.dW (Sep.pk [_,_,_,_] (S3.out))));have HG:Hid (GK B w0 C S' d P l r er w3):=Lg.out;clear S3 Lg;go_wp2;go_ret2;exact⟨by simp[HN.out],HG.out⟩
  ·have S3:Hid (Sep B w0 w3 (TL C2 x2 d' P' ((Both (aF q0 (.cells #[.string key] 9)) (aF q1 (.cells #[.bool gb] 4)))::l))):=hS;clear hS HA e0;cases gb with
   |false=>
    obtain⟨vs,v1,_⟩:=Sep.c1 (Sep.pk [_] (Sep.dW (Sep.pk [_,_,_,_] (S3.out))));have HG:Hid (GK B w0 C S' d P l r er w3):=Lg.out;clear S3 Lg;go_wp2;go_ret2;exact⟨by simp[HN.out],HG.out⟩
   |true=>
    obtain⟨vs,v1,_⟩:=Sep.c1 (Sep.pk [_] (Sep.dW (Sep.pk [_,_,_,_] (S3.out))));have HG:Hid (GK B w0 C S' d P l r er w3):=Lg.out;clear S3 Lg;go_wp2;go_ret2;exact⟨by simp[HN.out],HG.out⟩
end
end
namespace P
open N (Nd nd0 cE cI dG je fT Sm dA En Ak xP kP pG eK cF gi gp ie gT fY kJ Rg bh cj)
theorem Be {d:Dk}{key:ByteArray}{es:List En}:∀(f:Nat) (S:Dr) (n:Nd) (depth:Int),EX d key es f S n depth->th d key es f S n depth
 |0,_,_,_,_=>trivial
 |f+1,S,n,depth,h=>by
  rw[EX]at h;rw[th];split
  ·rename_i hl
   rw[if_pos hl]at h;exact h
  ·rename_i hl
   rw[if_neg hl]at h;exact fun h0=>Be f S _ _ (h h0)
theorem Dm {α:Type}[DecidableEq α]:∀ {l m:List α},l.Nodup->(∀a∈l,a∈m)->l.length<=m.length
 |[],_,_,_=>Nat.zero_le _
 |x::l,m,nd,hs=>by
  obtain⟨n1,n2⟩:=List.nodup_cons.1 nd;have h1:=Dm (l:=l) (m:=m.erase x) n2 (fun a ha=>(List.mem_erase_of_ne (fun e=>n1 (by rw[<-e];exact ha))).2 (hs a (List.mem_cons_of_mem _ ha)));have h2:=List.length_erase_of_mem (hs x (List.mem_cons_self ..));have h3:0<m.length:=List.length_pos_of_mem (hs x (List.mem_cons_self ..));rw[List.length_cons];omega
theorem Dn (x:En):∀l,(gT x l).length=l.length+1
 |[]=>rfl
 |y::l=>by
  unfold gT;split
  ·simp
  ·simp[Dn x l]
theorem wP (key val:ByteArray)(es:List En):(Lf key val es).length<=es.length+1:=by
 unfold Lf gp ie;split
 ·rw[Dn];have:=List.length_filter_le (fun x:En=>!decide (x.1=key)) es;omega
 ·omega
theorem Oo (key:ByteArray)(es:List En):(TF key es).length<=es.length+1:=by
 unfold TF ie;split
 ·have:=List.length_filter_le (fun x:En=>!decide (x.1=key)) es;omega
 ·omega
section
variable {B:Nat}{w0 w:World}{C:Cx}{x:TX}{d d1:Dk}{P:List NV}{l:List aP}{key val:ByteArray}{E:List En}{X:List Int}{H:Nat}
theorem Sd.di {room:Nat}{S:Dr}(h:Sd room S):DI S room:=⟨h.x,h.bz,h.fi⟩
theorem Sd.fin {room:Nat}{S:Dr}(hr:room<=16384)(h:Sd room S)(h1:S.taken.length<=100000)(h2:S.spare.length<=100000)(h3:S.cnt<=100000)(h4:S.x.cnt+S.cnt<1000000):Fin S:=by
 have key:∀k,(S.x.fresh k).isSome=true->Wf k:=fun k hk=>by
  have:=h.x.fs k hk;have:=h.x.pr;exact⟨by omega,by omega⟩
 exact⟨h1,fun k hk=>key k (h.tk k hk),h2,fun k hk=>key k (h.sp k hk),h3,h4,fun k hk=>key k (h.nf k hk).1⟩
theorem PF (room:Nat)(d:Dk)(f:Nat):∀ {S S':Dr} {n:Nd} {depth i tt:Int} {r:Nd×Int},DI S room->bu room d f S n depth i tt=some (r,S')->DI S' room:=fun h he=>DI.settle f h he
theorem PG (room:Nat)(d:Dk)(f:Nat):∀ {S9 S8:Dr} {n9:Nd} {i9 j9 k9:Int} {r9:Nd×Int},bu room d (f+1) S9 n9 i9 j9 k9=some (r9,S8)->bZ n9=true:=fun {S9 S8 n9 i9 j9 k9 r9} he=>by
 unfold bu at he;rw[aZ]at he;cases hs:bZ n9 with
 |true=>rfl
 |false=>rw[if_pos (.inl hs)]at he;cases he
def GX (B:Nat)(w0:World)(C:Cx)(x:TX)(d:Dk)(P:List NV)(l:List aP)(X:List Int)(H:Nat)(E':List En)(er:Int)(w':World):Prop:=
 ∃P' d',(∀y∈P,y∈P')∧bp d d'∧((er=2∧(Mn d.room x X->x.cap d.room<=4*H+4)∧∃x',Sep B w0 w' (TL (C.yV 2) x' d' P' l))∨
  (er=0∧∃x' r X' H',Tx d.room d x' r E' X' H'∧(Mn d.room x X->Mn d.room x' X')∧x'.cnt<=x.cnt+X.length+4*H+6+X'.length∧Sep B w0 w' (TL (C.cD r) x' d' P' l)))
theorem PH {S':Dr}{r er:Int}{E':List En}{w':World}(g:GK B w0 C S' d P l r er w')(h1:er≠0->er=2∧(Mn d.room x X->x.cap d.room<=4*H+4))(h2:S'.x.cnt<=x.cnt+X.length+4*H+6)
  (h3:er=0->∃X' H',∀L,(∀k,k∈L↔(S'.nodes k).isSome=true)->Tx d.room d (cL S'.nodes (aI S'.x S'.spare) L) r E' X' H'∧(Mn d.room x X->Mn d.room (cL S'.nodes (aI S'.x S'.spare) L) X')∧(cL S'.nodes (aI S'.x S'.spare) L).cnt=S'.x.cnt+L.length∧∀k∈L,k∈X'):GX B w0 C x d P l X H E' er w':=by
 obtain⟨P',d',m1,m2,m3⟩:=g;refine⟨P',d',m1,m2,?_⟩;rcases m3 with⟨he,s⟩| ⟨he,L,⟨lp,lm⟩,s⟩
 ·obtain⟨e2,hc⟩:=h1 he;subst e2;exact .inl ⟨rfl,hc,_,s⟩
 ·obtain⟨X',H',q⟩:=h3 he;obtain⟨q1,q2,q3,q4⟩:=q L lm;have nd:L.Nodup:=lp.imp fun hab e=>by omega
  have hl:=Dm nd q4;exact .inr ⟨he,_,r,X',H',q1,q2,by omega,s⟩
theorem SA (T:cd B w0)(hr:d.room<=16384)(hd:bp d d1)(h:Sep B w0 w (TL C x d1 P l))(h0:C.err=0)(hm:cF key val=true)(TT:Tx d.room d x C.root E X H)(hX:X.length<=3000)(hH:H<=20)(hc:x.cnt<=800000):
  Calls Tryz.prog 10 #[ptr C.tq,.string key,.string val] w fun e w'=>∃er,e=.returned (.int .i64 er)∧GX B w0 C x d P l X H (gp E key val) er w':=by
 obtain⟨es,r,er,S',lf,g1,g2,⟨b1,b2,b3,b4⟩,g3,g4,g5⟩:=PE (f:=10000) (m:=0) hr (Oj hm) TT (by omega) (by omega) ⟨by show 0+_<_;omega,by show x.cnt+_<_;omega,by show 0+_<_;omega,by show 0+_<_;omega⟩;have hE:=TT.ts.rg;refine(R7 (es0:=es) (cm:=bu d.room d 10000) (Nb:=90000) T (fun C=>sg T hr 10000) (PF d.room d 10000) (PG d.room d 9999) (wP key val) hr (by omega) (by omega) hd h TT.ts.sd.di g2.di (g2.fin hr (by omega) (by omega) (by omega) (by omega)) (Be _ _ _ _ lf) g1 h0 (by unfold eK;rw[if_pos hm])).mono fun e w' hh=>?_;obtain⟨he,gk⟩:=hh;refine⟨er,he,PH gk g3 b2 fun h00=>?_⟩;obtain⟨X',H',E',EL,ER,q1,q2,q3⟩:=g5 h00;refine⟨X',H',fun L hL=>?_⟩;obtain⟨t1,t2,t3,t4⟩:=q3 L hL;have eE:=q1.put hm hE t1.ts.rg;rw[eE]at t1;exact⟨t1,t2,t3,t4⟩
theorem SC (T:cd B w0)(hr:d.room<=16384)(hd:bp d d1)(h:Sep B w0 w (TL C x d1 P l))(h0:C.err=0)(TT:Tx d.room d x C.root E X H)(hX:X.length<=3000)(hH:H<=20)(hc:x.cnt<=800000):
  Calls Tryz.prog 17 #[ptr C.tq,.string key] w fun e w'=>∃er,e=.returned (.tuple #[.bool (fY E key&&decide (er=0)),.int .i64 er])∧GX B w0 C x d P l X H (ie E key) er w':=by
 obtain⟨es,r,er,S',lf,g1,g2,⟨b1,b2,b3,b4⟩,g3,⟨EL,ER,rfl,lo,hi⟩,g5⟩:=PE (f:=10000) (m:=0) hr (Ol key) TT (by omega) (by omega) ⟨by show 0+_<_;omega,by show x.cnt+_<_;omega,by show 0+_<_;omega,by show 0+_<_;omega⟩;have hE:=TT.ts.rg;have hg:kP es key=fY (EL++(es++ER)) key:=by
  unfold kP;rw[N.fk (og hE),Bool.true_and,zj lo hi]
 refine(Sy (es0:=es) (cm:=bu d.room d 10000) (Nb:=90000) T (fun C=>sg T hr 10000) (PF d.room d 10000) (PG d.room d 9999) (Oo key) hr (by omega) (by omega) hd h TT.ts.sd.di g2.di (g2.fin hr (by omega) (by omega) (by omega) (by omega)) (Be _ _ _ _ lf) g1 h0).mono fun e w' hh=>?_;obtain⟨he,gk⟩:=hh;refine⟨er,by rw[<-hg];exact he,PH gk g3 b2 fun h00=>?_⟩;obtain⟨X',H',E',EL',ER',q1,q2,q3⟩:=g5 h00;refine⟨X',H',fun L hL=>?_⟩;obtain⟨t1,t2,t3,t4⟩:=q3 L hL;have eE:=q1.del hE t1.ts.rg;rw[eE]at t1;exact⟨t1,t2,t3,t4⟩
end
end P
end Go.Proofs.YtceoeaemenhbhabGreatDoor
namespace Go.Proofs.YtceoeaemenhbhabGreatDoor
section
open N
def bH (tt k:ByteArray):Bool:=decide (tt=⟨#[]⟩)||bh k tt
def j5 (ss:List ByteArray)(i:Nat)(fr:ByteArray):ByteArray:=if 0<i∧bh fr (ss.getD (i-1) ⟨#[]⟩)=true then ss.getD (i-1) ⟨#[]⟩else fr
def gW (ss:List ByteArray)(i:Nat)(tt:ByteArray):ByteArray:=if i<ss.length∧bH tt (ss.getD i ⟨#[]⟩)=true then ss.getD i ⟨#[]⟩else tt
section
variable {σ:Type}
def wQ (st:σ->En->σ×Bool)(tt:ByteArray):List En->σ->σ×Option Bool
 |[],s=>(s,none)
 |e::l,s=>if bH tt e.1=false then(s,some true)else if(st s e).2=false then((st s e).1,some false)else wQ st tt l (st s e).1
def jb (rec:σ->Int->ByteArray->ByteArray->Option (σ×(Bool×Int)))(n:Nd)(fr tt:ByteArray):Nat->Nat->σ->Option (σ×(Bool×Int))
 |0,_,s=>some (s,(true,0))
 |k+1,i,s=>if n.ss.length<i then none else if bH (gW n.ss i tt) (j5 n.ss i fr)=false then some (s,(true,0))else
  match rec s (n.ks.getD i 0) (j5 n.ss i fr) (gW n.ss i tt)with
  |none=>none
  |some (s1,(m,e))=>if e≠0∨m=false then some (s1,(false,e))else jb rec n fr tt k (i+1) s1
def fI (x:TX)(d:Dk)(st:σ->En->σ×Bool):Nat->σ->Int->Int->ByteArray->ByteArray->Option (σ×(Bool×Int))
 |0,_,_,_,_,_=>none
 |f+1,s,id,depth,fr,tt=>
  if(dJ x d id depth).2≠0 then some (s,(false,(dJ x d id depth).2))
  else if(bZ (dJ x d id depth).1&&cI (dJ x d id depth).1)=false∨1000<depth then none
  else match(wQ st tt ((dJ x d id depth).1.es.drop (jd (dJ x d id depth).1.es fr)) s).2 with
   |some b=>some ((wQ st tt ((dJ x d id depth).1.es.drop (jd (dJ x d id depth).1.es fr)) s).1,(b,0))
   |none=>jb (fun s id fr tt=>fI x d st f s id (depth+1) fr tt) (dJ x d id depth).1 fr tt ((dJ x d id depth).1.ks.length-dA (dJ x d id depth).1.ss fr) (dA (dJ x d id depth).1.ss fr) (wQ st tt ((dJ x d id depth).1.es.drop (jd (dJ x d id depth).1.es fr)) s).1
theorem ql {m:σ->Nat}{st:σ->En->σ×Bool}(hm:∀s e,m s<=m (st s e).1)(tt:ByteArray):∀(l:List En) (s:σ),m s<=m (wQ st tt l s).1
 |[],s=>Nat.le_refl _
 |e::l,s=>by
  rw[wQ];split
  ·exact Nat.le_refl _
  ·split
   ·exact hm s e
   ·exact Nat.le_trans (hm s e) (ql hm tt l _)
theorem kG {m:σ->Nat}{rec:σ->Int->ByteArray->ByteArray->Option (σ×(Bool×Int))}(hr:∀s k f t s' r,rec s k f t=some (s',r)->m s<=m s')(n:Nd)(fr tt:ByteArray):∀(k i:Nat) (s s':σ) (r:Bool×Int),jb rec n fr tt k i s=some (s',r)->m s<=m s'
 |0,i,s,s',r,h=>by cases h;exact Nat.le_refl _
 |k+1,i,s,s',r,h=>by
  rw[jb]at h;split at h
  ·cases h
  ·split at h
   ·cases h;exact Nat.le_refl _
   ·split at h
    ·cases h
    ·rename_i s1 mm e he
     have h1:=hr _ _ _ _ _ _ he;split at h
     ·cases h;exact h1
     ·exact Nat.le_trans h1 (kG hr n fr tt k (i+1) s1 s' r h)
theorem oh {m:σ->Nat}{st:σ->En->σ×Bool}(hm:∀s e,m s<=m (st s e).1)(x:TX)(d:Dk):∀(f:Nat) (s:σ) (id depth:Int) (fr tt:ByteArray) (s':σ) (r:Bool×Int),fI x d st f s id depth fr tt=some (s',r)->m s<=m s'
 |0,_,_,_,_,_,_,_,h=>by cases h
 |f+1,s,id,depth,fr,tt,s',r,h=>by
  rw[fI]at h;split at h
  ·cases h;exact Nat.le_refl _
  ·split at h
   ·cases h
   ·split at h
    ·cases h;exact ql hm tt _ s
    ·exact Nat.le_trans (ql hm tt _ s) (kG (fun s k f' t s' r hh=>oh hm x d f s k (depth+1) f' t s' r hh) _ _ _ _ _ _ _ _ h)
def kS (st:σ->En->σ×Bool):List En->σ->σ×Bool
 |[],s=>(s,true)
 |e::l,s=>if(st s e).2=false then((st s e).1,false)else kS st l (st s e).1
def iD (fr tt:ByteArray)(l:List En):List En:=l.filter fun e=>!bh e.1 fr&&bH tt e.1
abbrev Pg:=Int×Int×Nd
end
def E0 (x:TX)(d:Dk)(key:ByteArray):Nat->Nd->Int->Int->Option (Nd×Int)
 |0,_,_,_=>none
 |f+1,n,e,depth=>if e=0∧n.leaf=false then(if bZ n=false∨n.ks.length<=dA n.ss key∨1000<depth then none else
   E0 x d key f (dJ x d (n.ks.getD (dA n.ss key) 0) depth).1 (dJ x d (n.ks.getD (dA n.ss key) 0) depth).2 (depth+1))else some (n,e)
def tU (rec:List Pg->Int->Option (List Pg×Int)):List Int->List Pg->Option (List Pg×Int)
 |[],s=>some (s,0)
 |k::ks,s=>match rec s k with
  |none=>none
  |some (s1,e)=>if e≠0 then some (s1,e)else tU rec ks s1
def fJ (x:TX)(d:Dk):Nat->List Pg->Int->Int->Option (List Pg×Int)
 |0,_,_,_=>none
 |f+1,s,id,depth=>
  if(dJ x d id depth).2≠0 then some (s,(dJ x d id depth).2)
  else if bZ (dJ x d id depth).1=false∨1000<depth∨depth<0∨(s.any fun p=>decide (p.1=id))=true∨100000<s.length then none
  else tU (fun s k=>fJ x d f s k (depth+1)) (dJ x d id depth).1.ks (s++[(id,depth,(dJ x d id depth).1)])
end
end Go.Proofs.YtceoeaemenhbhabGreatDoor
namespace Go.Proofs.YtceoeaemenhbhabGreatDoor
open Go.Shelf Go.RowKit Go.Lib Go.Sort
section
open N (Nd nd0 cE cI dG je fT Sm dA En Ak xP kP pG eK aT hidR ar aj Ch aM ah waits)
def JO (B:Nat)(w0:World)(C:Cx)(x:TX)(c1 c2 c3:Value)(es0:List En)(U U':aP):Prop:=
 ∀ {w:World} {d:Dk} {P:List NV} {l:List aP} {p:NV},Sep B w0 w (TL C x d P (U::l))->p∈P->p.n.es=es0->p.n.es.length<=500->
  Calls Tryz.prog 43 #[.slice p.ae p.n.es.length p.ce,c1,c2,c3] w fun e w'=>e=.returned (.tuple #[])∧Sep B w0 w' (TL C x d P (U'::l))
def JL (B:Nat)(w0:World)(C:Cx)(x:TX)(d:Dk)(P:List NV)(U:aP)(l:List aP)(q7:Nat)(cs:Array Value)(nn:Nd)(er:Int)(f9 f13:Bool)(v:Value)(w:World):Prop:=
 (f9=false->Sep B w0 w (TL C x d P (U::aF q7 (.cells cs 54)::l)))∧(f9=true->∃p d',p.n=nn∧v=.tuple #[.agg (cN p),.int .i64 er]∧gu d d' 2∧(f13=false->Sep B w0 w (TL C x d' (p::P) (U::aF q7 (.cells cs 54)::l)))∧(f13=true->Sep B w0 w (TL C x d' (p::P) (U::aF q7 (.cells (cN p) 54)::l))))∧(f13=true->f9=true)
section
variable {B:Nat}{w0 w:World}{l:List aP}{P:List NV}{C:Cx}{x:TX}{d d1:Dk}{key:ByteArray}{c1 c2 c3:Value}{es0:List En}{U U':aP}{m:Nd}{er:Int}
def GLf (B:Nat)(w0:World)(C:Cx)(x:TX)(d:Dk)(P:List NV)(U U':aP)(l:List aP)(er:Int)(e:Ending)(w':World):Prop:=
 e=.returned (.int .i64 er)∧∃P' d' V,(∀y∈P,y∈P')∧bp d d'∧(er=0->V=U')∧(er≠0->V=U)∧Sep B w0 w' (TL C x d' P' (V::l))
def JLr (B:Nat)(w0:World)(CC:Cx)(x:TX)(d:Dk)(P:List NV)(U:aP)(l:List aP)(nn:Nd)(er:Int)(q7 r ro Ty ck t:Nat)(kid dp:Int)(key:ByteArray)(cs:Array Value){y2 y3 y4 y5 y6 tH oW oX y13 rS nL nM oY tI tJ y20 y21 y22 y23 y24 y25 vP y27 y28 y29 vQ y31 y32 vR y34 tN tO yu yv yw yx yz yA Eg:Value}(C:List Bool->Act->Prop)(w:World):Prop:=∀{f0 f1 f2 f3 f4 f5 f6 f7 f8 f9 f10 f11 f12 f13 f14:Bool}{x8 Cf x38 x39 x40 x41 Wp x43 Wq Ws Wt TG Wu Wv:Value},f14=false->JL B w0 CC x d P U l q7 cs nn er f9 f13 TG w->Hid (f0=true->x38=ptr CC.tq)->Hid (f1=true->x39=.pointer (some ⟨q7,2,none⟩))->Hid (f2=true->x40=.slice (some ⟨r,ro,none⟩) Ty ck)->Hid (f3=true->x41=.agg cs)->Hid (f4=true->Wp=.string key)->Hid (f5=true->f3=true∧x43=.int .i64 (t:Int))->Hid (f6=true->f2=true∧f5=true∧Wq=.pointer (some ⟨r,ro+t,none⟩))->Hid (f7=true->f6=true∧Ws=.int .i64 kid)->Hid (f8=true->Wt=.int .i64 dp)->Hid (f9=true->f2=true∧f3=true∧f5=true∧f6=true∧f7=true∧True)->Hid (f10=true->f9=true∧Cf=TG)->Hid (f11=true->f9=true∧TG=.tuple #[Wu,.int .i64 er])->Hid (f12=true->f9=true∧Wv=.int .i64 er)->Hid (f13=true->True)->C [f0,f1,f2,f3,f4,f5,f6,f7,f8,f9,f10,f11,f12,f13,f14] {tmps:=#[ptr CC.tq,.string key,y2,y3,y4,y5,y6,.pointer (some ⟨q7,0,none⟩),x8,.int .i64 dp,tH,oW,oX,y13,rS,nL,nM,oY,tI,tJ,y20,y21,y22,y23,y24,y25,vP,y27,y28,y29,vQ,y31,y32,vR,y34,tN,tO,Cf,x38,x39,x40,x41,Wp,x43,Wq,Ws,Wt,TG,Wu,Wv,yu,yv,yw,yx,yz,yA,Eg],defers:=[]}
theorem SD {f:Nat}(T:cd B w0)(hr:d.room<=16384)(ok:x.Ok d.room)(hz:x.Sz)(h0:C.err=0)(hu:JO B w0 C x c1 c2 c3 es0 U U')(hw:Wf C.root)(hd:bp d d1)(h:Sep B w0 w (TL C x d1 P (U::l)))(he:E0 x d key f (dJ x d C.root 0).1 (dJ x d C.root 0).2 1=some (m,er))(hes:er=0->m.es=es0∧m.es.length<=500):
  Calls Tryz.prog 42 #[ptr C.tq,.string key,.func (.func 43) #[] #[c1,c2,c3]] w (GLf B w0 C x d P U U' l er):=by
 have Ww:Hid _:=rY (id:=C.root) (depth:=0) T h hw (by rw[hd.room];exact ok) (by rw[hd.room];exact hr) hz;rw[hd.dJ]at Ww;have HU:Hid (JO B w0 C x c1 c2 c3 es0 U U'):=hu;have HES:Hid (er=0->m.es=es0∧m.es.length<=500):=hes;have HX:Hid (d.room<=16384∧x.Ok d.room∧x.Sz):=⟨hr,ok,hz⟩;have HD0:Hid (bp d d1):=hd;have Ld:Hid (E0 x d key f (dJ x d C.root 0).1 (dJ x d C.root 0).2 1=some (m,er)):=he;obtain⟨ts,⟨t0,t1,t2⟩,_⟩:=Sep.uJ (Sep.pk [_,_] h);rw[h0]at t2;clear h hu hes hr ok hz hd he;generalize dJ x d C.root 0=rr at*;obtain⟨n0,e0⟩:=rr;simp only at Ww Ld;go_enter Tryz.func42,Tryz.ntmps42
 go_wp2_with fail
 refine Calls.mono Ww.out ?_;rintro e v1 ⟨p0,d2,hn0,rfl,hd2,s1⟩;subst hn0;unfold NV.v;have D2:Hid (bp d d2):=HD0.out.trans ⟨_,hd2⟩;have S1:Hid (Sep B w0 (v1.alloc (.cells (cN p0) 54)) (TL C x d2 (p0::P) (U::aF v1.heap.size (.cells (cN p0) 54)::l))):=Sep.pb [_,_,_,_,_] (Sep.aU s1 _ _ rfl);clear Ww hd2 s1 t0 t1 t2 ts HD0;go_wp2;generalize v1.heap.size=q7 at*;generalize World.alloc _ _=v2 at*
 go_loopg [8,9] f (fun kx s8 s9 wr=>∃(g:Nat) (pc:NV) (Pc:List NV) (dc:Dk) (ec dp:Int),s8=.int .i64 ec∧s9=.int .i64 dp∧g<=kx∧Hid (1<=dp)∧Hid (E0 x d key g pc.n ec dp=some (m,er))∧Hid (pc∈Pc∧∀y∈P,y∈Pc)∧Hid (bp d dc)∧Hid (Sep B w0 wr (TL C x dc Pc (U::aF q7 (.cells (cN pc) 54)::l))))
 case atStart=>exact⟨f,p0,p0::P,d2,e0,1,rfl,rfl,Nat.le_refl _,(by show(1:Int)<=1;omega),Ld.out,⟨List.mem_cons_self ..,fun _ h=>List.mem_cons_of_mem _ h⟩,D2.out,S1.out⟩
 case round=>
  clear S1 D2 Ld;obtain⟨g,pc,Pc,dc,ec,dp,rfl,rfl,UY,HDP,HE,HP,HD,HS⟩:=hrel;cases g with
  |zero=>
   have:=HE.out;cases this
  |succ g=>
   have hE:=HE.out;unfold E0 at hE;obtain⟨_,⟨c0,c1',c2',c3'⟩,g0,g1,g2,g3⟩:=Sep.c4 (Sep.pk [_,_,_,_,_] HS.out);clear HE;by_cases hc:ec=0∧pc.n.leaf=false
   ·rw[if_pos hc]at hE;obtain⟨rfl,hlf⟩:=hc;by_cases hn:bZ pc.n=false∨pc.n.ks.length<=dA pc.n.ss key∨1000<dp
    ·rw[if_pos hn]at hE;cases hE
    rw[if_neg hn]at hE;have hnn:bZ pc.n=true∧dA pc.n.ss key<pc.n.ks.length∧dp<=1000:=by
     refine⟨?_,by omega,by omega⟩;cases hx:bZ pc.n
     ·exact absurd (.inl hx) hn
     ·rfl
    obtain⟨hsm,hkl,hdp⟩:=hnn;obtain⟨jA,_,_,_,hwk⟩:=dT hsm;obtain⟨ae,ce,ak,ck,az,cz,n⟩:=pc;simp only at*;obtain⟨r,ro,rfl,_,_⟩:=NV.kid (p:=⟨ae,ce,ak,ck,az,cz,n⟩) (Sep.pool (Sep.pk [_,_,_] HS.out) _ HP.out.1) (i:=dA n.ss key) hkl;have Vn:Hid (Wf (n.ks.getD (dA n.ss key) 0)):=by
     refine hwk _ ?_;rw[List.getD_eq_getElem?_getD,List.getElem?_eq_getElem hkl];exact List.getElem_mem _
    have KC:Hid (∀u,Sep B w0 u (TL C x dc Pc (U::aF q7 (.cells #[.bool n.leaf,.slice ae n.es.length ce,.slice (some ⟨r,ro,none⟩) n.ks.length ck,.slice az n.ss.length cz] 54)::l))->Calls Tryz.prog 59 #[.agg #[.bool n.leaf,.slice ae n.es.length ce,.slice (some ⟨r,ro,none⟩) n.ks.length ck,.slice az n.ss.length cz],.string key] u fun e w'=>e=.returned (.int .i64 (dA n.ss key))∧Sep B w0 w' (TL C x dc Pc (U::aF q7 (.cells #[.bool n.leaf,.slice ae n.es.length ce,.slice (some ⟨r,ro,none⟩) n.ks.length ck,.slice az n.ss.length cz] 54)::l))):=fun u hu=>(N.nO n key _ _ _ u (Sep.pool (Sep.pk [_,_,_] hu) _ HP.out.1) jA).mono fun _ _ ⟨h1,h2⟩=>⟨h1,hu.below h2⟩;have hE2:Hid (E0 x d key g (dJ x d (n.ks.getD (dA n.ss key) 0) dp).1 (dJ x d (n.ks.getD (dA n.ss key) 0) dp).2 (dp+1)=some (m,er)):=hE;have MX:Hid ((⟨ae,ce,some ⟨r,ro,none⟩,ck,az,cz,n⟩:NV)∈Pc):=HP.out.1;have HTL:Hid (dA n.ss key<n.ks.length):=hkl;have Vo:Hid (1<=dp∧dp<=1000):=⟨HDP.out,hdp⟩;generalize wA:n.ks.getD (dA n.ss key) 0=kid at*;have Ys:Hid (n.ks.getD (dA n.ss key) 0=kid):=wA;have KR:Hid (∀u,Sep B w0 u (TL C x dc Pc (U::aF q7 (.cells #[.bool n.leaf,.slice ae n.es.length ce,.slice (some ⟨r,ro,none⟩) n.ks.length ck,.slice az n.ss.length cz] 54)::l))->Calls Tryz.prog 58 #[ptr C.tq,.int .i64 kid,.int .i64 dp] u (GN B w0 C x dc Pc (U::aF q7 (.cells #[.bool n.leaf,.slice ae n.es.length ce,.slice (some ⟨r,ro,none⟩) n.ks.length ck,.slice az n.ss.length cz] 54)::l) 2 (dJ x d kid dp).1 (dJ x d kid dp).2)):=fun u hu=>by
     have:=rY (id:=kid) (depth:=dp) T hu Vn.out (by rw[HD.out.room];exact HX.out.2.1) (by rw[HD.out.room];exact HX.out.1) HX.out.2.2
     rwa [HD.out.dJ]at this
    rw[hlf]at c0;have HLF:Hid (n.leaf=false):=hlf;clear hE hn hsm jA hwk hkl hdp wA HDP
    go_wp2_with fail
    clear hlf c0 c1' c2' c3' g0 g1 g2 g3;refine aT 14 (JLr B w0 C x dc Pc U l (dJ x d kid dp).1 (dJ x d kid dp).2 q7 r ro n.ks.length ck (dA n.ss key) kid dp key #[.bool n.leaf,.slice ae n.es.length ce,.slice (some ⟨r,ro,none⟩) n.ks.length ck,.slice az n.ss.length cz]) (by kernel_rfl) (by kernel_rfl) (by kernel_rfl) (fun _ k=>k rfl ⟨fun _=>HS.out.drew,(fun h=>by cases h),fun h=>by cases h⟩ ar ar ar ar ar ar ar ar ar ar ar ar ar ar) ?_ ?_ ?_
    ·intro i w' hne f0 f1 f2 f3 f4 f5 f6 f7 f8 f9 f10 f11 f12 f13 f14 x8 Cf x38 x39 x40 x41 Wp x43 Wq Ws Wt TG Wu Wv e14 hB h0 h1 h2 h3 h4 h5 h6 h7 h8 h9 h10 h11 h12 dH hi;obtain⟨hlt,hun,_⟩:=aM hi;have hlt':i<15:=hlt;clear hlt;rcases(by omega:i=0∨i=1∨i=2∨i=3∨i=4∨i=5∨i=6∨i=7∨i=8∨i=9∨i=10∨i=11∨i=12∨i=13)with rfl|rfl|rfl|rfl|rfl|rfl|rfl|rfl|rfl|rfl|rfl|rfl|rfl|rfl
     ·refine aj rfl fun K HK=>?_;go_simp;exact HK.out _ _ fun _ k=>k e14 hB hidR h1 h2 h3 h4 h5 h6 h7 h8 h9 h10 h11 h12 dH
     ·refine aj rfl fun K HK=>?_;go_simp;exact HK.out _ _ fun _ k=>k e14 hB h0 hidR h2 h3 h4 h5 h6 h7 h8 h9 h10 h11 h12 dH
     ·have un:f2=false:=hun;cases h1 (ah 1 hi (by kernel_rfl));have n9:f9=false:=by
       cases hf:f9
       ·rfl
       ·exact absurd (h9.out hf).1 (by rw[un];simp)
      obtain⟨_,⟨y0,y1,y2,y3⟩,_⟩:=Sep.c4 (Sep.pk [_,_,_,_,_] (hB.1 n9));refine aj rfl fun K HK=>?_;go_simp;exact HK.out _ _ fun _ k=>k e14 hB h0 h1 hidR h3 h4 h5 (fun d=>by have e:=(h6.out d).1;rw[un]at e;cases e) h7 h8 (fun d=>by have e:=(h9.out d).1;rw[un]at e;cases e) h10 h11 h12 dH
     ·have un:f3=false:=hun;have n9:f9=false:=by
       cases hf:f9
       ·rfl
       ·exact absurd (h9.out hf).2.1 (by rw[un];simp)
      obtain⟨_,⟨y0,y1,y2,y3⟩,_⟩:=Sep.c4 (Sep.pk [_,_,_,_,_] (hB.1 n9));refine aj rfl fun K HK=>?_;go_simp;exact HK.out _ _ fun _ k=>k e14 hB h0 h1 h2 hidR h4 (fun d=>by have e:=(h5.out d).1;rw[un]at e;cases e) h6 h7 h8 (fun d=>by have e:=(h9.out d).2.1;rw[un]at e;cases e) h10 h11 h12 dH
     ·refine aj rfl fun K HK=>?_;go_simp;exact HK.out _ _ fun _ k=>k e14 hB h0 h1 h2 h3 hidR h5 h6 h7 h8 h9 h10 h11 h12 dH
     ·have un:f5=false:=hun;have d3:f3=true:=ah 3 hi (by kernel_rfl);cases h3 d3;cases h4 (ah 4 hi (by kernel_rfl));have n9:f9=false:=by
       cases hf:f9
       ·rfl
       ·exact absurd (h9.out hf).2.2.1 (by rw[un];simp)
      refine aj rfl fun K HK=>?_;go_simp;refine Calls.mono (KC.out _ (hB.1 n9)) ?_;rintro e u4 ⟨rfl,s4⟩;exact HK.out _ _ fun _ k=>k e14 ⟨fun _=>s4,(fun h=>by rw[n9]at h;cases h),hB.2.2⟩ h0 h1 h2 h3 h4 (fun _=>⟨d3,rfl⟩) (fun d=>by have e:=(h6.out d).2.1;rw[un]at e;cases e) h7 h8 (fun d=>by have e:=(h9.out d).2.2.1;rw[un]at e;cases e) h10 h11 h12 dH
     ·have un:f6=false:=hun;have d2:f2=true:=ah 2 hi (by kernel_rfl);cases h2 d2;have d5:f5=true:=ah 5 hi (by kernel_rfl);obtain⟨u3,rfl⟩:=h5.out d5;have htl:((dA n.ss key:Nat):Int)< (n.ks.length:Int):=by have:=HTL.out;omega
      refine aj rfl fun K HK=>?_;go_simp;exact HK.out _ _ fun _ k=>k e14 hB h0 h1 h2 h3 h4 h5 (fun _=>⟨d2,d5,rfl⟩) (fun d=>by have e:=(h7.out d).1;rw[un]at e;cases e) h8 (fun d=>by have e:=(h9.out d).2.2.2.1;rw[un]at e;cases e) h10 h11 h12 dH
     ·have un:f7=false:=hun;have d6:f6=true:=ah 6 hi (by kernel_rfl);obtain⟨_,_,rfl⟩:=h6.out d6;have n9:f9=false:=by
       cases hf:f9
       ·rfl
       ·exact absurd (h9.out hf).2.2.2.2.1 (by rw[un];simp)
      have hzc:=NV.kid (p:=(⟨ae,ce,some ⟨r,ro,none⟩,ck,az,cz,n⟩:NV)) (Sep.pool (Sep.pk [_,_,_] (hB.1 n9)) _ MX.out) (i:=dA n.ss key) HTL.out;obtain⟨z1,z2,hz3,hzs,hzc⟩:=hzc;cases hz3;simp only at hzc;rw[Ys.out]at hzc;refine aj rfl fun K HK=>?_;go_simp;exact HK.out _ _ fun _ k=>k e14 hB h0 h1 h2 h3 h4 h5 h6 (fun _=>⟨d6,rfl⟩) h8 (fun d=>by have e:=(h9.out d).2.2.2.2.1;rw[un]at e;cases e) h10 h11 h12 dH
     ·refine aj rfl fun K HK=>?_;go_simp;exact HK.out _ _ fun _ k=>k e14 hB h0 h1 h2 h3 h4 h5 h6 h7 hidR h9 h10 h11 h12 dH
     ·have un:f9=false:=hun;cases h0 (ah 0 hi (by kernel_rfl));have d7:f7=true:=ah 7 hi (by kernel_rfl);obtain⟨_,rfl⟩:=h7.out d7;cases h8 (ah 8 hi (by kernel_rfl));have d6:f6=true:=(h7.out d7).1;refine aj rfl fun K HK=>?_;go_simp;refine Calls.mono (KR.out _ (hB.1 un)) ?_;rintro e u4 ⟨p9,d9,E7,rfl,SG,s4⟩;exact HK.out _ _ fun _ k=>k e14 ⟨(fun h=>by cases h),(fun _=>⟨p9,d9,E7,rfl,SG,fun _=>s4,fun h=>by have:=hB.2.2 h;rw[un]at this;cases this⟩),fun _=>rfl⟩ h0 h1 h2 h3 h4 h5 h6 h7 h8 (fun _=>⟨(h6.out d6).1,(h5.out (h6.out d6).2.1).1,(h6.out d6).2.1,d6,d7,trivial⟩) (fun d=>by have e:=(h10.out d).1;rw[un]at e;cases e) (fun d=>by have e:=(h11.out d).1;rw[un]at e;cases e) (fun d=>by have e:=(h12.out d).1;rw[un]at e;cases e) dH
     ·have d9:f9=true:=ah 9 hi (by kernel_rfl);obtain⟨u2,u3,u5,u6,u7,_⟩:=h9.out d9;refine aj rfl fun K HK=>?_;go_simp;exact HK.out _ _ fun _ k=>k e14 hB h0 h1 h2 h3 h4 h5 h6 h7 h8 h9 (fun _=>⟨d9,rfl⟩) h11 h12 dH
     ·have d10:f10=true:=ah 10 hi (by kernel_rfl);obtain⟨_,rfl⟩:=h10.out d10;have u9:f9=true:=(h10.out d10).1;obtain⟨p9,d9,E7,e47,SG,s9⟩:=hB.2.1 u9;have Vp:Hid _:=E7;clear E7;subst e47;refine aj rfl fun K HK=>?_;go_simp;exact HK.out _ _ fun _ k=>k e14 hB h0 h1 h2 h3 h4 h5 h6 h7 h8 h9 h10 (fun _=>⟨u9,rfl⟩) h12 dH
     ·have d10:f10=true:=ah 10 hi (by kernel_rfl);obtain⟨_,rfl⟩:=h10.out d10;have u9:f9=true:=(h10.out d10).1;obtain⟨p9,d9,E7,e47,SG,s9⟩:=hB.2.1 u9;have Vp:Hid _:=E7;clear E7;subst e47;refine aj rfl fun K HK=>?_;go_simp;exact HK.out _ _ fun _ k=>k e14 hB h0 h1 h2 h3 h4 h5 h6 h7 h8 h9 h10 h11 (fun _=>⟨u9,rfl⟩) dH
     ·have un:f13=false:=hun;obtain⟨u9,oW⟩:=h11.out (ah 11 hi (by kernel_rfl));obtain⟨p9,d9,E7,e47,SG,s9,Yt⟩:=hB.2.1 u9;have Vp:Hid _:=E7;clear E7;subst e47;cases oW;obtain⟨_,⟨y0,y1,y2,y3⟩,g0,g1,g2,g3⟩:=Sep.c4 (Sep.pk [_,_,_,_,_] (s9 un));refine aj rfl fun K HK=>?_;go_simp;exact HK.out _ _ fun _ k=>k e14 ⟨(fun h=>by rw[u9]at h;cases h),(fun _=>⟨p9,d9,Vp.out,rfl,SG,(fun h=>by cases h),fun _=>Sep.pb [_,_,_,_,_] (Sep.s4 (Sep.pk [_,_,_,_,_] (s9 un)) _ _ _ _)⟩),fun _=>u9⟩ h0 h1 h2 h3 h4 h5 h6 h7 h8 h9 h10 h11 h12 (fun _=>trivial)
    ·intro w' f0 f1 f2 f3 f4 f5 f6 f7 f8 f9 f10 f11 f12 f13 f14 x8 Cf x38 x39 x40 x41 Wp x43 Wq Ws Wt TG Wu Wv e14 hB h0 h1 h2 h3 h4 h5 h6 h7 h8 h9 h10 h11 h12 dH hi;have d12:f12=true:=ah 12 hi (by kernel_rfl);obtain⟨u9,oX⟩:=h12.out d12;have d13:f13=true:=ah 13 hi (by kernel_rfl);clear hi;obtain⟨p9,d9,E7,e47,SG,s9,Yt⟩:=hB.2.1 u9;have Vp:Hid _:=E7;clear E7;subst oX;refine aj rfl fun K HK=>?_;go_simp;refine HK.out _ _ ?_;have S5:Hid (Sep B w0 w' (TL C x d9 (p9::Pc) (U::aF q7 (.cells (cN p9) 54)::l))):=Yt d13;have hw1:wrap64 (dp+1)=dp+1:=by have:=Vo.out;unfold wrap64;omega
     clear s9 Yt e47 h0 h1 h2 h3 h4 h5 h6 h7 h8 h9 h10 h11 h12 dH hB;have HN:Hid (E0 x d key g p9.n (dJ x d kid dp).2 (dp+1)=some (m,er)):=by rw[show p9.n=(dJ x d kid dp).1 from Vp.out];exact hE2.out
     generalize(dJ x d kid dp).2=ek at*;go_wp2
     go_roundg g
     case measure=>omega
     case rel=>exact⟨g,p9,p9::Pc,d9,ek,dp+1,rfl,by simp[hw1],Nat.le_refl _,(by have:=Vo.out;show(1:Int)<=dp+1;omega),HN.out,⟨List.mem_cons_self ..,fun y hy=>List.mem_cons_of_mem _ (HP.out.2 y hy)⟩,HD.out.trans ⟨_,SG⟩,S5.out⟩
    ·intro _ _;intros;assumption
   ·rw[if_neg hc]at hE;obtain⟨rfl,rfl⟩:pc.n=m∧ec=er:=by
     cases hE;exact⟨rfl,rfl⟩
    clear hE;by_cases h1:ec=0
    ·subst h1;have hlf:pc.n.leaf=true:=by
      cases hx:pc.n.leaf
      ·exact absurd ⟨rfl,hx⟩ hc
      ·rfl
     have KU:Hid _:=HU.out HS.out HP.out.1 (HES.out rfl).1 (HES.out rfl).2;rw[hlf]at c0;clear hc
     go_wp2_with fail
     refine Calls.mono KU.out ?_;rintro e v5 ⟨rfl,s5⟩;have S5:Hid _:=s5;clear c0 c1' c2' c3' g0 g1 g2 g3 KU s5;go_wp2;go_ret;exact⟨rfl,Pc,dc,U',HP.out.2,HD.out,fun _=>rfl,fun h=>absurd rfl h,Sep.drop (Sep.pk [_,_,_,_,_] S5.out)⟩
    ·have hne:(ec==0)=false:=by simpa using h1
     clear hc;go_wp2;go_ret;exact⟨rfl,Pc,dc,U,HP.out.2,HD.out,fun h=>absurd h h1,fun _=>rfl,Sep.drop (Sep.pk [_,_,_,_,_] HS.out)⟩
end
end
section
open N (Nd nd0 cE cI dG je fT Sm dA En Ak xP kP pG eK aT hidR ar aj Ch aM ah waits)
section
variable {B:Nat}{w0 w:World}{l:List aP}{P:List NV}{C:Cx}{x:TX}{d d1:Dk}{key:ByteArray}{es0:List En}{qk qv qf:Nat}{m:Nd}{er:Int}
abbrev U3 (qk qv qf:Nat)(key v:ByteArray)(b:Bool):aP:=Both (aF qk (.cells #[.string key] 9)) (Both (aF qv (.cells #[.string v] 9)) (aF qf (.cells #[.bool b] 4)))
theorem Sep.zl {v:ByteArray}{b:Bool}(h:Sep B w0 w (U3 qk qv qf key v b::l)):Sep B w0 w (aF qk (.cells #[.string key] 9)::aF qv (.cells #[.string v] 9)::aF qf (.cells #[.bool b] 4)::l):=by
 have h1:Sep B w0 w (aF qk (.cells #[.string key] 9)::Both (aF qv (.cells #[.string v] 9)) (aF qf (.cells #[.bool b] 4))::l):=h.map fun _=>Hp.part (a8 _ _) (aL (a8 _ _) (a8 _ _));exact Sep.lr (Sep.dW (Sep.gf h1))
theorem Sep.PI {v:ByteArray} {b:Bool} (h:Sep B w0 w (aF qk (.cells #[.string key] 9)::aF qv (.cells #[.string v] 9)::aF qf (.cells #[.bool b] 4)::l)):Sep B w0 w (U3 qk qv qf key v b::l):=
  Sep.join (Sep.gf (Sep.join (Sep.pk [_,_] (Sep.pk [_,_] h))))
theorem Oq:JO B w0 C x (.pointer (some ⟨qk,0,none⟩)) (.pointer (some ⟨qv,0,none⟩)) (.pointer (some ⟨qf,0,none⟩)) es0 (U3 qk qv qf key ⟨#[]⟩ false) (U3 qk qv qf key (pG es0 key) (kP es0 key)):=by
 intro w d P l p h hp he0 hl;have h2:=Sep.zl (Sep.iU h);obtain⟨ks,k0,_⟩:=Sep.c1 h2;have KG:Hid _:=N.BI (.slice p.ae p.n.es.length p.ce) p.n.es key w (Sep.pool (Sep.td h) _ hp).e (by omega);rw[he0]at KG;have HS:Hid (Sep B w0 w (TL C x d P (U3 qk qv qf key ⟨#[]⟩ false::l))):=h;rw[<-he0];have hln:p.n.es.length=es0.length:=by rw[he0]
 rw[he0];clear h h2 hp hl;generalize kP es0 key=gb at*;generalize pG es0 key=gv at*;rw[hln]at*;clear he0 hln;go_enter Tryz.func43,Tryz.ntmps43
 go_wp2_with fail
 refine Calls.mono KG.out ?_;rintro e w1 ⟨rfl,b1⟩;have h3:=Sep.zl (Sep.iU (HS.out.below b1));obtain⟨iz,k1,f0⟩:=Sep.c1 h3;obtain⟨vs1,v1,f1⟩:=Sep.c1 (Sep.gf h3);obtain⟨fs1,g1,f2⟩:=Sep.c1 (Sep.lr h3);have hne:qv≠qf:=Sep.ne (Sep.drop h3);have hne':=hne.symm;have S2:Hid (Sep B w0 ((w1.setCell ⟨qv,0,none⟩ (.string gv)).setCell ⟨qf,0,none⟩ (.bool gb)) (TL C x d P (U3 qk qv qf key gv gb::l))):=by
  have h4:=Sep.gC (x:=.string gv) (Sep.gf h3) 0;have h5:=Sep.gC (x:=.bool gb) (Sep.lr h4) 0;exact Sep.Fk (Sep.PI (Sep.lr (Sep.gf h5)))
 clear h3 KG HS b1;go_wp2
 go_end0
 exact⟨rfl,S2.out⟩
def GGt (B:Nat)(w0:World)(C:Cx)(x:TX)(d:Dk)(P:List NV)(l:List aP)(v:ByteArray)(b:Bool)(er:Int)(e:Ending)(w':World):Prop:=e=.returned (.tuple #[.string v,.bool b,.int .i64 er])∧∃P' d',(∀y∈P,y∈P')∧bp d d'∧Sep B w0 w' (TL C x d' P' l)
def JG (B:Nat)(w0:World)(C:Cx)(x:TX)(d d1:Dk)(P:List NV)(U U2:aP)(l:List aP)(er:Int)(f4:Bool)(w:World):Prop:=
 (f4=false->Sep B w0 w (TL C x d1 P (U::l)))∧(f4=true->∃P' d' V,(∀y∈P,y∈P')∧bp d d'∧(er=0->V=U2)∧(er≠0->V=U)∧Sep B w0 w (TL C x d' P' (V::l)))
def JGr (B:Nat)(w0:World)(CC:Cx)(x:TX)(d d1:Dk)(P:List NV)(U U2:aP)(l:List aP)(er:Int)(qk qv qf:Nat)(key:ByteArray){y2 y4 y5 y6 nL nM oY:Value}(C:List Bool->Act->Prop)(w:World):Prop:=∀{f0 f1 f2 f3 f4 f5:Bool}{x9 sZ yl vK ym tF:Value},f5=false->JG B w0 CC x d d1 P U U2 l er f4 w->Hid (f0=true->sZ=ptr CC.tq)->Hid (f1=true->yl=ptr CC.tq)->Hid (f2=true->vK=.string key)->Hid (f3=true->ym=.func (.func 43) #[] #[.pointer (some ⟨qk,0,none⟩),.pointer (some ⟨qv,0,none⟩),.pointer (some ⟨qf,0,none⟩)])->Hid (f4=true->f2=true∧tF=.int .i64 er)->C [f0,f1,f2,f3,f4,f5] {tmps:=#[ptr CC.tq,.string key,y2,.pointer (some ⟨qk,0,none⟩),y4,y5,y6,.pointer (some ⟨qv,0,none⟩),.pointer (some ⟨qf,0,none⟩),x9,sZ,yl,vK,ym,tF,nL,nM,oY],defers:=[]}
theorem Vq {f:Nat}{gv:ByteArray}{gb:Bool}(hv1:er=0->gv=pG es0 key∧gb=kP es0 key)(hv2:er≠0->gv=⟨#[]⟩∧gb=false)(T:cd B w0)(hr:d.room<=16384)(ok:x.Ok d.room)(hz:x.Sz)(h0:C.err=0)(hw:Wf C.root)(hd:bp d d1)(h:Sep B w0 w (TL C x d1 P l))(he:E0 x d key f (dJ x d C.root 0).1 (dJ x d C.root 0).2 1=some (m,er))(hes:er=0->m.es=es0∧m.es.length<=500):
  Calls Tryz.prog 21 #[ptr C.tq,.string key] w (GGt B w0 C x d P l gv gb er):=by
 have HG:Hid ((er=0->gv=pG es0 key∧gb=kP es0 key)∧(er≠0->gv=⟨#[]⟩∧gb=false)):=⟨hv1,hv2⟩;clear hv1 hv2;have S1:Hid (Sep B w0 (((w.alloc (.cells #[.string key] 9)).alloc (.cells #[.string ⟨#[]⟩] 9)).alloc (.cells #[.bool false] 4)) (TL C x d1 P (U3 w.heap.size (w.heap.size+1) (w.heap.size+2) key ⟨#[]⟩ false::l))):=by
  have h3:=Sep.aU (Sep.aU (Sep.aN h (.cells #[.string key] 9)) (.cells #[.string ⟨#[]⟩] 9) (w.heap.size+1) (by simp)) (.cells #[.bool false] 4) (w.heap.size+2) (by simp);exact Sep.Fk (Sep.PI (Sep.lr (Sep.gf h3)))
 have KL:Hid (∀u,Sep B w0 u (TL C x d1 P (U3 w.heap.size (w.heap.size+1) (w.heap.size+2) key ⟨#[]⟩ false::l))->Calls Tryz.prog 42 #[ptr C.tq,.string key,.func (.func 43) #[] #[.pointer (some ⟨w.heap.size,0,none⟩),.pointer (some ⟨w.heap.size+1,0,none⟩),.pointer (some ⟨w.heap.size+2,0,none⟩)]] u (GLf B w0 C x d P (U3 w.heap.size (w.heap.size+1) (w.heap.size+2) key ⟨#[]⟩ false) (U3 w.heap.size (w.heap.size+1) (w.heap.size+2) key (pG es0 key) (kP es0 key)) l er)):=fun u hu=>SD T hr ok hz h0 Oq hw hd hu he hes;clear h hr ok hz hw hd he hes T;go_enter Tryz.func21,Tryz.ntmps21
 go_wp2_with fail
 generalize World.alloc _ _=w1 at*;generalize w.heap.size+2=qf at*;generalize w.heap.size+1=qv at*;generalize w.heap.size=qk at*;refine aT 5 (JGr B w0 C x d d1 P (U3 qk qv qf key ⟨#[]⟩ false) (U3 qk qv qf key (pG es0 key) (kP es0 key)) l er qk qv qf key) (by kernel_rfl) (by kernel_rfl) (by kernel_rfl) (fun _ k=>k rfl ⟨fun _=>S1.out.drew,fun h=>by cases h⟩ ar ar ar ar ar) ?_ ?_ ?_
 ·intro i w' hne f0 f1 f2 f3 f4 f5 x9 sZ yl vK ym tF e5 hB h0 h1 h2 h3 h4 hi;obtain⟨hlt,hun,_⟩:=aM hi;have hlt':i<6:=hlt;clear hlt;rcases(by omega:i=0∨i=1∨i=2∨i=3∨i=4)with rfl|rfl|rfl|rfl|rfl
  ·refine aj rfl fun K HK=>?_;go_simp;exact HK.out _ _ fun _ k=>k e5 hB hidR h1 h2 h3 h4
  ·cases h0 (ah 0 hi (by kernel_rfl));refine aj rfl fun K HK=>?_;go_simp;refine Calls.mono (gD _ C.tq) ?_;rintro e u4 ⟨rfl,rfl⟩;exact HK.out _ _ fun _ k=>k e5 hB h0 hidR h2 h3 h4
  ·have un:f2=false:=hun;have n4:f4=false:=by
    cases hf:f4
    ·rfl
    ·exact absurd (h4.out hf).1 (by rw[un];simp)
   obtain⟨_,y0,_⟩:=Sep.c1 (Sep.zl (Sep.iU (hB.1 n4)));refine aj rfl fun K HK=>?_;go_simp;exact HK.out _ _ fun _ k=>k e5 hB h0 h1 hidR h3 (fun d=>by have e:=(h4.out d).1;rw[un]at e;cases e)
  ·refine aj rfl fun K HK=>?_;go_simp;exact HK.out _ _ fun _ k=>k e5 hB h0 h1 h2 hidR h4
  ·have un:f4=false:=hun;cases h1 (ah 1 hi (by kernel_rfl));have d2:f2=true:=ah 2 hi (by kernel_rfl);cases h2 d2;cases h3 (ah 3 hi (by kernel_rfl));refine aj rfl fun K HK=>?_;go_simp;refine Calls.mono (KL.out _ (hB.1 un)) ?_;rintro e u4 ⟨rfl,s4⟩;exact HK.out _ _ fun _ k=>k e5 ⟨(fun h=>by cases h),fun _=>s4⟩ h0 h1 h2 h3 (fun _=>⟨d2,rfl⟩)
 ·intro w' f0 f1 f2 f3 f4 f5 x9 sZ yl vK ym tF e5 hB h0 h1 h2 h3 h4 hi;have d4:f4=true:=ah 4 hi (by kernel_rfl);obtain⟨u2,rfl⟩:=h4.out d4;clear hi;refine aj rfl fun K HK=>?_;go_simp;refine HK.out _ _ ?_;obtain⟨P',d',V,m1,m2,m3,m4,s5⟩:=hB.2 d4;have S5:Hid (Sep B w0 w' (TL C x d' P' (V::l))):=s5;have HM:Hid ((∀y∈P,y∈P')∧bp d d'):=⟨m1,m2⟩;have HV:Hid ((er=0->V=U3 qk qv qf key (pG es0 key) (kP es0 key))∧(er≠0->V=U3 qk qv qf key ⟨#[]⟩ false)):=⟨m3,m4⟩;clear m1 m2 m3 m4 s5 h0 h1 h2 h3 h4 hB;by_cases he0:er=0
  ·subst he0;obtain rfl:=HV.out.1 rfl;obtain⟨rfl,rfl⟩:=HG.out.1 rfl;have h6:=Sep.zl (Sep.iU S5.out);obtain⟨_,y1,_⟩:=Sep.c1 (Sep.gf h6);obtain⟨_,y2,_⟩:=Sep.c1 (Sep.lr h6);clear h6 HV
   go_wp2_with fail
   go_quiet (fail)
   go_wp2
   go_ret3
   exact⟨rfl,P',d',HM.out.1,HM.out.2,(Sep.drop (Sep.iU S5.out)).drewN _⟩
  ·obtain rfl:=HV.out.2 he0;obtain⟨rfl,rfl⟩:=HG.out.2 he0;have h6:=Sep.zl (Sep.iU S5.out);obtain⟨_,y1,_⟩:=Sep.c1 (Sep.gf h6);obtain⟨_,y2,_⟩:=Sep.c1 (Sep.lr h6);clear h6 HV
   go_wp2_with fail
   go_quiet (fail)
   go_wp2
   go_ret3
   exact⟨rfl,P',d',HM.out.1,HM.out.2,(Sep.drop (Sep.iU S5.out)).drewN _⟩
 ·intro _ _;intros;assumption
end
end
namespace P
open N (Nd nd0 cE cI dG cA bO je fT Sm dA En Ak xP kP pG eK cF gi gp ie gT fY kJ Rg bh cj fk kf)
section
variable {B:Nat}{w0 w:World}{C:Cx}{x:TX}{d d1:Dk}{P:List NV}{l:List aP}{key:ByteArray}{E:List En}{X:List Int}{H:Nat}{room:Nat}
theorem JP (x:TX)(d:Dk)(id depth:Int):(eQ x).read d id depth=dJ x d id depth:=by
 unfold Dr.read;rw[if_neg (by simp[eQ])];rfl
theorem SH {l:List En}(h:cA l<=240):l.length<=500:=by
 have:2*l.length<=cA l:=kt;omega
theorem Dp (hr:room<=16384):∀(h:Nat) (b:BT h) (depth:Int) (f:Nat),Gb room d (eQ x) h b->depth+h<=24->h<f->
  ∃L es R EL ER,Loc h b key L es R EL ER∧E0 x d key f (aV h b) 0 depth=some (⟨true,es,[],[]⟩,0)∧es.length<=500
 |0,b,depth,f,G,hd,hf=>by
  obtain⟨f,rfl⟩:∃f',f=f'+1:=⟨f-1,by omega⟩;refine⟨[],b,[],[],[],⟨?_,?_,.inl rfl,.inl rfl,(fun _ hc=>by cases hc),(fun _ hc=>by cases hc),(fun _ hc=>by cases hc),(fun _ hc=>by cases hc)⟩,?_,SH G.sz⟩
  ·show mR b=[]++(mR b++[]);rw[List.nil_append,List.append_nil]
  ·show dM 0 b=[]++(dM 0 b++[]);rw[List.nil_append,List.append_nil]
  ·rw[E0,if_neg (by simp[aV])];rfl
 |h+1,b,depth,f,G,hd,hf=>by
  obtain⟨f,rfl⟩:∃f',f=f'+1:=⟨f-1,by omega⟩;obtain⟨K,ss,rfl⟩:=eZ b;have R0:=G.rw;have hl:ss.length+1=K.length:=G.wl.1;obtain⟨sA,sB,rfl,hch,k1,k2⟩:=wL (key:=key) (kF (by omega) R0.od);obtain⟨A,w,B,rfl,hA⟩:∃A w B,K=A++w::B∧A.length=sA.length:=by
   obtain⟨w,B,r1,_⟩:=eh (l:=K.drop sA.length) (n:=K.length-sA.length-1) (by rw[List.length_drop];simp at hl;omega);exact⟨K.take sA.length,w,B,by rw[<-r1,List.take_append_drop],by rw[List.length_take];simp at hl;omega⟩
  have hB:B.length=sB.length:=by simp at hl;omega
  have hwz:=R0.wl w (by simp);have Wo:bP (dw A sA++(cx h w.2++jB (B.map fun u=>cx h u.2) sB)):=by rw[<-eO hA];exact R0.od
  have hsub:(bn h w.2).Sublist (aW (A++w::B)):=by
   rw[bc,bE,bY];exact List.Sublist.trans (List.sublist_cons_self _ _) (List.Sublist.trans (List.sublist_append_left _ _) (List.sublist_append_right _ _))
  have Gw:Gb room d (eQ x) h w.2:=⟨G.sd,hwz.1,hwz.2,fun p hp=>R0.us p (hsub.subset hp),R0.nd.sublist hsub,fun y hy=>R0.is y (by rw[dg,dF];simp[nT,hy]),Wo.sub (List.Sublist.trans (List.sublist_append_left _ _) (List.sublist_append_right _ _)),fun y hy=>R0.vl y (by rw[bQ,bV];simp[hy])⟩;obtain⟨L,es,R,EL,ER,loc,q1,q2⟩:=Dp hr h w.2 (depth+1) f Gw (by omega) (by omega);refine⟨_,es,_,_,_,Loc.up loc hA hB R0.od k1 k2,?_,q2⟩;have hgd:(aV (h+1) (bI (A++w::B) (sA++sB))).ks.getD (dA (aV (h+1) (bI (A++w::B) (sA++sB))).ss key) 0=w.1:=by
   rw[bU];simp only[hch];rw[<-hA];simp[List.getD_eq_getElem?_getD]
  have hrd:dJ x d w.1 depth=(aV h w.2,0):=by rw[<-JP];exact j4 R0.is (by simp) (by omega)
  rw[E0,if_pos ⟨rfl,by rw[bU]⟩,if_neg (by
   rw[G.sm hr,bU]
   simp only[hch,List.length_map,List.length_append,List.length_cons]
   simp
   omega),hgd,hrd]
  exact q1
theorem Vr (hr:room<=16384){root:Int}(T:TS room d (eQ x) root E X H)(hH:H+1<24):∃es EL ER,E0 x d key 30 (dJ x d root 0).1 (dJ x d root 0).2 1=some (⟨true,es,[],[]⟩,0)∧E=EL++(es++ER)∧(∀y∈EL,bh y.1 key=true)∧(∀y∈ER,bh key y.1=true)∧es.length<=500:=by
 rcases T with⟨rfl,rfl,rfl,sd,rfl⟩| ⟨h,u,rfl,G,tb,rfl,rfl,rfl⟩
 ·refine⟨[],[],[],?_,rfl,(fun _ hc=>by cases hc),(fun _ hc=>by cases hc),by simp⟩;unfold dJ;rw[if_pos rfl,E0,if_neg (by simp[lf0])];rfl
 ·have hrd:dJ x d u.1 0=(aV h u.2,0):=by rw[<-JP,(eQ x).gF d _ _ (by omega)];exact G.rd
  obtain⟨L,es,R,EL,ER,loc,q1,q2⟩:=Dp (key:=key) hr h u.2 1 30 G.g (by omega) (by omega);rw[hrd];exact⟨es,EL,ER,q1,loc.en,(loc.lo G.g.od).1,(loc.lo G.g.od).2,q2⟩
theorem TS.wf (hr:room<=16384){root:Int}(T:TS room d (eQ x) root E X H):Wf root:=by
 rcases T with⟨rfl,_⟩| ⟨h,u,rfl,G,_⟩
 ·exact⟨by omega,by omega⟩
 ·have h1:=G.us.lo;have h2:=G.us.hi;have h3:=G.g.sd.x.pr;exact⟨by omega,by omega⟩
theorem SI (T:cd B w0)(hr:d.room<=16384)(hd:bp d d1)(h:Sep B w0 w (TL C x d1 P l))(h0:C.err=0)(TT:Tx d.room d x C.root E X H)(hH:H+1<24):
  Calls Tryz.prog 21 #[ptr C.tq,.string key] w (GGt B w0 C x d P l (kJ E key) (fY E key) 0):=by
 have hE:=TT.ts.rg;obtain⟨es,EL,ER,q1,rfl,lo,hi,q2⟩:=Vr (key:=key) hr TT.ts hH;refine Vq (es0:=es) (fun _=>⟨?_,?_⟩) (fun hc=>absurd rfl hc) T hr TT.ts.sd.x TT.ts.sd.bz h0 (TT.ts.wf hr) hd h q1 (fun _=>⟨rfl,q2⟩)
 ·unfold pG;rw[fk (og hE),if_pos rfl,Sx hE lo hi]
 ·unfold kP;rw[fk (og hE),Bool.true_and,zj lo hi]
end
end P
section
open N (bh)
theorem Vs (x y:ByteArray):Builtin.max_ #[9,9] 9 #[.string x,.string y]=pure (.string (if bh x y=true then y else x)):=by
 cases h:bh x y
 ·have h2:Op.bytesLess x.toList y.toList=false:=h;simp[Builtin.max_,Builtin.max2,Op.stringOp,asBool,h2]
 ·have h2:Op.bytesLess x.toList y.toList=true:=h;simp[Builtin.max_,Builtin.max2,Op.stringOp,asBool,h2]
section
variable {B:Nat}{w0 w w':World}{l:List aP}{fr tt k:ByteArray}
theorem qo (h:Sep B w0 w l):Calls Tryz.prog 80 #[.agg #[.string fr,.string tt],.string k] w fun e w'=>e=.returned (.bool (bH tt k))∧Sep B w0 w' l:=by
 have SF:Hid (Sep B w0 (w.alloc (.cells #[.string fr,.string tt] 75)) l):=h.alloc _;clear h;by_cases h0:tt=⟨#[]⟩
 ·have HE:Hid (bH tt k=true):=by show _=true;simp[bH,h0]
  subst h0;go_enter Tryz.func80,Tryz.ntmps80;go_wp2;go_ret;exact⟨by rw[HE.out];rfl,SF.out⟩
 ·have HE:Hid (bH tt k=bh k tt):=by show _=_;simp[bH,h0]
  have he:tt.toList≠[]:=fun e=>h0 (N.fc (e.trans (by simp)));have he2:tt.toList.isEmpty=false:=by simpa using he
  clear h0;go_enter Tryz.func80,Tryz.ntmps80;go_wp2;go_ret;exact⟨by rw[HE.out];rfl,SF.out⟩
theorem Sep.c2 {q:Nat}{a0 a1:Value}{ty:TypeId}(h:Sep B w0 w (aF q (.cells #[a0,a1] ty)::l)):q<w.heap.size∧(w.cell? ⟨q,0,none⟩=some a0∧w.cell? ⟨q,1,none⟩=some a1)∧w.frozen? ⟨q,0,none⟩=false∧w.frozen? ⟨q,1,none⟩=false:=by
 have hb:=h.blk;refine⟨(Array.getElem?_eq_some_iff.1 hb).1,⟨?_,?_⟩,?_,?_⟩<;>simp[World.cell?,World.frozen?,hb]
end
end
end Go.Proofs.YtceoeaemenhbhabGreatDoor
