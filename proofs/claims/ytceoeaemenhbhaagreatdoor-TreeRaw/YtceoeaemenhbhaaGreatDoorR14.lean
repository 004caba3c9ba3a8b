/- Walks of the package cowtree and of what it stands on: lemmas, made short. -/
import Derived.Test.YtceoeaemenhbhaaGreatDoorR13
import Derived.Test.YtceoeaemenhbhaaGreatDoorR12
set_option maxHeartbeats 16000000
set_option maxRecDepth 100000
set_option linter.unusedVariables false
set_option linter.unusedSimpArgs false
namespace Go.Proofs.YtceoeaemenhbhaaGreatDoor
namespace P
open N
section
variable {room:Nat}{d:Dk}{S:Dr}{h:Nat}
theorem AB {α:Type}{l:List α}{i:Nat}{x:α}(hx:l[i]? =some x):∃A B,l=A++x::B∧A.length=i:=by
 obtain⟨hi,rfl⟩:=List.getElem?_eq_some_iff.1 hx;refine⟨l.take i,l.drop (i+1),?_,by rw[List.length_take];omega⟩;rw[List.getElem_cons_drop,List.take_append_drop]
theorem Co {α:Type}{l:List α}{i:Nat}{x y:α}(hx:l[i]? =some x)(hy:l[i+1]? =some y):∃A B,l=A++x::y::B∧A.length=i:=by
 obtain⟨A,B,rfl,hA⟩:=AB hx;refine⟨A,B.drop 1,?_,hA⟩;subst hA;rw[List.getElem?_append_right (by omega),show A.length+1-A.length=1 by omega]at hy;cases B with
 |nil=>simp at hy
 |cons z B=>simp at hy;subst hy;simp
theorem nO {K:List (KT h)}{ss:List ByteArray}{j:Nat}:KP K ss j↔(∀a b k,K[j]? =some a->K[j+1]? =some b->ss[j]? =some k->bQ h a.2<80->240<jz a k b)∧(∀i a b k,j=i+1->K.length=j+1->K[i]? =some a->K[i+1]? =some b->ss[i]? =some k->bQ h b.2<80->240<jz a k b):=by
 constructor
 ·intro H;refine⟨fun a b k h1 h2 h3 hs=>?_,fun i a b k e1 e2 h1 h2 h3 hs=>?_⟩
  ·obtain⟨A,B,rfl,hA⟩:=Co h1 h2;obtain⟨sA,sB,rfl,hS⟩:=AB h3;exact(H A a b B sA k sB rfl rfl (by omega)).1 hA.symm hs
  ·obtain⟨A,B,rfl,hA⟩:=Co h1 h2;obtain⟨sA,sB,rfl,hS⟩:=AB h3;refine(H A a b B sA k sB rfl rfl (by omega)).2 ?_ (by omega) hs;simp at e2;exact List.length_eq_zero_iff.1 (by omega)
 ·rintro⟨H1,H2⟩ A a b B sA k sB rfl rfl hA;refine⟨fun hj hs=>?_,fun hB hj hs=>?_⟩
  ·subst hj;exact H1 a b k (by simp) (by simp) (by rw[hA];simp) hs
  ·subst hj hB;exact H2 A.length a b k rfl (by simp) (by simp) (by simp) (by rw[hA];simp) hs
theorem KP.same {K K':List (KT h)}{ss ss':List ByteArray}{i j:Nat}(H:KP K ss i)(e1:K'[j]? =K[i]?)(e2:K'[j+1]? =K[i+1]?)(e3:ss'[j]? =ss[i]?)
  (e4:K'.length=j+1->∀j',j=j'+1->∃i',i=i'+1∧K.length=i+1∧K'[j']? =K[i']? ∧ss'[j']? =ss[i']?):KP K' ss' j:=by
 rw[nO]at H⊢;refine⟨fun a b k h1 h2 h3 hs=>H.1 a b k (by rw[<-e1];exact h1) (by rw[<-e2];exact h2) (by rw[<-e3];exact h3) hs,fun j' a b k r1 r2 h1 h2 h3 hs=>?_⟩;obtain⟨i',f1,f2,f3,f4⟩:=e4 r2 j' r1;subst r1 f1;exact H.2 i' a b k rfl f2 (by rw[<-f3];exact h1) (by rw[<-e1];exact h2) (by rw[<-f4];exact h3) hs
theorem KP.ahead {A R R':List (KT h)}{s t t':List ByteArray}{j:Nat}(H:KP (A++R) (s++t) j)(hj:j+1<A.length)(hs:j<s.length):KP (A++R') (s++t') j:=by
 refine KP.same H ?_ ?_ ?_ (fun hl=>?_)
 ·rw[List.getElem?_append_left (by omega),List.getElem?_append_left (by omega)]
 ·rw[List.getElem?_append_left (by omega),List.getElem?_append_left (by omega)]
 ·rw[List.getElem?_append_left (by omega),List.getElem?_append_left (by omega)]
 ·simp at hl;omega
theorem KP.behind {L L' B:List (KT h)}{t t' sB:List ByteArray}{b:Nat}(H:KP (L++B) (t++sB) (L.length+b))(hb:1<=b)(hL:t.length=L.length∨(sB=[]∧B.length<=1))(hL':t'.length=L'.length∨(sB=[]∧B.length<=1)):KP (L'++B) (t'++sB) (L'.length+b):=by
 by_cases hB:b<B.length
 ·have h1:t.length=L.length:=by rcases hL with e| ⟨_,e⟩;exact e;omega
  have h2:t'.length=L'.length:=by rcases hL' with e| ⟨_,e⟩;exact e;omega
  have g:∀c,(L'++B)[L'.length+c]? =(L++B)[L.length+c]? :=fun c=>by
   rw[List.getElem?_append_right (by omega),List.getElem?_append_right (by omega)];congr 1;omega
  have g2:∀c,(t'++sB)[L'.length+c]? =(t++sB)[L.length+c]? :=fun c=>by
   rw[List.getElem?_append_right (by omega),List.getElem?_append_right (by omega)];congr 1;omega
  refine KP.same H (g b) (g (b+1)) (g2 b) (fun hl j' e=>?_);refine⟨L.length+(b-1),by omega,by simp at hl⊢;omega,?_,?_⟩
  ·rw[<-g,show j'=L'.length+(b-1) by omega]
  ·rw[<-g2,show j'=L'.length+(b-1) by omega]
 ·rw[nO];refine⟨fun a c k h1 _ _=>?_,fun i a c k e1 e2 h1 h2=>?_⟩
  ·rw[List.getElem?_append_right (by omega),List.getElem?_eq_none (by omega)]at h1;cases h1
  ·rw[List.getElem?_append_right (by omega),List.getElem?_eq_none (by omega)]at h2;cases h2
theorem KP.grow {A B:List (KT h)}{w c:KT h}{ss:List ByteArray}{j:Nat}(H:KP (A++w::B) ss j)(hj:j≠A.length)(hz:bQ h w.2<=bQ h c.2):KP (A++c::B) ss j:=by
 have g:∀i,i≠A.length->(A++c::B)[i]? =(A++w::B)[i]? :=fun i hi=>by
  by_cases hlt:i<A.length
  ·rw[List.getElem?_append_left hlt,List.getElem?_append_left hlt]
  ·rw[List.getElem?_append_right (by omega),List.getElem?_append_right (by omega)];obtain⟨q,hq⟩:∃q,i-A.length=q+1:=⟨i-A.length-1,by omega⟩;rw[hq];simp
 have gw:(A++w::B)[A.length]? =some w:=by simp
 have gc:(A++c::B)[A.length]? =some c:=by simp
 rw[nO]at H⊢;refine⟨fun a b k h1 h2 h3 hs=>?_,fun i a b k e1 e2 h1 h2 h3 hs=>?_⟩
 ·rw[g j hj]at h1;by_cases hq:j+1=A.length
  ·rw[hq,gc]at h2;cases h2;exact Nat.lt_of_lt_of_le (H.1 a w k h1 (by rw[hq];exact gw) h3 hs) (ie (Nat.le_refl _) hz)
  ·rw[g _ hq]at h2;exact H.1 a b k h1 h2 h3 hs
 ·rw[g (i+1) (by omega)]at h2;have el:(A++w::B).length=j+1:=by simp at e2⊢;omega
  by_cases hq:i=A.length
  ·rw[hq,gc]at h1;cases h1;exact Nat.lt_of_lt_of_le (H.2 i w b k e1 el (by rw[hq];exact gw) h2 h3 hs) (ie hz (Nat.le_refl _))
  ·rw[g _ hq]at h1;exact H.2 i a b k e1 el h1 h2 h3 hs
end
end P
namespace P
open N
def OI (F G:List It):Prop:=∀X Y,bP (X++(F++Y))->bP (X++(G++Y))
theorem OI.refl (F:List It):OI F F:=fun _ _ h=>h
theorem OI.trans {F G H:List It}(h1:OI F G)(h2:OI G H):OI F H:=fun X Y h=>h2 X Y (h1 X Y h)
theorem OI.sub {F G:List It}(s:G.Sublist F):OI F G:=fun X Y h=>h.sub (List.Sublist.append (List.Sublist.refl _) (List.Sublist.append s (List.Sublist.refl _)))
theorem OI.ctx {F G:List It}(h:OI F G)(U V:List It):OI (U++(F++V)) (U++(G++V)):=fun X Y hx=>by
 have:=h (X++U) (V++Y) (by simpa using hx);simpa using this
theorem MW {F1 F2:List It}{e k:ByteArray}(hF:∀x∈F1,x.1=false):OI ((false,e)::(F1++(false,k)::F2)) ((false,e)::(F1++(true,k)::(false,k)::F2)):=fun X Y ho=>by
 have Zb:bD e k=true:=by
  have h1:=(List.pairwise_append.1 ho.up).2.1;rw[List.cons_append,List.pairwise_cons]at h1;have:=h1.1 (false,k) (by simp);simpa[RI]using this
 have e1:X++((false,e)::(F1++(false,k)::F2)++Y)=(X++(false,e)::F1)++((false,k)::(F2++Y)):=by simp
 have e2:X++((false,e)::(F1++(true,k)::(false,k)::F2)++Y)=(X++(false,e)::F1)++((true,k)::(false,k)::(F2++Y)):=by simp
 rw[e1]at ho;rw[e2];obtain⟨p1,p2,p3⟩:=List.pairwise_append.1 ho.up;obtain⟨p4,p5⟩:=List.pairwise_cons.1 p2;have hlt:∀x∈X++(false,e)::F1,bD x.2 k=true:=fun x hx=>by
  have h0:=p3 x hx (false,k) (by simp);by_cases hb:x.1=true
  ·rcases List.mem_append.1 hx with hx|hx
   ·have h1:=(List.pairwise_append.1 p1).2.2 x hx (false,e) (by simp);have h2:bD e x.2=false:=by simpa[RI,hb]using h1
    by_cases he:e=x.2
    ·rw[<-he];exact Zb
    ·exact cL (gQ h2 he) Zb
   ·rcases List.mem_cons.1 hx with rfl|hx
    ·cases hb
    ·rw[hF x hx]at hb;cases hb
  ·simpa[RI,hb]using h0
 refine⟨List.pairwise_append.2 ⟨p1,List.pairwise_cons.2 ⟨fun y hy=>?_,p2⟩,fun x hx y hy=>?_⟩,fun x hx=>?_⟩
 ·rcases List.mem_cons.1 hy with rfl|hy
  ·simp[RI,dE]
  ·have:=p4 y hy;unfold RI at this⊢;by_cases hb:y.1=true
   ·simpa[hb]using this
   ·simp[hb]at this⊢;exact gF this
 ·rcases List.mem_cons.1 hy with rfl|hy
  ·simpa[RI]using hlt x hx
  ·exact p3 x hx y hy
 ·rcases List.mem_append.1 hx with hx|hx
  ·exact ho.sz x (List.mem_append_left _ hx)
  ·rcases List.mem_cons.1 hx with rfl|hx
   ·exact ho.sz (false,k) (by simp)
   ·exact ho.sz x (List.mem_append_right _ hx)
section
variable {room:Nat}{d:Dk}{S:Dr}{h:Nat}
def Ob (room:Nat)(d:Dk)(S:Dr):(h:Nat)->BT h->Prop
 |0,l=>Sd room S∧bP (cd 0 l)∧(∀x∈(show List En from l),x.2.size<=40)∧cx l<=298
 |h+1,t=>Rw room d S h t.1 t.2∧(∀j,KP t.1 t.2 j)∧bN t.2<=257
def QZ (room:Nat)(d:Dk)(S:Dr)(h:Nat)(t:BT h)(parts:List Nd)(keys:List ByteArray)(S1:Dr):Prop:=
 (parts=[]∧keys=[]∧S1=S∧bh h t=[]∧dR h t=[]∧cd h t=[])∨
 (parts=[aT h t]∧keys=[]∧S1=S∧Wl h t∧bQ h t<=240∧cA (aT h t)=true)∨
 (∃c1 c2 k,parts=[aT h c1,aT h c2]∧keys=[k]∧Wl h c1∧Wl h c2∧bQ h c1<=240∧bQ h c2<=240∧cA (aT h c1)=true∧cA (aT h c2)=true∧oy S1 d (k8 h c1++k8 h c2)∧Fm room d 0 S (bh h t) S1 (bh h c1++bh h c2)∧OI (cd h t) (cd h c1++(true,k)::cd h c2)∧dR h t=dR h c1++dR h c2∧(bh h c1++bh h c2).length<=(bh h t).length)
theorem nr {x:En}(h1:x.1.size<=16)(h2:x.2.size<=40):kA x<=58:=by unfold kA;omega
theorem MZ {l:List En}(hx:∀x∈l,kA x<=58)(h1:240<cx l)(h2:cx l<=298):2<=l.length∧cx (l.take (dZ l))<=240∧cx (l.drop (dZ l))<=240:=by
 have hl:5<=l.length:=by
  have:=j5 hx;omega
 obtain⟨q1,q2,q3,q4⟩:=zC (l:=l) (by omega);have hsum:cx (l.take (dZ l))+cx (l.drop (dZ l))=cx l:=by rw[<-jb,List.take_append_drop]
 have hstep:cx (l.take (dZ l))=cx (l.take (dZ l-1))+kA l[dZ l-1]! :=by
  have:=lX (l:=l) (i:=dZ l-1) (by omega)
  rwa [show dZ l-1+1=dZ l by omega]at this
 have he:kA l[dZ l-1]! <=58:=by
  rw[getElem!_pos l (dZ l-1) (by omega)];exact hx _ (List.getElem_mem _)
 refine⟨by omega,?_,?_⟩
 ·rcases q4 with q4|q4
  ·have h0:l.take (dZ l-1)=[]:=by rw[q4];rfl
   rw[h0]at hstep;have h1:cx ([]:List En)=0:=rfl;omega
  ·omega
 ·rcases q3 with q3|q3
  ·omega
  ·have:(l.drop (dZ l)).length=1:=by rw[List.length_drop];omega
   have:=j5 (l:=l.drop (dZ l)) (b:=58) (fun x hx'=>hx x (List.mem_of_mem_drop hx'));omega
theorem IG (hr:room<=16384)(l:List En)(ho:Ob room d S 0 l)(depth:Int){f:Nat}(hf:1<=f):
  ∃parts keys,bU (bj room d f) S (aT 0 l) depth=some ((parts,keys,0),S)∧QZ room d S 0 l parts keys S:=by
 obtain⟨sd,od,vl,sz⟩:=ho;have od':bP (l.map fun(x:En)=>((false,x.1):It)):=od;have hrt:=kq l od vl;unfold bU;by_cases h0:l=[]
 ·subst h0;exact⟨[],[],by simp[aT],.inl ⟨rfl,rfl,rfl,rfl,rfl,rfl⟩⟩
 ·rw[if_neg (by simp[aT,h0]),if_neg (by rw[kr l (Nat.le_trans (show bQ 0 l<=298 from sz) (by omega))];simp),if_neg (by rw[hrt];simp)];by_cases hfi:cA (aT 0 l)=true
  ·rw[if_pos hfi];refine⟨_,_,rfl,.inr (.inl ⟨rfl,rfl,rfl,h0,?_,hfi⟩)⟩;unfold cA at hfi;rw[Bool.and_eq_true,decide_eq_true_eq]at hfi;exact hfi.2
  ·rw[if_neg hfi];have hbig:240<cx l:=by
    by_cases hc:cx l<=240
    ·exfalso;apply hfi;unfold cA;rw[hrt,Bool.true_and];exact decide_eq_true hc
    ·omega
   have hx:∀x∈l,kA x<=58:=fun x hx=>nr (od'.sz (false,x.1) (List.mem_map_of_mem (f:=fun(x:En)=>((false,x.1):It)) hx)).2 (vl x hx);obtain⟨g1,g2,g3⟩:=MZ hx hbig sz;obtain⟨q1,q2,_,_⟩:=zC g1;have hen:uT (aT 0 l)=true:=by
    unfold uT;rw[hrt,Bool.true_and,Bool.or_eq_true];exact .inl (decide_eq_true g1)
   have eA:sA (aT 0 l)=aT 0 (l.take (dZ l)):=by unfold sA;rw[if_pos hen];rfl
   have eB:sB (aT 0 l)=aT 0 (l.drop (dZ l)):=by unfold sB;rw[if_pos hen];rfl
   have eM:sM (aT 0 l)=l[dZ l]!.1:=by unfold sM;rw[if_pos hen];rfl
   have oA:bP (cd 0 (l.take (dZ l))):=od.sub (by
    show(List.map _ (l.take (dZ l))).Sublist (List.map _ l)
    exact(List.take_sublist _ _).map _)
   have oB:bP (cd 0 (l.drop (dZ l))):=od.sub (by
    show(List.map _ (l.drop (dZ l))).Sublist (List.map _ l)
    exact(List.drop_sublist _ _).map _)
   have fA:cA (aT 0 (l.take (dZ l)))=true:=by
    unfold cA;rw[kq _ oA (fun x hx=>vl x (List.mem_of_mem_take hx)),Bool.true_and];exact decide_eq_true g2
   have fB:cA (aT 0 (l.drop (dZ l)))=true:=by
    unfold cA;rw[kq _ oB (fun x hx=>vl x (List.mem_of_mem_drop hx)),Bool.true_and];exact decide_eq_true g3
   obtain⟨f,rfl⟩:∃f',f=f'+1:=⟨f-1,by omega⟩;have hst:bj room d (f+1) S (aT 0 (l.take (dZ l))) depth (((aT 0 (l.take (dZ l))).ks.length:Int)-1) ((aT 0 (l.take (dZ l))).ks.length:Int)=some ((aT 0 (l.take (dZ l)),0),S):=
    jl (kr _ (Nat.le_trans (show bQ 0 _<=240 from g2) (by omega))) (by simp[aT];omega) (by simp[aT];omega)
   rw[eA,eB,eM,hst];simp only[fA,fB];refine⟨_,_,by simp,.inr (.inr ⟨l.take (dZ l),l.drop (dZ l),l[dZ l]!.1,rfl,rfl,?_,?_,g2,g3,fA,fB,?_,?_,?_,?_,Nat.le_refl _⟩)⟩
   ·show l.take (dZ l)≠[];intro hc;have:=congrArg List.length hc;rw[List.length_take,List.length_nil]at this;omega
   ·show l.drop (dZ l)≠[];intro hc;have:=congrArg List.length hc;rw[List.length_drop,List.length_nil]at this;omega
   ·intro x hx;cases hx
   ·exact Fm.refl sd (fun p hp=>by cases hp) List.nodup_nil
   ·obtain⟨e,l1,r1,_⟩:=dY (l:=l.take (dZ l)) (n:=dZ l-1) (by rw[List.length_take];omega);have r2:l.drop (dZ l)=l[dZ l]! ::l.drop (dZ l+1):=by
     rw[getElem!_pos l (dZ l) q2,List.getElem_cons_drop]
    have r3:l=e::(l1++l[dZ l]! ::l.drop (dZ l+1)):=by
     rw[<-r2,<-List.cons_append,<-r1,List.take_append_drop]
    have k1:cd 0 l=(false,e.1)::(l1.map (fun(x:En)=>((false,x.1):It))++(false,l[dZ l]!.1)::(l.drop (dZ l+1)).map (fun(x:En)=>((false,x.1):It))):=by
     show List.map (fun(x:En)=>((false,x.1):It)) l=_
     conv=>lhs;rw[r3]
     simp
    have k2:cd 0 (l.take (dZ l))=(false,e.1)::l1.map (fun(x:En)=>((false,x.1):It)):=by
     show List.map (fun(x:En)=>((false,x.1):It)) (l.take (dZ l))=_;rw[r1];simp
    have k3:cd 0 (l.drop (dZ l))=(false,l[dZ l]!.1)::(l.drop (dZ l+1)).map (fun(x:En)=>((false,x.1):It)):=by
     show List.map (fun(x:En)=>((false,x.1):It)) (l.drop (dZ l))=_;rw[r2];simp
    rw[k1,k2,k3];have:=MW (F1:=l1.map (fun(x:En)=>((false,x.1):It))) (F2:=(l.drop (dZ l+1)).map (fun(x:En)=>((false,x.1):It))) (e:=e.1) (k:=l[dZ l]!.1) (fun x hx=>by
     obtain⟨y,_,rfl⟩:=List.mem_map.1 hx
     rfl)
    simpa using this
   ·show l=l.take (dZ l)++l.drop (dZ l);rw[List.take_append_drop]
theorem Cp {l:List ByteArray}(hlt:∀s∈l,1<=s.size):6*l.length<=bN l:=by
 induction l with
 |nil=>simp
 |cons x l ih=>
  have h1:=hlt x (List.mem_cons_self ..);have h2:=ih fun y hy=>hlt y (List.mem_cons_of_mem _ hy);simp only[bN,List.length_cons];omega
theorem Rw.part {A B:List (KT h)}{sA sB:List ByteArray}{k:ByteArray}(R:Rw room d S h (A++B) (sA++k::sB))(hA:sA.length+1=A.length)(hB:sB.length+1=B.length):
  Rw room d S h A sA∧Rw room d S h B sB∧dh (A++B) (sA++k::sB)=dh A sA++(true,k)::dh B sB:=by
 have eF:dh (A++B) (sA++k::sB)=dh A sA++(true,k)::dh B sB:=vH (bG A sA) (bG B sB) k hA;have od:=R.od;rw[eF]at od;have hsz:bN (sA++k::sB)=bN sA+(5+k.size+bN sB):=by rw[dA,bN]
 have:=R.sz;refine⟨⟨R.sd,fun u hu=>R.wl u (by simp[hu]),fun p hp=>R.us p (by rw[a8];simp[hp]),?_,fun x hx=>R.is x (by rw[cT];simp[hx]),od.sub (List.sublist_append_left _ _),fun x hx=>R.vl x (by rw[cf];simp[hx]),by omega,.inl hA⟩,
  ⟨R.sd,fun u hu=>R.wl u (by simp[hu]),fun p hp=>R.us p (by rw[a8];simp[hp]),?_,fun x hx=>R.is x (by rw[cT];simp[hx]),od.sub (List.Sublist.trans (List.sublist_cons_self _ _) (List.sublist_append_right _ _)),fun x hx=>R.vl x (by rw[cf];simp[hx]),by omega,.inl hB⟩,eF⟩
 ·have:=R.nd;rw[a8]at this;exact(List.nodup_append.1 this).1
 ·have:=R.nd;rw[a8]at this;exact(List.nodup_append.1 this).2.1
theorem Eo (hr:room<=16384)(HJ:ll room d h)(K:List (KT h))(ss:List ByteArray)(ho:Ob room d S (h+1) (bG K ss)){depth:Int}(hd:depth+1+h<24){f m:Nat}(hf:3*(aU K).length+2<=f)(hb:Bd S ((aU K).length+2+m)):
  ∃parts keys e S1,bU (bj room d f) S (aT (h+1) (bG K ss)) depth=some ((parts,keys,e),S1)∧Er room d 0 S (aU K) S1 e∧(e=0->QZ room d S (h+1) (bG K ss) parts keys S1):=by
 obtain⟨R,hk,hz⟩:=ho;have R:Rw room d S h K ss:=R;have hk:∀j,KP K ss j:=hk;have hz:bN ss<=257:=hz;unfold bU;by_cases h0:K=[]
 ·subst h0;have hs:ss=[]:=by
   rcases R.ln with e| ⟨_,e⟩
   ·simp at e
   ·exact e
  subst hs;exact⟨[],[],0,S,by simp[bR],fun hc=>absurd rfl hc,fun _=>.inl ⟨rfl,rfl,rfl,rfl,rfl,rfl⟩⟩
 ·have hl:ss.length+1=K.length:=by
   rcases R.ln with e| ⟨e,_⟩
   ·exact e
   ·exact absurd e h0
  have hrt:=iM hr R.sd K ss hl R.us R.od;rw[if_neg (by simp[bR,h0]),if_neg (by rw[R.sm hr];simp),if_neg (by rw[hrt];simp)];by_cases hfi:cA (aT (h+1) (bG K ss))=true
  ·rw[if_pos hfi];refine⟨_,_,0,_,rfl,fun hc=>absurd rfl hc,fun _=>.inr (.inl ⟨rfl,rfl,rfl,?_,?_,hfi⟩)⟩
   ·rw[rS];exact⟨hl,hk,R.wl⟩
   ·unfold cA at hfi;rw[Bool.and_eq_true,decide_eq_true_eq]at hfi;exact hfi.2
  ·rw[if_neg hfi];have hbig:240<4+bN ss:=by
    by_cases hc:4+bN ss<=240
    ·exfalso;apply hfi;unfold cA;rw[hrt,Bool.true_and];exact decide_eq_true hc
    ·omega
   have Qa:∀s∈ss,1<=s.size∧s.size<=16:=fun s hs=>l7 ((cX (n:=aT (h+1) (bG K ss)) rfl).1 hrt).2.2.2.2 hs;have hn:12<=ss.length:=by
    have:=tO (l:=ss) (b:=16) (fun s hs=>(Qa s hs).2);omega
   obtain⟨q,hq⟩:∃q,q=K.length/2:=⟨_,rfl⟩;obtain⟨k,sb,r3,l3⟩:=dY (l:=ss.drop (q-1)) (n:=ss.length-q) (by rw[List.length_drop];omega);have hss:ss=ss.take (q-1)++k::sb:=by rw[<-r3,List.take_append_drop]
   have hK:K=K.take q++K.drop q:=(List.take_append_drop q K).symm;have lA:(K.take q).length=q:=by rw[List.length_take];omega
   have lB:(K.drop q).length=K.length-q:=List.length_drop ..;have la:(ss.take (q-1)).length=q-1:=by rw[List.length_take];omega
   have hM:ss[q-1]! =k:=by
    conv=>lhs;rw[hss]
    rw[getElem!_pos _ _ (by simp;omega),List.getElem_append_right (by omega)];simp[la]
   have hD:ss.drop q=sb:=by
    have:=congrArg (List.drop 1) r3;rw[List.drop_drop,show q-1+1=q by omega]at this;simpa using this
   have hen:uT (aT (h+1) (bG K ss))=true:=by
    unfold uT;rw[hrt,Bool.true_and,Bool.or_eq_true];refine .inr (decide_eq_true ?_);rw[bR];simp;omega
   have hsp:Gl (aT (h+1) (bG K ss))=q:=by rw[bR];simp[Gl,hq]
   have eA:sA (aT (h+1) (bG K ss))=aT (h+1) (bG (K.take q) (ss.take (q-1))):=by
    unfold sA;rw[if_pos hen];unfold U0;rw[hsp];simp[bR,List.map_take]
   have eB:sB (aT (h+1) (bG K ss))=aT (h+1) (bG (K.drop q) sb):=by
    unfold sB;rw[if_pos hen];unfold V5;rw[hsp];simp[bR,List.map_drop,hD]
   have eM:sM (aT (h+1) (bG K ss))=k:=by
    unfold sM;rw[if_pos hen];have:V6 (aT (h+1) (bG K ss))=ss[Gl (aT (h+1) (bG K ss))-1]! :=rfl;rw[this,hsp];exact hM
   rw[eA,eB,eM];generalize K.take q=A at*;generalize K.drop q=B at*;generalize ss.take (q-1)=sa at*;subst hss hK;simp only[List.length_append,List.length_cons]at*;have Xw:sb.length+1=B.length:=by omega
   obtain⟨RA,RB,eF⟩:=R.part (by omega) Xw;have aal:bN (sa++k::sb)=bN sa+(5+k.size+bN sb):=by rw[dA,bN]
   have z1:=Cp (l:=sa) (fun s hs=>(Qa s (by simp[hs])).1);have z2:=Cp (l:=sb) (fun s hs=>(Qa s (by simp[hs])).1);have z3:=(Qa k (by simp)).1;have Xx:(aU (A++B)).length=(aU A).length+(aU B).length:=by rw[a8,List.length_append]
   have e0:((aT (h+1) (bG A sa)).ks.length:Int)=(A.length:Int):=by rw[bR];simp
   obtain⟨n,e,S1,t1,t2,t3⟩:=gH (m:=m) hr HJ hd f S A sa (A.length-1) A.length RA (fun j hj=>by
     have:=KP.ahead (R':=[]) (t':=[]) (hk j) (A:=A) (s:=sa) (by omega) (by omega)
     simpa using this) (fun j hj=>by
     rw[nO]
     refine⟨fun a b k h1=>?_,fun i a b k e1 e2=>by omega⟩
     rw[List.getElem?_eq_none (by omega)]at h1
     cases h1) (by omega) (hb.mono (by omega))
   have t1':bj room d f S (aT (h+1) (bG A sa)) depth (((aT (h+1) (bG A sa)).ks.length:Int)-1) ((aT (h+1) (bG A sa)).ks.length:Int)=some ((n,e),S1):=by
    rw[e0];unfold bj;rw[show max ((A.length:Int)-1) 0=((A.length-1:Nat):Int) by omega];exact t1
   rw[t1'];simp only;by_cases he:e=0
   ·subst he;obtain⟨K',ss',rfl,R2,k2,F2,sf,se,sz,hne,hlp⟩:=t3 rfl;have Ep:=R.nd;rw[a8]at Ep;have E:=F2.ext (Y:=aU B) RB.us Ep;have lk:ss'.length+1=K'.length:=by
     rcases R2.ln with e| ⟨e,_⟩
     ·exact e
     ·have:=hne e;rw[this]at lA;simp at lA;omega
    have fA:cA (aT (h+1) (bG K' ss'))=true:=by
     unfold cA;rw[iM hr R2.sd K' ss' lk R2.us R2.od,Bool.true_and];exact decide_eq_true (show 4+bN ss'<=240 by omega)
    have fB:cA (aT (h+1) (bG B sb))=true:=by
     unfold cA;rw[iM hr RB.sd B sb Xw RB.us RB.od,Bool.true_and];exact decide_eq_true (show 4+bN sb<=240 by omega)
    rw[if_neg (by simp),fA,fB,if_pos (by simp)];refine⟨_,_,0,S1,rfl,fun hc=>absurd rfl hc,fun _=>.inr (.inr ⟨bG K' ss',bG B sb,k,rfl,rfl,?_,?_,?_,?_,fA,fB,?_,?_,?_,?_,?_⟩)⟩
    ·rw[rS];exact⟨lk,k2,R2.wl⟩
    ·rw[rS];refine⟨Xw,fun j=>?_,RB.wl⟩;by_cases hj:j=0
     ·subst hj;refine KP.same (hk A.length) ?_ ?_ ?_ (fun _ j' e=>by omega)
      ·rw[List.getElem?_append_right (by omega)];simp
      ·rw[List.getElem?_append_right (by omega)];simp
      ·rw[show A.length=sa.length+1 by omega,List.getElem?_append_right (by omega)];simp
     ·have:=KP.behind (L':=[]) (t':=[]) (L:=A) (t:=sa++[k]) (B:=B) (sB:=sb) (b:=j) (by simpa using hk (A.length+j)) (by omega) (.inl (by simp;omega)) (.inl rfl);simpa using this
    ·show 4+bN ss'<=240;omega
    ·show 4+bN sb<=240;omega
    ·intro x hx;rcases List.mem_append.1 hx with hx|hx
     ·exact R2.is x hx
     ·exact F2.MQ RB.is RB.us (fun p hp hc=>(List.nodup_append.1 Ep).2.2 p hc p hp rfl) x hx
    ·show Fm room d 0 S (aU (A++B)) S1 (aU K'++aU B);rw[a8];exact E
    ·show OI (dh (A++B) (sa++k::sb)) (dh K' ss'++(true,k)::dh B sb);rw[eF];exact OI.sub (List.Sublist.append sf (List.Sublist.refl _))
    ·show bM (A++B)=bM K'++bM B;rw[cf,se]
    ·show(aU K'++aU B).length<=(aU (A++B)).length;rw[Xx,List.length_append];omega
   ·rw[if_pos he];refine⟨_,_,e,_,rfl,?_,fun hc=>absurd hc he⟩;have Ep:=R.nd;rw[a8]at Ep⊢;exact t2.ext RB.us Ep
end
end P
namespace P
open N
section
variable {room:Nat}{d:Dk}{S S2:Dr}{h:Nat}{A B M:List (KT h)}{sA sB fw:List ByteArray}{w:KT h}
theorem Q0 (hr:room<=16384)(HJ:∀h,ll room d h)(t:BT h)(ho:Ob room d S h t){depth:Int}(hd:depth+h<24){f m:Nat}(hf:3*(bh h t).length+2<=f)(hb:Bd S ((bh h t).length+2+m)):
  ∃parts keys e S1,bU (bj room d f) S (aT h t) depth=some ((parts,keys,e),S1)∧Er room d 0 S (bh h t) S1 e∧(e=0->QZ room d S h t parts keys S1):=by
 cases h with
 |zero=>
  obtain⟨parts,keys,h1,h2⟩:=IG hr t ho depth (f:=f) (by omega);exact⟨parts,keys,0,S,h1,fun hc=>absurd rfl hc,fun _=>h2⟩
 |succ h=>
  obtain⟨K,ss,rfl⟩:=fq t;exact Eo hr (HJ h) K ss ho (by omega) hf hb
structure Ctx (room:Nat)(d:Dk)(S:Dr)(h:Nat)(A:List (KT h))(sA:List ByteArray)(B:List (KT h))(sB:List ByteArray):Prop where
 hA:A.length=sA.length
 hB:B.length=sB.length
 wl:∀u∈A++B,Wl h u.2∧bQ h u.2<=240
 us:∀q∈aU A++aU B,Us S q
 is:oy S d (gV A++gV B)
 vl:∀x∈bM A++bM B,x.2.size<=40
theorem Ctx.row (C:Ctx room d S h A sA B sB){c:Nat}{X:List Int}(F:Fm room d c S X S2 (aU M))(nd:(X++(aU A++aU B)).Nodup)(is:oy S2 d (gV M))(wl:∀u∈M,Wl h u.2∧bQ h u.2<=240)(od:bP (dh (A++(M++B)) fw))(vl:∀x∈bM M,x.2.size<=40)(sz:bN fw<=1000)(ln:fw.length+1=(A++(M++B)).length∨(A++(M++B)=[]∧fw=[])):
  Rw room d S2 h (A++(M++B)) fw∧Fm room d c S (X++(aU A++aU B)) S2 (aU (A++(M++B))):=by
 have q:(aU M++(aU A++aU B)).Perm (aU (A++(M++B))):=by
  rw[a8,a8,<-List.append_assoc,<-List.append_assoc];exact List.Perm.append_right _ List.perm_append_comm
 have E:=(F.ext C.us nd).perm (List.Perm.refl _) q;have hne:∀q∈aU A++aU B,q∉X:=fun q hq hc=>(List.nodup_append.1 nd).2.2 q hc q hq rfl;have Uj:oy S2 d (gV A++gV B):=F.MQ C.is (by rw[List.map_append];exact C.us) (by rw[List.map_append];exact hne);refine⟨⟨F.ok,fun u hu=>?_,E.us,E.nd,fun x hx=>?_,od,fun x hx=>?_,sz,ln⟩,E⟩
 ·simp only[List.mem_append]at hu;rcases hu with hu|hu|hu
  ·exact C.wl u (by simp[hu])
  ·exact wl u hu
  ·exact C.wl u (by simp[hu])
 ·rw[cT,cT]at hx;simp only[List.mem_append]at hx;rcases hx with hx|hx|hx
  ·exact Uj x (by simp[hx])
  ·exact is x hx
  ·exact Uj x (by simp[hx])
 ·rw[cf,cf]at hx;simp only[List.mem_append]at hx;rcases hx with hx|hx|hx
  ·exact C.vl x (by simp[hx])
  ·exact vl x hx
  ·exact C.vl x (by simp[hx])
theorem Q2 (hA:A.length=sA.length)(hk:∀j,KP (A++w::B) (sA++sB) j)(R':List (KT h))(t':List ByteArray){j:Nat}(hj:j+1<A.length):KP (A++R') (sA.take (A.length-1)++t') j:=by
 have e:sA++sB=sA.take (A.length-1)++(sA.drop (A.length-1)++sB):=by rw[<-List.append_assoc,List.take_append_drop]
 have:=hk j;rw[e]at this;exact this.ahead hj (by rw[List.length_take];omega)
theorem Q3 (hA:A.length=sA.length){y:KT h}{B':List (KT h)}{s1:ByteArray}{lh:List ByteArray}(hk:∀j,KP (A++w::y::B') (sA++s1::lh) j)(L':List (KT h))(t':List ByteArray)(hl:t'.length=L'.length){b:Nat}(hb:1<=b):KP (L'++y::B') (t'++lh) (L'.length+b):=by
 have:=hk ((A++[w]).length+b);rw[show A++w::y::B'=(A++[w])++y::B' by simp,show sA++s1::lh=(sA++[s1])++lh by simp]at this;exact this.behind hb (.inl (by simp;omega)) (.inl hl)
theorem M7 {K:List (KT h)}{ss:List ByteArray}{j:Nat}(hj:K.length<=j):KP K ss j:=by
 rw[nO];refine⟨fun a b k h1=>?_,fun i a b k e1 e2=>by omega⟩;rw[List.getElem?_eq_none hj]at h1;cases h1
theorem vK (hA:A.length=sA.length)(hB:B.length=sB.length)(ks:List Int)(keys:List ByteArray)(hl:(keys.length:Int)=max ((ks.length:Int)-1) 0):
  fQ (aT (h+1) (bG (A++w::B) (sA++sB))) (A.length:Int) ((A.length:Int)+1) ks keys=⟨false,[],A.map Prod.fst++ks++B.map Prod.fst,im (sA++sB) (tQ A.length ks) (tR A.length (A.length+1) ks) keys⟩:=by
 have e1:((A.length:Int)+1).toNat=A.length+1:=by omega
 have e2:((A.length:Int)).toNat=A.length:=by omega
 rw[bR,fQ,if_pos]
 ·rw[e1,e2];have f1:im ((A++w::B).map Prod.fst) A.length (A.length+1) ks=A.map Prod.fst++ks++B.map Prod.fst:=by
   unfold im;rw[List.map_append,List.take_append_of_le_length (by simp),List.drop_append];simp[List.take_of_length_le]
  rw[f1]
 ·simp only[swB,Bool.and_eq_true,decide_eq_true_eq,Bool.not_eq_true',List.length_map,List.length_append,List.length_cons];exact⟨by omega,by omega,by omega,hl,trivial⟩
theorem Q7 (hA:A.length=sA.length)(p:Int):im (sA++sB) (tQ A.length [p]) (tR A.length (A.length+1) [p]) []=sA++sB:=by
 simp[im,tQ,tR]
theorem Q8 (hA:A.length=sA.length)(p q:Int)(k:ByteArray):im (sA++sB) (tQ A.length [p,q]) (tR A.length (A.length+1) [p,q]) [k]=sA++k::sB:=by
 simp[im,tQ,tR,hA]
theorem Q9 (hA:A.length=sA.length)(h0:A≠[]):im (sA++sB) (tQ A.length []) (tR A.length (A.length+1) []) []=sA.take (A.length-1)++sB:=by
 have h1:0<A.length:=List.length_pos_iff.2 h0;have e1:tQ A.length []=A.length-1:=by simp[tQ]
 have e2:tR A.length (A.length+1) []=A.length:=by unfold tR;rw[if_neg (by simp),if_pos h1];omega
 rw[e1,e2,im,List.append_nil,List.take_append_of_le_length (by omega),hA,List.drop_left]
theorem M8:im ([]++sB) (tQ 0 []) (tR 0 (0+1) []) []=sB.drop 1:=by
 simp[im,tQ,tR]
end
end P
namespace P
open N
def pX (p:Int):List Int:=if p=0 then []else [p]
def P0 (S:Dr)(p:Int):Prop:=p=0∨Us S p
section
variable {room:Nat}{d:Dk}{S S2:Dr}{h:Nat}{A B M:List (KT h)}{sA sB fw:List ByteArray}{w:KT h}
theorem Ul (ok:Sd room S):S.may 0=false:=by
 cases hm:S.may 0 with
 |false=>rfl
 |true=>
  have:=ok.x.fs 0 ((dI S 0).1 hm).1;omega
theorem yt {p:Int}(hp:P0 S p):∀q∈pX p,Us S q:=fun q hq=>by
 unfold pX at hq;split at hq
 ·cases hq
 ·rename_i h0
  rw[List.mem_singleton.1 hq];rcases hp with e|e
  ·exact absurd e h0
  ·exact e
theorem vM (ok:Sd room S){p:Int}(hp:P0 S p){n:Nd}(hf:cA n=true){m:Nat}(hb:Bd S m):
  ∃q e S',S.put room p n=some ((q,e),S')∧Er room d 0 S (pX p) S' e∧(e=0->Fm room d 2 S (pX p) S' [q]∧S'.vw d q=(n,0)):=by
 obtain⟨q,e,S',h1,h2,h3⟩:=Az (d:=d) ok (id:=p) (X:=pX p) (by
  unfold pX
  by_cases h0:p=0
  ·subst h0
   exact .inl ⟨by simp,Ul ok⟩
  ·rw[if_neg h0]
   rcases hp with e|e
   ·exact absurd e h0
   ·exact .inr ⟨rfl,e⟩) hf hb
 exact⟨q,e,S',h1,h2,fun he=>⟨(h3 he).1,(h3 he).2.1⟩⟩
theorem M9 (ok:Sd room S){p:Int}(hp:P0 S p):Fm room d 0 S (pX p) (S.drop p) []:=by
 unfold pX;by_cases h0:p=0
 ·subst h0;have e:S.drop 0=S:=by unfold Dr.drop;rw[if_neg (by rw[Ul ok];simp)]
  rw[e];simp only[if_true];exact Fm.refl ok (fun _ hc=>by cases hc) List.nodup_nil
 ·rw[if_neg h0];rcases hp with e|e
  ·exact absurd e h0
  ·exact pK ok e
theorem Ob.facts {t:BT h}(ho:Ob room d S h t):Sd room S∧(∀p∈bh h t,Us S p)∧(bh h t).Nodup∧oy S d (k8 h t)∧(∀x∈dR h t,x.2.size<=40):=by
 cases h with
 |zero=>exact⟨ho.1,(fun _ hc=>by cases hc),List.nodup_nil,(fun _ hc=>by cases hc),ho.2.2.1⟩
 |succ h=>exact⟨ho.1.sd,ho.1.us,ho.1.nd,ho.1.is,ho.1.vl⟩
structure Zc (room:Nat)(d:Dk)(c:Nat)(S:Dr)(X:List Int)(F:List It)(E:List En)(z:Nat)(n:Nd)(S':Dr)(h:Nat)(K':List (KT h))(ss':List ByteArray):Prop where
 n:n=aT (h+1) (bG K' ss')
 rw:Rw room d S' h K' ss'
 kp:∀j,KP K' ss' j
 fm:Fm room d c S X S' (aU K')
 oi:OI F (dh K' ss')
 en:bM K'=E
 sz:bN ss'<=z
 ln:(aU K').length<=X.length+2
theorem iN (hr:room<=16384)(HJ:ll room d h){depth:Int}(hd:depth+1+h<24){f m c:Nat}{K:List (KT h)}{ss:List ByteArray}(R:Rw room d S2 h K ss){i tt:Int}{a b:Nat}(ha:max i 0=(a:Int))(hb':tt=(b:Int))
  (k1:∀j,j<a->KP K ss j)(k2:∀j,b<=j->KP K ss j){X:List Int}(F:Fm room d c S X S2 (aU K))(hc:c<=4){G:List It}(oi:OI G (dh K ss)){E:List En}(en:bM K=E){z:Nat}(hz:bN ss<=z)(hl:(aU K).length<=X.length+2)(hab:b<=a+4)(hf:3*(X.length+2)+5<=f)(hb:Bd S (X.length+6+m)):
  ∃n e S',bj room d f S2 (aT (h+1) (bG K ss)) depth i tt=some ((n,e),S')∧Er room d 4 S X S' e∧(e=0->∃K' ss',Zc room d 4 S X G E z n S' h K' ss'):=by
 obtain⟨n,e,S',t1,t2,t3⟩:=gH (m:=m) hr HJ hd f S2 K ss a b R k1 k2 (by omega) (F.bd hb (by omega));refine⟨n,e,S',?_,(F.er t2).mono (by omega),fun he=>?_⟩
 ·unfold bj;rw[ha,hb'];exact t1
 ·obtain⟨K',ss',r1,r2,r3,r4,r5,r6,r7,r8,r9⟩:=t3 he;exact⟨K',ss',r1,r2,r3,(F.trans r4).mono (by omega),oi.trans (OI.sub r5),r6.trans en,Nat.le_trans r7 hz,Nat.le_trans r9 hl⟩
theorem AD (hr:room<=16384)(ok:Sd room S)(K:List (KT h))(ss:List ByteArray)(hl:K.length<=ss.length+1)(hs:bN ss<=1000)(us:∀u∈K,P0 S u.1):bS (aT (h+1) (bG K ss))=true:=by
 have h1:5*ss.length<=bN ss:=jh;rw[bR];simp only[bS,Bool.and_eq_true,decide_eq_true_eq,cx,List.all_eq_true,List.length_nil,List.length_map];refine⟨⟨⟨⟨⟨?_,?_⟩,?_⟩,?_⟩,?_⟩,fun k hk=>?_⟩
 iterate 5 (first|omega|rfl)
 obtain⟨u,hu,rfl⟩:=List.mem_map.1 hk;rcases us u hu with e|hp
 ·omega
 ·have h1:=hp.lo;have h2:=hp.hi;have h3:=ok.x.pr;omega
theorem ui (C:Ctx room d S h A sA B sB)(hp:P0 S w.1)(t:BT h)(ho:Ob room d S h t)(hnd:(pX w.1++bh h t++(aU A++aU B)).Nodup)(hod:bP (dh A sA++(cd h t++jw (B.map fun u=>cd h u.2) sB)))(hsz:bN (sA++sB)<=1000)(wt:Wl h t)(zt:bQ h t<=240){q:Int}(F:Fm room d 2 S (pX w.1) S2 [q])(hv:S2.vw d q=(aT h t,0)):
  Rw room d S2 h (A++([(q,t)]++B)) (sA++sB)∧Fm room d 2 S (pX w.1++bh h t++(aU A++aU B)) S2 (aU (A++([(q,t)]++B))):=by
 obtain⟨sd,us,nd,is,vl⟩:=ho.facts;obtain⟨n1,n2,n3⟩:=List.nodup_append.1 hnd;obtain⟨n4,n5,n6⟩:=List.nodup_append.1 n1;have F2:Fm room d 2 S (pX w.1++bh h t) S2 (aU [(q,t)]):=by
  have:=F.ext us n1;have e:aU [(q,t)]=[q]++bh h t:=by rw[bA,bV];simp[aU,gV]
  rw[e];exact this
 refine C.row F2 hnd ?_ (fun u hu=>by rw[List.mem_singleton.1 hu];exact⟨wt,zt⟩) ?_ (fun x hx=>vl x (by simpa[bM]using hx)) hsz (.inl (by have:=C.hA;have:=C.hB;simp;omega))
 ·intro x hx;have hx':x∈nK (q,t):=by simpa[gV]using hx
  rcases List.mem_cons.1 hx' with rfl|hx'
  ·exact hv
  ·exact F.MQ is us (fun p hp hc=>n6 p hc p hp rfl) x hx'
 ·show bP (dh (A++(q,t)::B) (sA++sB));rw[eQ C.hA];exact hod
end
end P
namespace P
open N
section
variable {room:Nat}{d:Dk}{S S1 S2 S3:Dr}{h:Nat}{A B M:List (KT h)}{sA sB fw:List ByteArray}{w:KT h}
theorem Es (C:Ctx room d S h A sA B sB)(hp:P0 S w.1)(t c1 c2:BT h){k:ByteArray}(hnd:(pX w.1++bh h t++(aU A++aU B)).Nodup)(hod:bP (dh A sA++((cd h c1++(true,k)::cd h c2)++jw (B.map fun u=>cd h u.2) sB)))(hsz:bN (sA++k::sB)<=1000)
    (w1:Wl h c1∧bQ h c1<=240)(w2:Wl h c2∧bQ h c2<=240)(vl:∀x∈dR h c1++dR h c2,x.2.size<=40)(is:oy S1 d (k8 h c1++k8 h c2))(F0:Fm room d 0 S (bh h t) S1 (bh h c1++bh h c2)){q1 q2:Int}(F1:Fm room d 2 S1 (pX w.1) S2 [q1])(v1:S2.vw d q1=(aT h c1,0))(F2:Fm room d 2 S2 [] S3 [q2])(v2:S3.vw d q2=(aT h c2,0)):
    Rw room d S3 h (A++([(q1,c1),(q2,c2)]++B)) (sA++k::sB)∧Fm room d 4 S (pX w.1++bh h t++(aU A++aU B)) S3 (aU (A++([(q1,c1),(q2,c2)]++B))):=by
  obtain⟨n1,n2,n3⟩:=List.nodup_append.1 hnd;have G0:=F0.ext (Y:=pX w.1) (yt hp) (List.perm_append_comm.nodup_iff.1 n1);have MS:(pX w.1++(bh h c1++bh h c2)).Nodup:=List.perm_append_comm.nodup_iff.1 G0.nd;have G1:=F1.ext (Y:=bh h c1++bh h c2) F0.us MS;have G2:=F2.ext (Y:=[q1]++(bh h c1++bh h c2)) G1.us G1.nd;have eM:aU [(q1,c1),(q2,c2)]=q1::(bh h c1++q2::bh h c2):=by rw[bA,bA,bV,bV];simp[aU,gV]
  have pM:([q2]++([q1]++(bh h c1++bh h c2))).Perm (aU [(q1,c1),(q2,c2)]):=by
    rw[eM];show(q2::q1::(bh h c1++bh h c2)).Perm (q1::(bh h c1++q2::bh h c2));exact(List.Perm.swap q1 q2 _).trans (List.Perm.cons _ List.perm_middle.symm)
  have F:Fm room d 4 S (pX w.1++bh h t) S3 (aU [(q1,c1),(q2,c2)]):=
    (((G0.perm List.perm_append_comm List.perm_append_comm).trans G1).trans G2).perm (List.Perm.refl _) pM
  have i2:oy S2 d (k8 h c1++k8 h c2):=F1.MQ is (by rw[List.map_append];exact F0.us) (by
    rw[List.map_append]
    exact fun p hp hc=>(List.nodup_append.1 MS).2.2 p hc p hp rfl)
  have i3:oy S3 d (k8 h c1++k8 h c2):=F2.MQ i2 (by rw[List.map_append];exact fun p hp=>G1.us p (by simp only[List.mem_append]at hp⊢;exact .inr hp)) (fun p hp hc=>by cases hc);have hq:S3.vw d q1=(aT h c1,0):=by
    rw[(F2.keep q1 (F1.us q1 (by simp)) (by simp)).2.2.1];exact v1
  refine C.row F hnd ?_ (fun u hu=>?_) ?_ (fun x hx=>vl x (by simpa[bM]using hx)) hsz (.inl (by have:=C.hA;have:=C.hB;simp;omega))
  · intro x hx;have hx':x∈nK (q1,c1)++nK (q2,c2):=by simpa[gV]using hx
    rcases List.mem_append.1 hx' with hx'|hx'
    · rcases List.mem_cons.1 hx' with rfl|hx'
      · exact hq
      · exact i3 x (List.mem_append_left _ hx')
    · rcases List.mem_cons.1 hx' with rfl|hx'
      · exact v2
      · exact i3 x (List.mem_append_right _ hx')
  · rcases List.mem_cons.1 hu with rfl|hu
    · exact w1
    · rw[List.mem_singleton.1 hu];exact w2
  · show bP (dh (A++(q1,c1)::(q2,c2)::B) (sA++k::sB));rw[pJ C.hA];simpa using hod
theorem Cq (hA:A.length=sA.length)(hB:B.length=sB.length):(A≠[]->(dh (A++B) (sA.take (A.length-1)++sB)).Sublist (dh A sA++jw (B.map fun u=>cd h u.2) sB))∧(A=[]->(dh B (sB.drop 1)).Sublist (jw (B.map fun u=>cd h u.2) sB)):=by
 constructor
 ·intro h0;obtain⟨A0,x,rfl,hl⟩:=vJ (l:=A) (n:=A.length-1) (by have:=List.length_pos_iff.2 h0;omega);obtain⟨s0,s,rfl,hl2⟩:=vJ (l:=sA) (n:=A0.length) (by simp at hA;omega);have e1:(s0++[s]).take ((A0++[x]).length-1)=s0:=by
   rw[show(A0++[x]).length-1=s0.length by simp;omega];simp
  rw[e1,List.append_assoc,List.singleton_append,eQ (by omega),eQ (sB:=[s]) (by omega)];have e2:jw (List.map (fun u:KT h=>cd h u.2) []) [s]=[(true,s)]:=by simp[jw,iK]
  rw[e2];simp only[List.append_assoc];exact List.Sublist.append (List.Sublist.refl _) (List.Sublist.append (List.Sublist.refl _) (List.sublist_append_right _ _))
 ·intro h0;cases B with
  |nil=>
   cases sB with
   |nil=>exact List.Sublist.refl _
   |cons s sB=>simp at hB
  |cons y B=>
   cases sB with
   |nil=>simp at hB
   |cons s sB=>
    rw[List.map_cons,iL,List.drop_one,List.tail_cons,dh,List.map_cons,pI];exact List.sublist_cons_self _ _
theorem rU (C:Ctx room d S h A sA B sB)(t:BT h)(hnd:(pX w.1++bh h t++(aU A++aU B)).Nodup)(Vt:bh h t=[])(hod:bP (dh A sA++jw (B.map fun u=>cd h u.2) sB))(hsz:bN (sA++sB)<=1000)(F:Fm room d 0 S (pX w.1) S2 [])(hs1:(A≠[]∧fw=sA.take (A.length-1)++sB)∨(A=[]∧fw=sB.drop 1)):
  Rw room d S2 h (A++([]++B)) fw∧Fm room d 0 S (pX w.1++bh h t++(aU A++aU B)) S2 (aU (A++([]++B)))∧(dh (A++B) fw).Sublist (dh A sA++jw (B.map fun u=>cd h u.2) sB)∧bN fw<=bN (sA++sB):=by
 have hA:=C.hA;have hB:=C.hB;have sf:(dh (A++B) fw).Sublist (dh A sA++jw (B.map fun u=>cd h u.2) sB):=by
  rcases hs1 with⟨h0,rfl⟩| ⟨rfl,rfl⟩
  ·exact(Cq hA hB).1 h0
  ·have e:dh ([]:List (KT h)) sA=[]:=by cases sA<;>rfl
   rw[e];exact(Cq (A:=[]) (sA:=sA) hA hB).2 rfl
 have hz:bN fw<=bN (sA++sB):=by
  rcases hs1 with⟨h0,rfl⟩| ⟨rfl,rfl⟩
  ·rw[dA,dA];have:=og sA (A.length-1);omega
  ·have e1:=dA (sB.take 1) (sB.drop 1);rw[List.take_append_drop]at e1;rw[dA];omega
 rw[Vt,List.append_nil]at hnd⊢;have:=C.row (M:=[]) (fw:=fw) F hnd (fun x hx=>by cases hx) (fun u hu=>by cases hu) (hod.sub sf) (fun x hx=>by cases hx) (Nat.le_trans hz hsz) (by
  rcases hs1 with⟨h0,rfl⟩| ⟨rfl,rfl⟩
  ·have:=List.length_pos_iff.2 h0
   refine .inl ?_
   simp
   omega
  ·by_cases hb:B=[]
   ·subst hb
    refine .inr ⟨rfl,?_⟩
    have:sB=[]:=List.length_eq_zero_iff.1 (by simpa using hB.symm)
    rw[this];rfl
   ·have:=List.length_pos_iff.2 hb
    refine .inl ?_
    simp
    omega)
 exact⟨this.1,this.2,sf,hz⟩
end
end P
namespace P
open N
section
variable {room:Nat}{d:Dk}{S S1 S2 S3:Dr}{h:Nat}{A B M:List (KT h)}{sA sB fw:List ByteArray}{w:KT h}
theorem rV (hA:A.length=sA.length)(hk:∀j,KP (A++w::B) (sA++sB) j)(R':List (KT h)){ss' t':List ByteArray}(e:ss'=sA.take (A.length-1)++t'):∀j,j<A.length-1->KP (A++R') ss' j:=fun j hj=>by
 rw[e];exact Q2 hA hk R' t' (by omega)
theorem pN (hA:A.length=sA.length)(hB:B.length=sB.length)(hk:∀j,KP (A++w::B) (sA++sB) j)(L':List (KT h)){ss' t':List ByteArray}(e:B≠[]->ss'=t'++sB.drop 1∧t'.length=L'.length):∀j,L'.length+1<=j->KP (L'++B) ss' j:=fun j hj=>by
 by_cases h0:B=[]
 ·subst h0;exact M7 (by simp;omega)
 ·obtain⟨e1,e2⟩:=e h0;obtain⟨y,B',rfl,_⟩:=dY (l:=B) (n:=B.length-1) (by have:=List.length_pos_iff.2 h0;omega);obtain⟨s1,lh,rfl,_⟩:=dY (l:=sB) (n:=B'.length) (by simpa using hB.symm);have:=Q3 (w:=w) hA hk L' t' e2 (b:=j-L'.length) (by omega);rw[e1,List.drop_one,List.tail_cons]
  rwa [show L'.length+(j-L'.length)=j by omega]at this
theorem uj (hA:A.length=sA.length)(x:List ByteArray):sA++x=sA.take (A.length-1)++(sA.drop (A.length-1)++x):=by rw[<-List.append_assoc,List.take_append_drop]
theorem gJ (hB:B.length=sB.length)(h0:B≠[])(x:List ByteArray):x++sB=(x++sB.take 1)++sB.drop 1∧(sB.take 1).length=1:=by
 have:=List.length_pos_iff.2 h0;exact⟨by rw[List.append_assoc,List.take_append_drop],by rw[List.length_take];omega⟩
theorem II (hr:room<=16384)(HJ:∀h,ll room d h){depth:Int}(hd:depth+1+h<24){f m:Nat}(C:Ctx room d S h A sA B sB)(hp:P0 S w.1)(t:BT h)(ho:Ob room d S h t)(hnd:(pX w.1++bh h t++(aU A++aU B)).Nodup)(hk:∀j,KP (A++w::B) (sA++sB) j)(hod:bP (dh A sA++(cd h t++jw (B.map fun u=>cd h u.2) sB)))(hsz:bN (sA++sB)<=240)(hsw:bS (aT h w.2)=true)
    (hf:3*((pX w.1++bh h t++(aU A++aU B)).length+2)+5<=f)(hb:Bd S ((pX w.1++bh h t++(aU A++aU B)).length+6+m)):
    ∃n e S',dX (bj room d f) room S (aT (h+1) (bG (A++w::B) (sA++sB))) (A.length:Int) depth (aT h w.2) (aT h t)=some ((n,e),S')∧Er room d 4 S (pX w.1++bh h t++(aU A++aU B)) S' e∧
      (e=0->∃K' ss',Zc room d 4 S (pX w.1++bh h t++(aU A++aU B)) (dh A sA++(cd h t++jw (B.map fun u=>cd h u.2) sB)) (bM A++(dR h t++bM B)) (bN (sA++sB)+21) n S' h K' ss'):=by
  obtain⟨sd,us,nd,is,vl⟩:=ho.facts;have hA:=C.hA;have hB:=C.hB;have hgd:(A.map Prod.fst++w.1::B.map Prod.fst).getD ((A.length:Int)).toNat 0=w.1:=by simp[List.getD_eq_getElem?_getD]
  have hgd':(aT (h+1) (bG (A++w::B) (sA++sB))).ks.getD ((A.length:Int)).toNat 0=w.1:=by
    rw[bR];simp[List.getD_eq_getElem?_getD]
  have hsm:bS (aT (h+1) (bG (A++w::B) (sA++sB)))=true:=AD hr sd _ _ (by simp;omega) (by omega) (fun u hu=>by
    simp only[List.mem_append,List.mem_cons]at hu
    rcases hu with hu|rfl|hu
    · exact .inr (C.us _ (List.mem_append_left _ (pL hu)))
    · exact hp
    · exact .inr (C.us _ (List.mem_append_right _ (pL hu))))
  have hlen:(aT (h+1) (bG (A++w::B) (sA++sB))).ks.length=A.length+B.length+1:=by rw[bR];simp;omega
  have hXl:(bh h t).length<=(pX w.1++bh h t++(aU A++aU B)).length:=by simp only[List.length_append];omega
  have MS:=(List.nodup_append.1 hnd).1;have qT:(bh h t++pX w.1).Perm (pX w.1++bh h t):=List.perm_append_comm;obtain⟨parts,keys,e,S1,t1,t2,t3⟩:=Q0 (m:=m) hr HJ t ho (depth:=depth+1) (f:=f) (by omega) (by omega) (hb.mono (by omega));unfold dX;rw[if_neg (by rw[hb.ok,hsm,hsw,hlen];simp;omega),t1,hgd'];simp only;by_cases he:e=0
  · subst he;rw[if_neg (by simp)];rcases t3 rfl with⟨rfl,rfl,rfl,Vt,hen,hfl⟩| ⟨rfl,rfl,rfl,wt,zt,fi⟩| ⟨c1,c2,k,rfl,rfl,wc1,wc2,z1,z2,f1,f2,ic,F0,oi,en,ln⟩
    ·
      have F:=M9 (d:=d) sd hp;rw[if_pos rfl];simp only[eG];rw[if_neg (by simp),if_neg (by simp),vK hA hB [] [] (by first| (simp;done)| (simp;omega))];rw[hfl,List.nil_append]at hod⊢;rw[hen,List.nil_append];by_cases h0:A=[]
      · subst h0;have hsA:sA=[]:=List.length_eq_zero_iff.1 (by simpa using hA.symm);subst hsA;obtain⟨R,E,sf,hz⟩:=rU C t hnd Vt hod (by omega) F (.inr ⟨rfl,rfl⟩);have en0:(⟨false,[],List.map Prod.fst ([]:List (KT h))++[]++B.map Prod.fst,im ([]++sB) (tQ ([]:List (KT h)).length []) (tR ([]:List (KT h)).length (([]:List (KT h)).length+1) []) []⟩:Nd)=aT (h+1) (bG ([]++([]++B)) (sB.drop 1)):=by
          rw[bR];have:=M8 (sB:=sB);simp only[List.length_nil]at this⊢;rw[this];rfl
        rw[en0];exact iN hr (HJ h) hd (m:=m) R (a:=0) (b:=1) (by first| (simp;done)| (simp;omega)) (by first| (simp;done)| (simp;omega)) (fun j hj=>by omega) (fun j hj=>pN (A:=[]) (sA:=[]) (w:=w) (t':=[]) rfl hB hk [] (fun _=>⟨rfl,rfl⟩) j (by simpa using hj)) E (by omega) (OI.sub sf) (by simp[bM]) (by omega) (by
          have:=E.Ay
          rw[a8,a8]
          simp only[List.length_append]at*
          simp[aU,gV]at*
          omega) (by omega) hf hb
      · have hpos:=List.length_pos_iff.2 h0;obtain⟨R,E,sf,hz⟩:=rU C t hnd Vt hod (by omega) F (.inl ⟨h0,rfl⟩);have en0:(⟨false,[],A.map Prod.fst++[]++B.map Prod.fst,im (sA++sB) (tQ A.length []) (tR A.length (A.length+1) []) []⟩:Nd)=aT (h+1) (bG (A++([]++B)) (sA.take (A.length-1)++sB)):=by
          rw[bR,Q9 hA h0];simp
        rw[en0];refine iN hr (HJ h) hd (m:=m) R (a:=A.length-1) (b:=A.length+1) (by omega) (by first| (simp;done)| (simp;omega)) ?_ ?_ E (by omega) (OI.sub sf) (by simp[bM]) (by omega) (by
          rw[a8,a8]
          simp only[List.length_append]
          simp[aU,gV]
          omega) (by omega) hf hb
        · exact rV hA hk _ rfl
        · exact pN hA hB hk A (t':=sA.take (A.length-1)++sB.take 1) (fun hb0=>⟨(gJ hB hb0 _).1,by rw[List.length_append,(gJ hB hb0 []).2,List.length_take];omega⟩)
    ·
      obtain⟨q,e2,S2,k1,k2,k3⟩:=vM (d:=d) sd hp fi hb;rw[if_neg (by simp)];simp only[eG,k1];by_cases he2:e2=0
      · subst he2;obtain⟨F,hv⟩:=k3 rfl;obtain⟨R,E⟩:=ui C hp t ho hnd hod (by omega) wt zt F hv;rw[if_neg (by simp)];simp only;rw[if_neg (by simp),List.nil_append,vK hA hB [q] [] (by first| (simp;done)| (simp;omega))];have en0:(⟨false,[],A.map Prod.fst++[q]++B.map Prod.fst,im (sA++sB) (tQ A.length [q]) (tR A.length (A.length+1) [q]) []⟩:Nd)=aT (h+1) (bG (A++([(q,t)]++B)) (sA++sB)):=by
          rw[bR,Q7 hA];simp
        rw[en0];have hpl:(aU (A++([(q,t)]++B))).length<=(pX w.1++bh h t++(aU A++aU B)).length+2:=by
          rw[a8,a8];simp only[List.length_append];simp[aU,gV,nK];omega
        have hen':bM (A++([(q,t)]++B))=bM A++(dR h t++bM B):=by simp[bM]
        have hoi:OI (dh A sA++(cd h t++jw (B.map fun u=>cd h u.2) sB)) (dh (A++([(q,t)]++B)) (sA++sB)):=by
          rw[List.singleton_append,eQ hA];exact OI.refl _
        by_cases hg:dM (aT h w.2)<=dM (aT h t)
        · rw[if_pos ⟨by simp,hg⟩];exact iN hr (HJ h) hd (m:=m) R (a:=A.length) (b:=A.length+1) (by omega) (by first| (simp;done)| (simp;omega)) (fun j hj=>(hk j).grow (c:=(q,t)) (by omega) hg) (fun j hj=>(hk j).grow (c:=(q,t)) (by omega) hg) E (by omega) hoi hen' (by omega) hpl (by omega) hf hb
        · rw[if_neg (fun hc=>hg hc.2)];refine iN hr (HJ h) hd (m:=m) R (a:=A.length-1) (b:=A.length+2) (by omega) (by first| (simp;done)| (simp;omega)) ?_ ?_ E (by omega) hoi hen' (by omega) hpl (by omega) hf hb
          · exact rV hA hk _ (uj hA _)
          · intro j hj;have:=pN (ss':=sA++sB) hA hB hk (A++[(q,t)]) (t':=sA++sB.take 1) (fun hb0=>⟨(gJ hB hb0 _).1,by rw[List.length_append,(gJ hB hb0 []).2];simp;omega⟩) j (by simp;omega);simpa using this
      · rw[if_pos he2];simp only;rw[if_pos he2];exact⟨_,_,_,rfl,((k2.ext us MS).ext C.us hnd).mono (by omega),fun h0=>absurd h0 he2⟩
    ·
      have G0:=((F0.ext (Y:=pX w.1) (yt hp) (qT.nodup_iff.2 MS)).perm qT List.perm_append_comm).ext C.us hnd;have hp1:P0 S1 w.1:=by
        rcases hp with e|e
        · exact .inl e
        · by_cases hz:w.1=0
          · exact .inl hz
          · refine .inr (F0.yq e (fun hc=>?_)).1;obtain⟨n1,_,_⟩:=List.nodup_append.1 hnd;exact(List.nodup_append.1 n1).2.2 w.1 (by simp[pX,hz]) w.1 hc rfl
      have Um:Bd S1 (m+4):=F0.bd hb (by simp only[List.length_append]at*;omega);obtain⟨q1,e1,S2,k1,k2,k3⟩:=vM (d:=d) F0.ok hp1 f1 Um;rw[if_neg (by simp)];simp only[eG,k1];by_cases he1:e1=0
      · subst he1;obtain⟨F1,v1⟩:=k3 rfl;rw[if_neg (by simp)];have Xy:Bd S2 (m+2):=F1.bd Um (by
          have:(pX w.1).length<=1:=by unfold pX;split<;>simp
          simp only[List.length_cons,List.length_nil]
          omega)
        obtain⟨q2,e2,S3,j1,j2,j3⟩:=vM (d:=d) (p:=0) F1.ok (.inl rfl) f2 Xy;simp only[j1];by_cases he2:e2=0
        · subst he2;obtain⟨F2,v2⟩:=j3 rfl;have e0:pX 0=[]:=by simp[pX]
          rw[e0]at F2;have Un:bP (dh A sA++((cd h c1++(true,k)::cd h c2)++jw (B.map fun u=>cd h u.2) sB)):=oi _ _ hod;have hks:k.size<=16:=(Un.sz (true,k) (by simp)).2;have aam:bN (sA++k::sB)=bN (sA++sB)+(5+k.size):=by rw[dA,dA,bN];omega
          obtain⟨R,E⟩:=Es C hp t c1 c2 hnd Un (by omega) ⟨wc1,z1⟩ ⟨wc2,z2⟩ (by rw[<-en];exact vl) ic F0 F1 v1 F2 v2;rw[if_neg (by simp)];simp only[List.nil_append];rw[if_neg (by simp),if_neg (by simp)];rw[show [q1]++[q2]=[q1,q2]from rfl,vK hA hB [q1,q2] [k] (by first| (simp;done)| (simp;omega))];have en0:(⟨false,[],A.map Prod.fst++[q1,q2]++B.map Prod.fst,im (sA++sB) (tQ A.length [q1,q2]) (tR A.length (A.length+1) [q1,q2]) [k]⟩:Nd)=aT (h+1) (bG (A++([(q1,c1),(q2,c2)]++B)) (sA++k::sB)):=by
            rw[bR,Q8 hA];simp
          rw[en0];have hpl:(aU (A++([(q1,c1),(q2,c2)]++B))).length<=(pX w.1++bh h t++(aU A++aU B)).length+2:=by
            rw[a8,a8];simp only[List.length_append]at*;simp[aU,gV,nK]at*;omega
          refine iN hr (HJ h) hd (m:=m) R (a:=A.length-1) (b:=A.length+3) (by omega) (by first| (simp;done)| (simp;omega)) ?_ ?_ E (by omega) ?_ ?_ (by omega) hpl (by omega) hf hb
          · exact rV hA hk _ (uj hA _)
          · intro j hj;have:=pN (ss':=sA++k::sB) hA hB hk (A++[(q1,c1),(q2,c2)]) (t':=sA++[k]++sB.take 1) (fun hb0=>⟨by rw[<- (gJ hB hb0 _).1];simp,by rw[List.length_append,(gJ hB hb0 []).2];simp;omega⟩) j (by simp;omega);simpa using this
          · show OI _ (dh (A++(q1,c1)::(q2,c2)::B) (sA++k::sB));rw[pJ hA];have:=oi.ctx (dh A sA) (jw (B.map fun u=>cd h u.2) sB);simpa using this
          · rw[en];simp[bM]
        · rw[if_pos he2];simp only;rw[if_pos he2];have G1:=(F1.ext F0.us (List.nodup_append.1 G0.nd).1).ext (fun q hq=>G0.us q (List.mem_append_right _ hq)) G0.nd;have e0:pX 0=[]:=by simp[pX]
          rw[e0]at j2;exact⟨_,_,_,rfl,((G0.trans G1).er (j2.ext (X:=[]) G1.us G1.nd)).mono (by omega),fun h0=>absurd h0 he2⟩
      · rw[if_pos he1];simp only;rw[if_pos he1];exact⟨_,_,_,rfl,(G0.er ((k2.ext F0.us (List.nodup_append.1 G0.nd).1).ext (fun q hq=>G0.us q (List.mem_append_right _ hq)) G0.nd)).mono (by omega),fun h0=>absurd h0 he1⟩
  · rw[if_pos he];exact⟨_,_,_,rfl,(((t2.ext (yt hp) (qT.nodup_iff.2 MS)).perm qT).ext C.us hnd).mono (by omega),fun h0=>absurd h0 he⟩
end
end P
namespace P
open N
def _root_.Go.Proofs.YtceoeaemenhbhaaGreatDoor.Dr.bt (S:Dr)(z:Int):Dr:=⟨S.x,S.nodes,S.cnt,S.taken,S.spare,z⟩
def mI (l:List En):List It:=l.map fun(x:En)=>((false,x.1):It)
section
variable {room:Nat}{d:Dk}{S S1 S2:Dr}{h:Nat}{A B:List (KT h)}{sA sB:List ByteArray}{w:KT h}{key:ByteArray}{ed:List En->List En}
theorem Us.bt {p:Int}(hp:Us S p)(z:Int):Us (S.bt z) p:=⟨hp.lo,hp.hi,hp.fr,hp.sp⟩
theorem Sd.bt (ok:Sd room S)(z:Int):Sd room (S.bt z):=⟨ok.x,ok.sp,ok.nf,ok.sn,ok.fi,ok.bz,ok.tk⟩
theorem Bd.bt {m:Nat}(hb:Bd S m)(z:Int):Bd (S.bt z) m:=⟨hb.cnt,hb.mG,hb.Ay,hb.Cg⟩
theorem oy.bt {C:List (Int×Nd)}(hC:oy S d C)(z:Int):oy (S.bt z) d C:=hC
theorem vN {z:It}{y:List It}:∀(l:List (List It)) (ss:List ByteArray),y∈l->z∈y->z∈iK l ss
 |[],_,hy,_=>by cases hy
 |a::l,[],hy,hz=>List.mem_flatten.2 ⟨y,hy,hz⟩
 |a::l,s::ss,hy,hz=>by
  rw[gI];rcases List.mem_cons.1 hy with rfl|hy
  ·exact List.mem_append_left _ hz
  ·exact List.mem_append_right _ (List.mem_cons_of_mem _ (vN l ss hy hz))
theorem iO:∀(h:Nat) (b:BT h) (x:En),x∈dR h b->(false,x.1)∈cd h b
 |0,l,x,hx=>List.mem_map_of_mem (f:=fun(x:En)=>((false,x.1):It)) hx
 |h+1,b,x,hx=>by
  obtain⟨K,ss,rfl⟩:=fq b;rw[oz]at hx;rw[Iw];obtain⟨l,hl,hxl⟩:=List.mem_flatten.1 hx;obtain⟨u,hu,rfl⟩:=List.mem_map.1 hl;exact vN _ ss (List.mem_map_of_mem (f:=fun u:KT h=>cd h u.2) hu) (iO h u.2 x hxl)
theorem rW {K:List (KT h)}{x:En}(hx:x∈bM K)(l:List (List It))(hl:∀y∈K.map (fun u=>cd h u.2),y∈l)(ss:List ByteArray):(false,x.1)∈iK l ss:=by
 obtain⟨l',hl',hxl⟩:=List.mem_flatten.1 hx;obtain⟨u,hu,rfl⟩:=List.mem_map.1 hl';exact vN _ ss (hl _ (List.mem_map_of_mem (f:=fun u:KT h=>cd h u.2) hu)) (iO h u.2 x hxl)
structure Loc (h:Nat)(b:BT h)(key:ByteArray)(L:List It)(es:List En)(R:List It)(EL ER:List En):Prop where
 fl:cd h b=L++(mI es++R)
 en:dR h b=EL++(es++ER)
 l1:L=[]∨∃L' s,L=L'++[(true,s)]
 r1:R=[]∨∃s R',R=(true,s)::R'
 l2:∀x∈L,x.1=true->bD key x.2=false
 r2:∀x∈R,x.1=true->bD key x.2=true
 el:∀x∈EL,(false,x.1)∈L
 er:∀x∈ER,(false,x.1)∈R
structure Na (key:ByteArray)(ed:List En->List En):Prop where
 rg:∀es,Rg es->Rg (ed es)
 mem:∀es,Rg es->∀x∈ed es,(x.1=key∧1<=key.size∧key.size<=16)∨x∈es
 sz:∀es,Rg es->cx (ed es)<=cx es+58
theorem IJ {L R:List It}{es:List En}(ho:bP (L++(mI es++R)))(l1:L=[]∨∃L' s,L=L'++[(true,s)])(l2:∀x∈L,x.1=true->bD key x.2=false):∀x∈L,RI x (false,key):=fun x hx=>by
 have p1:=(List.pairwise_append.1 ho.up).1;by_cases hb:x.1=true
 ·simpa[RI,hb]using l2 x hx hb
 ·rcases l1 with rfl| ⟨L',s,rfl⟩
  ·cases hx
  ·rcases List.mem_append.1 hx with hx|hx
   ·have h1:=(List.pairwise_append.1 p1).2.2 x hx (true,s) (by simp);have h2:=l2 (true,s) (by simp) rfl;have h3:bD x.2 s=true:=by simpa[RI]using h1
    simp only[RI,hb,if_false,Bool.false_eq_true];exact gu h2 h3
   ·rw[List.mem_singleton.1 hx]at hb;exact absurd rfl hb
theorem IK {L R:List It}{es:List En}(ho:bP (L++(mI es++R)))(r1:R=[]∨∃s R',R=(true,s)::R')(r2:∀x∈R,x.1=true->bD key x.2=true):∀y∈R,RI (false,key) y:=fun y hy=>by
 have p5:=(List.pairwise_append.1 (List.pairwise_append.1 ho.up).2.1).2.1;by_cases hb:y.1=true
 ·simpa[RI,hb]using r2 y hy hb
 ·rcases r1 with rfl| ⟨s,R',rfl⟩
  ·cases hy
  ·rcases List.mem_cons.1 hy with rfl|hy
   ·exact absurd rfl hb
   ·have h1:=(List.pairwise_cons.1 p5).1 y hy;have h2:bD key s=true:=r2 (true,s) (by simp) rfl;have h3:bD y.2 s=false:=by simpa[RI,hb]using h1
    simp only[RI,hb,if_false,Bool.false_eq_true];exact gu h3 h2
theorem rX {L R:List It}{es:List En}(E:Na key ed)(ho:bP (L++(mI es++R)))(hv:∀x∈es,x.2.size<=40)(l1:L=[]∨∃L' s,L=L'++[(true,s)])(r1:R=[]∨∃s R',R=(true,s)::R')
    (l2:∀x∈L,x.1=true->bD key x.2=false)(r2:∀x∈R,x.1=true->bD key x.2=true):bP (L++(mI (ed es)++R)):=by
  obtain⟨p1,p2,p3⟩:=List.pairwise_append.1 ho.up;obtain⟨p4,p5,p6⟩:=List.pairwise_append.1 p2;have oe:bP (mI es):=ho.sub (List.Sublist.trans (List.sublist_append_left _ _) (List.sublist_append_right _ _));have hrg:Rg es:=bP.leaf oe hv;have rg':=E.rg es hrg;have mem':=E.mem es hrg;have hL:=IJ ho l1 l2;have hR:=IK ho r1 r2;have hin:∀x∈mI (ed es),(x=(false,key)∧1<=key.size∧key.size<=16)∨x∈mI es:=fun x hx=>by
    obtain⟨y,hy,rfl⟩:=List.mem_map.1 hx;rcases mem' y hy with⟨e,hk⟩|e
    · exact .inl ⟨by rw[e],hk⟩
    · exact .inr (List.mem_map_of_mem (f:=fun(x:En)=>((false,x.1):It)) e)
  refine⟨List.pairwise_append.2 ⟨p1,List.pairwise_append.2 ⟨?_,p5,fun x hx y hy=>?_⟩,fun x hx y hy=>?_⟩,fun x hx=>?_⟩
  · unfold mI;rw[List.pairwise_map];exact rg'.up.imp fun {a b} hab=>by simpa[RI]using hab
  · rcases hin x hx with⟨rfl,_⟩|hx
    · exact hR y hy
    · exact p6 x hx y hy
  · rcases List.mem_append.1 hy with hy|hy
    · rcases hin y hy with⟨rfl,_⟩|hy
      · exact hL x hx
      · exact p3 x hx y (List.mem_append_left _ hy)
    · exact p3 x hx y (List.mem_append_right _ hy)
  · simp only[List.mem_append]at hx;rcases hx with hx|hx|hx
    · exact ho.sz x (by simp[hx])
    · rcases hin x hx with⟨rfl,hk⟩|hx
      · exact hk
      · exact ho.sz x (by simp[hx])
    · exact ho.sz x (by simp[hx])
theorem vO:∀ {A:List (KT h)} {sA:List ByteArray},A.length=sA.length->(dh A sA=[]∨∃L' s,dh A sA=L'++[(true,s)]∧s∈sA)
 |[],[],_=>.inl rfl
 |[],_::_,e=>by cases e
 |_::_,[],e=>by cases e
 |u::A,s::sA,e=>by
  right;have h1:dh (u::A) (s::sA)=cd h u.2++(true,s)::dh A sA:=rfl;rcases vO (A:=A) (sA:=sA) (by simpa using e)with h2| ⟨L',s',h2,h3⟩
  ·exact⟨cd h u.2,s,by rw[h1,h2],by simp⟩
  ·exact⟨cd h u.2++(true,s)::L',s',by rw[h1,h2];simp,by simp[h3]⟩
theorem um {B:List (List It)}{sB:List ByteArray}(e:B.length=sB.length):jw B sB=[]∨∃s R',jw B sB=(true,s)::R'∧s∈sB:=by
 cases B with
 |nil=>cases sB with
  |nil=>exact .inl rfl
  |cons s sB=>cases e
 |cons x B=>cases sB with
  |nil=>cases e
  |cons s sB=>exact .inr ⟨s,_,iL _ _ _ _,by simp⟩
theorem Loc.up {L R:List It}{es EL ER:List En}(H:Loc h w.2 key L es R EL ER)(hA:A.length=sA.length)(hB:B.length=sB.length)(ho:bP (dh (A++w::B) (sA++sB)))(k1:∀s∈sA,bD key s=false)(k2:∀s∈sB,bD key s=true):
  Loc (h+1) (bG (A++w::B) (sA++sB)) key (dh A sA++L) es (R++jw (B.map fun u=>cd h u.2) sB) (bM A++EL) (ER++bM B):=by
 have e1:cd (h+1) (bG (A++w::B) (sA++sB))=dh A sA++(cd h w.2++jw (B.map fun u=>cd h u.2) sB):=eQ hA;rw[eQ hA]at ho;refine⟨?_,?_,?_,?_,fun x hx hb=>?_,fun x hx hb=>?_,fun x hx=>?_,fun x hx=>?_⟩
 ·rw[e1,H.fl];simp
 ·rw[oz,cf,bT,H.en];simp
 ·rcases H.l1 with rfl| ⟨L',s,rfl⟩
  ·rw[List.append_nil];rcases vO hA with e| ⟨L',s,e,_⟩
   ·exact .inl e
   ·exact .inr ⟨L',s,e⟩
  ·exact .inr ⟨dh A sA++L',s,by simp⟩
 ·rcases H.r1 with rfl| ⟨s,R',rfl⟩
  ·rw[List.nil_append];rcases um (B:=B.map fun u=>cd h u.2) (sB:=sB) (by simpa using hB)with e| ⟨s,R',e,_⟩
   ·exact .inl e
   ·exact .inr ⟨s,R',e⟩
  ·exact .inr ⟨s,R'++jw (B.map fun u=>cd h u.2) sB,rfl⟩
 ·rcases List.mem_append.1 hx with hx|hx
  ·
   rcases vO hA with h0| ⟨L',s,h0,hsA⟩
   ·rw[h0]at hx;cases hx
   ·have hs:(true,s)∈dh A sA:=by rw[h0];simp
    have hsm:bD key s=false:=k1 s hsA;rw[h0]at hx;rcases List.mem_append.1 hx with hx|hx
    ·rw[h0,List.append_assoc]at ho;have h1:=(List.pairwise_append.1 ho.up).2.2 x hx (true,s) (by simp);have h2:bD x.2 s=true:=by simpa[RI]using h1
     cases hc:bD key x.2 with
     |false=>rfl
     |true=>rw[cL hc h2]at hsm;cases hsm
    ·rw[List.mem_singleton.1 hx];exact hsm
  ·exact H.l2 x hx hb
 ·rcases List.mem_append.1 hx with hx|hx
  ·exact H.r2 x hx hb
  ·rcases um (B:=B.map fun u=>cd h u.2) (sB:=sB) (by simpa using hB)with e| ⟨s,R',e,hs⟩
   ·rw[e]at hx;cases hx
   ·rw[e]at hx;have h0:=k2 s hs;rcases List.mem_cons.1 hx with rfl|hx
    ·exact h0
    ·rw[e]at ho;have h1:=(List.pairwise_append.1 (List.pairwise_append.1 ho.up).2.1).2.1;have h2:=(List.pairwise_cons.1 h1).1 x hx;have h3:bD s x.2=true:=by simpa[RI,hb]using h2
     exact cL h0 h3
 ·rcases List.mem_append.1 hx with hx|hx
  ·exact List.mem_append_left _ (rW hx _ (fun y hy=>hy) sA)
  ·exact List.mem_append_right _ (H.el x hx)
 ·rcases List.mem_append.1 hx with hx|hx
  ·exact List.mem_append_left _ (H.er x hx)
  ·exact List.mem_append_right _ (rW hx _ (fun y hy=>List.mem_cons_of_mem _ hy) sB)
theorem Loc.lo {b:BT h}{L R:List It}{es EL ER:List En}(H:Loc h b key L es R EL ER)(ho:bP (cd h b)):(∀x∈EL,bD x.1 key=true)∧∀x∈ER,bD key x.1=true:=by
 rw[H.fl]at ho;exact⟨fun x hx=>by simpa[RI]using IJ ho H.l1 H.l2 _ (H.el x hx),fun x hx=>by simpa[RI]using IK ho H.r1 H.r2 _ (H.er x hx)⟩
end
end P
namespace P
open N
section
variable {room:Nat}{d:Dk}{S S1 S2:Dr}{h:Nat}{A B:List (KT h)}{sA sB:List ByteArray}{w:KT h}{key:ByteArray}{ed:List En->List En}
theorem vP:∀ {ss:List ByteArray},ss.Pairwise (fun x y=>bD x y=true)->∃sA sB,ss=sA++sB∧cY ss key=sA.length∧(∀s∈sA,bD key s=false)∧∀s∈sB,bD key s=true
 |[],_=>⟨[],[],rfl,rfl,(fun _ hc=>by cases hc),(fun _ hc=>by cases hc)⟩
 |s::ss,hp=>by
  obtain⟨p1,p2⟩:=List.pairwise_cons.1 hp;cases hs:bD key s with
  |false=>
   obtain⟨sA,sB,r1,r2,r3,r4⟩:=vP (ss:=ss) p2;refine⟨s::sA,sB,by rw[r1];rfl,?_,fun x hx=>?_,r4⟩
   ·unfold cY at r2⊢;rw[List.countP_cons_of_pos (by simp[hs]),r2];rfl
   ·rcases List.mem_cons.1 hx with rfl|hx
    ·exact hs
    ·exact r3 x hx
  |true=>
   have hall:∀x∈s::ss,bD key x=true:=fun x hx=>by
    rcases List.mem_cons.1 hx with rfl|hx
    ·exact hs
    ·exact cL hs (p1 x hx)
   refine⟨[],s::ss,rfl,?_,(fun _ hc=>by cases hc),hall⟩;unfold cY;rw[List.countP_eq_zero.2 (fun x hx=>by simp[hall x hx])];rfl
theorem kt {K:List (KT h)}{ss:List ByteArray}(hl:ss.length<=K.length)(ho:bP (dh K ss)):ss.Pairwise (fun x y=>bD x y=true):=by
 have h1:=ho.sub (gT (K.map fun u=>cd h u.2) ss (by simpa using hl));have h2:=h1.up;rw[List.pairwise_map]at h2;exact h2.imp fun {a b} hab=>by simpa[RI]using hab
structure Gb (room:Nat)(d:Dk)(S:Dr)(h:Nat)(b:BT h):Prop where
 sd:Sd room S
 wl:Wl h b
 sz:bQ h b<=240
 us:∀p∈bh h b,Us S p
 nd:(bh h b).Nodup
 is:oy S d (k8 h b)
 od:bP (cd h b)
 vl:∀x∈dR h b,x.2.size<=40
theorem Gb.rw {K:List (KT h)}{ss:List ByteArray}(G:Gb room d S (h+1) (bG K ss)):Rw room d S h K ss:=⟨G.sd,G.wl.2.2,G.us,G.nd,G.is,G.od,G.vl,by have:4+bN ss<=240:=G.sz;omega,.inl G.wl.1⟩
theorem Gb.sm (hr:room<=16384){b:BT h}(G:Gb room d S h b):bS (aT h b)=true:=by
 cases h with
 |zero=>exact kr b (Nat.le_trans G.sz (by omega))
 |succ h=>
  obtain⟨K,ss,rfl⟩:=fq b;exact G.rw.sm hr
def Et (d:Dk)(key:ByteArray)(es0:List En):Nat->Dr->Nd->Int->Prop
 |0,_,_,_=>True
 |f+1,S,n,depth=>if n.leaf=true then n.es=es0 else((S.read d (n.ks.getD (cY n.ss key) 0) (depth+1)).2=0->Et d key es0 f S (S.read d (n.ks.getD (cY n.ss key) 0) (depth+1)).1 (depth+1))
structure Ou (room:Nat)(d:Dk)(c:Nat)(S:Dr)(X:List Int)(F:List It)(E:List En)(n:Nd)(S':Dr)(h:Nat)(t:BT h):Prop where
 n:n=aT h t
 ob:Ob room d S' h t
 fm:Fm room d c S X S' (bh h t)
 oi:OI F (cd h t)
 en:dR h t=E
 ln:(bh h t).length<=X.length+2*h
theorem step_ok (hr:room<=16384)(HJ:∀h,ll room d h){depth z:Int}(hd:depth+1+h<24){f m c:Nat}(C:Ctx room d S h A sA B sB)(hp:P0 S w.1)(us:∀p∈bh h w.2,Us S p)(hnd:(pX w.1++bh h w.2++(aU A++aU B)).Nodup)(hk:∀j,KP (A++w::B) (sA++sB) j)(hsz:bN (sA++sB)<=236)(hsw:bS (aT h w.2)=true)
    {F:List It}{E:List En}{n:Nd}{t:BT h}(R:Ou room d c (S.bt z) (bh h w.2) F E n S1 h t)(hod:bP (dh A sA++(F++jw (B.map fun u=>cd h u.2) sB)))(hc:c<=4*h)
    (hf:3*((pX w.1++bh h w.2++(aU A++aU B)).length+2*h+2)+5<=f)(hb:Bd S ((pX w.1++bh h w.2++(aU A++aU B)).length+6*h+6+m)):
    ∃n' e S',dX (bj room d f) room S1 (aT (h+1) (bG (A++w::B) (sA++sB))) (A.length:Int) depth (aT h w.2) n=some ((n',e),S')∧Er room d (c+4) (S.bt z) (pX w.1++bh h w.2++(aU A++aU B)) S' e∧
      (e=0->∃K' ss',Ou room d (c+4) (S.bt z) (pX w.1++bh h w.2++(aU A++aU B)) (dh A sA++(F++jw (B.map fun u=>cd h u.2) sB)) (bM A++(E++bM B)) n' S' (h+1) (bG K' ss')∧bN ss'<=bN (sA++sB)+21):=by
  obtain⟨rfl,ob,fm,oi,en,ln⟩:=R;have eX:(bh h w.2++(pX w.1++(aU A++aU B))).Perm (pX w.1++bh h w.2++(aU A++aU B)):=by
    rw[<-List.append_assoc];exact List.Perm.append_right _ List.perm_append_comm
  have eX2:(bh h t++(pX w.1++(aU A++aU B))).Perm (pX w.1++bh h t++(aU A++aU B)):=by
    rw[<-List.append_assoc];exact List.Perm.append_right _ List.perm_append_comm
  have Zd:∀p∈pX w.1++(aU A++aU B),Us (S.bt z) p:=fun p hp'=>by
    rcases List.mem_append.1 hp' with h1|h1
    · exact(yt hp p h1).bt z
    · exact(C.us p h1).bt z
  have Ze:=eX.nodup_iff.2 hnd;have Ra:∀p∈pX w.1++(aU A++aU B),p∉bh h w.2:=fun p h1 h2=>(List.nodup_append.1 Ze).2.2 p h2 p h1 rfl;have F1:=(fm.ext Zd Ze).perm eX eX2;have C1:Ctx room d S1 h A sA B sB:=⟨C.hA,C.hB,C.wl,fun q hq=>(fm.yq ((C.us q hq).bt z) (Ra q (List.mem_append_right _ hq))).1,fm.MQ (C.is.bt z) (by rw[List.map_append];exact fun q hq=>(C.us q hq).bt z) (by rw[List.map_append];exact fun q hq=>Ra q (List.mem_append_right _ hq)),C.vl⟩;have hp1:P0 S1 w.1:=by
    by_cases h0:w.1=0
    · exact .inl h0
    · have hm:w.1∈pX w.1:=by simp[pX,h0]
      exact .inr (fm.yq (Zd _ (List.mem_append_left _ hm)) (Ra _ (List.mem_append_left _ hm))).1
  have hl1:(pX w.1++bh h t++(aU A++aU B)).length<=(pX w.1++bh h w.2++(aU A++aU B)).length+2*h:=by
    simp only[List.length_append]at*;omega
  obtain⟨n',e,S',q1,q2,q3⟩:=II (m:=m) hr HJ hd C1 hp1 t ob F1.nd hk (oi _ _ hod) (by omega) hsw (f:=f) (by omega) (F1.bd (hb.bt z) (by omega));refine⟨n',e,S',q1,F1.er q2,fun he=>?_⟩;obtain⟨K',ss',P⟩:=q3 he;refine⟨K',ss',⟨P.n,⟨P.rw,P.kp,by have:=P.sz;show bN ss'<=257;omega⟩,?_,?_,?_,?_⟩,P.sz⟩
  · exact F1.trans P.fm
  · exact(oi.ctx _ _).trans P.oi
  · rw[oz,P.en,en]
  · have:=P.ln;show(aU K').length<=_;omega
theorem fF (hr:room<=16384)(EH:Na key ed){f:Nat}(l:List En)(depth:Int)(f0:Nat)(sd:Sd room S)(od:bP (cd 0 l))(vl:∀x∈l,x.2.size<=40)(hz:cx l<=240)(hf0:0<f0):
  ∃L es R EL ER,Loc 0 l key L es R EL ER∧Et d key es f0 S (aT 0 l) depth∧∃n ch e S',bn (bj room d f) room d key ed f0 S (aT 0 l) depth=some ((n,ch,e),S')∧Er room d (4*0) (S.bt (depth+(0:Nat))) (bh 0 l) S' e∧(e=0->ch=!decide (ed es=es)∧(ch=false->S'=S.bt (depth+(0:Nat)))∧(ch=true->∃t,Ou room d (4*0) (S.bt (depth+(0:Nat))) (bh 0 l) (L++(mI (ed es)++R)) (EL++(ed es++ER)) n S' 0 t)):=by
 obtain⟨f0,rfl⟩:∃f',f0=f'+1:=⟨f0-1,by omega⟩;have hrg:Rg l:=bP.leaf od vl;refine⟨[],l,[],[],[],⟨?_,?_,.inl rfl,.inl rfl,(fun _ hc=>by cases hc),(fun _ hc=>by cases hc),(fun _ hc=>by cases hc),(fun _ hc=>by cases hc)⟩,rfl,?_⟩
 ·show mI l=[]++(mI l++[]);simp
 ·show l=[]++(l++[]);simp
 refine⟨aT 0 (ed l),!decide (ed l=l),0,S.bt depth,?_,fun hc=>absurd rfl hc,fun _=>⟨rfl,fun _=>by simp,fun _=>⟨ed l,rfl,⟨sd.bt _,?_,?_,?_⟩,?_,?_,?_,?_⟩⟩⟩
 ·rw[bn,if_neg (by rw[kr l (Nat.le_trans (show bQ 0 l<=240 from hz) (by omega))];simp)];rfl
 ·have o:bP ([]++(mI l++[])):=by rw[List.nil_append,List.append_nil];exact od
  have:=rX (L:=[]) (R:=[]) (es:=l) EH o vl (.inl rfl) (.inl rfl) (fun _ hc=>by cases hc) (fun _ hc=>by cases hc);rw[List.nil_append,List.append_nil]at this;exact this
 ·exact fun x hx=>(cF.1 ((EH.rg l hrg).may x hx)).2.2
 ·have h1:=EH.sz l hrg;have h2:cx l<=240:=hz;omega
 ·simp only[Int.natCast_zero,Int.add_zero];exact Fm.refl (sd.bt _) (fun p hc=>by cases hc) List.nodup_nil
 ·show OI ([]++(mI (ed l)++[])) (mI (ed l));simp only[List.nil_append,List.append_nil];exact OI.refl _
 ·show ed l=[]++(ed l++[]);simp
 ·show 0<=0+_;omega
theorem rY (hr:room<=16384)(HJ:∀h,ll room d h)(EH:Na key ed){f m:Nat}:∀(h:Nat) (b:BT h) (depth:Int) (f0:Nat),Gb room d S h b->depth+h<24->h<f0->3*((bh h b).length+2*h+2)+5<=f->Bd S ((bh h b).length+6*h+6+m)->
  ∃L es R EL ER,Loc h b key L es R EL ER∧Et d key es f0 S (aT h b) depth∧∃n ch e S',bn (bj room d f) room d key ed f0 S (aT h b) depth=some ((n,ch,e),S')∧Er room d (4*h) (S.bt (depth+h)) (bh h b) S' e∧(e=0->ch=!decide (ed es=es)∧(ch=false->S'=S.bt (depth+h))∧(ch=true->∃t,Ou room d (4*h) (S.bt (depth+h)) (bh h b) (L++(mI (ed es)++R)) (EL++(ed es++ER)) n S' h t))
 |0,b,depth,f0,G,hd,hf0,hf,hb=>fF hr EH b depth f0 G.sd G.od G.vl G.sz hf0
 |h+1,b,depth,f0,G,hd,hf0,hf,hb=>by
  obtain⟨f0,rfl⟩:∃f',f0=f'+1:=⟨f0-1,by omega⟩;obtain⟨K,ss,rfl⟩:=fq b;have R0:=G.rw;have hl:ss.length+1=K.length:=G.wl.1;obtain⟨sA,sB,rfl,hch,k1,k2⟩:=vP (key:=key) (kt (by omega) R0.od);obtain⟨A,w,B,rfl,hA⟩:∃A w B,K=A++w::B∧A.length=sA.length:=by
   obtain⟨w,B,r1,_⟩:=dY (l:=K.drop sA.length) (n:=K.length-sA.length-1) (by rw[List.length_drop];simp at hl;omega);exact⟨K.take sA.length,w,B,by rw[<-r1,List.take_append_drop],by rw[List.length_take];simp at hl;omega⟩
  have hB:B.length=sB.length:=by simp at hl;omega
  have hwz:=R0.wl w (by simp);have Ot:∀p∈dL w++(aU A++aU B),Us S p:=fun p hp=>R0.us p (by
   rw[a8,bA]
   simp only[List.mem_append]at hp⊢
   rcases hp with hp|hp|hp
   ·exact .inr (.inl hp)
   ·exact .inl hp
   ·exact .inr (.inr hp))
  have hperm:(dL w++(aU A++aU B)).Perm (aU (A++w::B)):=by
   rw[a8,bA,<-List.append_assoc,<-List.append_assoc];exact List.Perm.append_right _ List.perm_append_comm
  have hw0:w.1≠0:=by
   have:=(Ot w.1 (by simp[dL,nK])).lo;omega
  have Ov:pX w.1=[w.1]:=by simp[pX,hw0]
  have eX:pX w.1++bh h w.2++(aU A++aU B)=dL w++(aU A++aU B):=by rw[Ov,bV];rfl
  have Rb:(pX w.1++bh h w.2++(aU A++aU B)).Nodup:=by rw[eX];exact hperm.nodup_iff.2 R0.nd
  have Nc:(pX w.1++bh h w.2++(aU A++aU B)).length=(bh (h+1) (bG (A++w::B) (sA++sB))).length:=by
   rw[eX];exact hperm.length_eq
  have hlw:(bh h w.2).length<=(bh (h+1) (bG (A++w::B) (sA++sB))).length:=by
   rw[<-Nc];simp only[List.length_append];omega
  have Vu:bP (dh A sA++(cd h w.2++jw (B.map fun u=>cd h u.2) sB)):=by rw[<-eQ hA];exact R0.od
  have Gw:Gb room d S h w.2:=⟨G.sd,hwz.1,hwz.2,fun p hp=>Ot p (by simp[bV,hp]),by
    have:=(List.nodup_append.1 (List.nodup_append.1 Rb).1).2.1
    exact this,fun x hx=>R0.is x (by rw[cT,dC];simp[nK,hx]),Vu.sub (List.Sublist.trans (List.sublist_append_left _ _) (List.sublist_append_right _ _)),fun x hx=>R0.vl x (by rw[cf,bT];simp[hx])⟩
  obtain⟨L,es,R,EL,ER,loc,lfp,n,ch,e,S1,t1,t2,t3⟩:=rY hr HJ EH (f:=f) (m:=m) h w.2 (depth+1) f0 Gw (by omega) (by omega) (by omega) (hb.mono (by omega));have loc':=Loc.up loc hA hB R0.od k1 k2;have hgd:(aT (h+1) (bG (A++w::B) (sA++sB))).ks.getD (cY (aT (h+1) (bG (A++w::B) (sA++sB))).ss key) 0=w.1:=by
   rw[bR];simp only[hch];rw[<-hA];simp[List.getD_eq_getElem?_getD]
  have hci:((cY (aT (h+1) (bG (A++w::B) (sA++sB))).ss key:Nat):Int)=(A.length:Int):=by
   rw[bR];simp only[hch];omega
  have hrd:S.read d w.1 (depth+1)=(aT h w.2,0):=jV R0.is (by simp) (by omega);refine⟨_,es,_,_,_,loc',?_,?_⟩
  ·rw[Et,if_neg (by rw[bR];simp),hgd,hrd];exact fun _=>lfp
  rw[bn,if_neg (by rw[G.sm hr];simp),if_neg (by rw[bR];simp),if_neg (by
   rw[bR]
   simp only[hch,List.length_map,List.length_append,List.length_cons]
   omega),hgd,hrd,if_neg (by simp)]
  simp only[t1];have hde:depth+1+(h:Int)=depth+((h+1:Nat):Int):=by omega
  by_cases he:e=0
  ·subst he;obtain⟨c1,c2,c3⟩:=t3 rfl;cases ch with
   |false=>
    rw[if_pos (by simp)];exact⟨_,_,_,_,rfl,fun hc=>absurd rfl hc,fun _=>⟨c1,fun _=>by rw[c2 rfl,hde],fun hc=>by cases hc⟩⟩
   |true=>
    rw[if_neg (by simp),hci];obtain⟨t,CR⟩:=c3 rfl;have Xz:bP (dh A sA++((L++(mI (ed es)++R))++jw (B.map fun u=>cd h u.2) sB)):=by
     have:=rX EH (by have:=Vu;rw[loc.fl]at this;simpa using this) (fun x hx=>Gw.vl x (by rw[loc.en];simp[hx])) loc'.l1 loc'.r1 loc'.l2 loc'.r2;simpa using this
    obtain⟨n',e',S',p1,p2,p3⟩:=step_ok (m:=m) hr HJ (depth:=depth) (z:=depth+1+h) (by omega) ⟨hA,hB,fun u hu=>R0.wl u (by simp only[List.mem_append]at hu;rcases hu with hu|hu<;>simp[hu]),fun q hq=>Ot q (List.mem_append_right _ hq),fun x hx=>R0.is x (by
      rw[cT,dC]
      simp only[List.mem_append]at hx⊢
      rcases hx with hx|hx
      ·exact .inl hx
      ·exact .inr (.inr hx)),fun x hx=>R0.vl x (by
      rw[cf,bT]
      simp only[List.mem_append]at hx⊢
      rcases hx with hx|hx
      ·exact .inl hx
      ·exact .inr (.inr hx))⟩ (.inr (Ot w.1 (by simp[bV]))) Gw.us Rb G.wl.2.1 (by have:4+bN (sA++sB)<=240:=G.sz;omega) (Gw.sm hr) CR Xz (by omega) (f:=f) (by rw[Nc];omega) (hb.mono (by rw[Nc];omega))
    rw[p1];refine⟨_,_,_,_,rfl,by rw[<-hde];exact(p2.perm (by rw[eX];exact hperm)).mono (by omega),fun he'=>⟨c1,(fun hc=>by cases hc),fun _=>?_⟩⟩;obtain⟨K',ss',P,_⟩:=p3 he';refine⟨bG K' ss',P.n,P.ob,?_,?_,?_,?_⟩
    ·have:=P.fm;rw[hde]at this;exact(this.perm (by rw[eX];exact hperm) (List.Perm.refl _)).mono (by omega)
    ·have:=P.oi;simpa using this
    ·rw[P.en];simp
    ·have:=P.ln;rw[Nc]at this;exact this
  ·rw[if_pos (.inl he)];refine⟨_,_,_,_,rfl,?_,fun h0=>absurd h0 he⟩;have qW:(bh h w.2++(pX w.1++(aU A++aU B))).Perm (pX w.1++bh h w.2++(aU A++aU B)):=by
    rw[<-List.append_assoc];exact List.Perm.append_right _ List.perm_append_comm
   rw[<-hde];refine((t2.ext (Y:=pX w.1++(aU A++aU B)) (fun q hq=>?_) (qW.nodup_iff.2 Rb)).perm (qW.trans (by rw[eX];exact hperm))).mono (by omega);exact(Ot q (by rw[<-eX];exact qW.mem_iff.1 (List.mem_append_right _ hq))).bt _
end
end P
namespace P
open N
section
variable {room:Nat}{d:Dk}{S S1 S2:Dr}{h:Nat}{key:ByteArray}{ed:List En->List En}
structure Gt (room:Nat)(d:Dk)(S:Dr)(h:Nat)(u:KT h):Prop where
 g:Gb room d S h u.2
 us:Us S u.1
 ni:u.1∉bh h u.2
 rd:S.vw d u.1=(aT h u.2,0)
theorem Gt.IL {u:KT h}(G:Gt room d S h u):(∀p∈dL u,Us S p)∧(dL u).Nodup∧oy S d (nK u):=by
 refine⟨fun p hp=>?_,?_,fun x hx=>?_⟩
 ·rcases List.mem_cons.1 hp with rfl|hp
  ·exact G.us
  ·exact G.g.us p hp
 ·exact List.nodup_cons.2 ⟨G.ni,G.g.nd⟩
 ·rcases List.mem_cons.1 hx with rfl|hx
  ·exact G.rd
  ·exact G.g.is x hx
theorem Gt.of {u:KT h}(sd:Sd room S)(wl:Wl h u.2)(sz:bQ h u.2<=240)(us:∀p∈dL u,Us S p)(nd:(dL u).Nodup)(is:oy S d (nK u))(od:bP (cd h u.2))(vl:∀x∈dR h u.2,x.2.size<=40):Gt room d S h u:=
 ⟨⟨sd,wl,sz,fun p hp=>us p (List.mem_cons_of_mem _ hp),(List.nodup_cons.1 nd).2,fun x hx=>is x (List.mem_cons_of_mem _ hx),od,vl⟩,us _ (List.mem_cons_self ..),(List.nodup_cons.1 nd).1,is _ (List.mem_cons_self ..)⟩
theorem uo (u:KT h)(ss:List ByteArray)(j:Nat):KP [u] ss j:=by
 rw[nO];refine⟨fun a b k h1 h2=>?_,fun i a b k e1 e2 h1 h2=>?_⟩
 ·rw[List.getElem?_eq_none (by simp)]at h2;cases h2
 ·simp at e2;omega
def Uo:(h:Nat)->BT h->Prop
 |0,_=>True
 |h+1,t=>t.1.length≠1
theorem nP:∀(h:Nat) (u:KT h) (S:Dr) (f:Nat) (depth:Int) (m:Nat),Gt room d S h u->S.bot=depth+h->0<=depth->depth+h<24->h<f->Bd S ((dL u).length+m)->
  ∃h' u' S',dB d f S u.1 depth=some ((u'.1,0),S')∧Gt room d S' h' u'∧Uo h' u'.2∧Fm room d 0 S (dL u) S' (dL u')∧dR h' u'.2=dR h u.2∧h'<=h
 |0,u,S,f,depth,m,G,Nf,h0,hd,hf,hb=>by
  obtain⟨f,rfl⟩:∃f',f=f'+1:=⟨f-1,by omega⟩;have hr:S.read d u.1 depth=(aT 0 u.2,0):=by rw[S.gy d _ _ (by omega)];exact G.rd
  refine⟨0,u,S,?_,G,trivial,Fm.refl G.g.sd G.IL.1 G.IL.2.1,rfl,Nat.le_refl _⟩;rw[dB,if_neg (by rw[hb.ok];simp),hr,if_neg (by simp),if_neg (by simp[aT]),if_neg (by omega)]
 |h+1,u,S,f,depth,m,G,Nf,h0,hd,hf,hb=>by
  obtain⟨f,rfl⟩:∃f',f=f'+1:=⟨f-1,by omega⟩;have hr:S.read d u.1 depth=(aT (h+1) u.2,0):=by rw[S.gy d _ _ (by omega)];exact G.rd
  by_cases h1:u.2.1.length=1
  ·obtain⟨p,b⟩:=u;obtain⟨K,ss,rfl⟩:=fq b;have h1:K.length=1:=h1;obtain⟨v,rfl⟩:=rQ h1;have hss:ss=[]:=by have:=G.g.wl.1;simpa[bG]using this
   subst hss;have R:=G.g.rw;have hD:Fm room d 0 S [p] (S.drop p) []:=pK G.g.sd G.us;have eP:aU [v]=dL v:=by simp[aU,gV]
   have eC:gV [v]=nK v:=by simp[gV]
   have Zf:dL (p,bG [v] [])=[p]++dL v:=by
    rw[<-eP];rfl
   have Zg:∀q∈dL v,Us S q:=by rw[<-eP];exact R.us
   have nv:p∉dL v:=by rw[<-eP];exact G.ni
   have E:=hD.ext (Y:=dL v) Zg (by
    rw[List.singleton_append]
    exact List.nodup_cons.2 ⟨nv,by rw[<-eP];exact R.nd⟩)
   rw[List.nil_append]at E;have hwv:=R.wl v (by simp);have eF:dh [v] []=cd h v.2:=by simp[dh,iK]
   have Gv:Gt room d (S.drop p) h v:=Gt.of E.ok hwv.1 hwv.2 E.us E.nd (hD.MQ (by rw[<-eC];exact R.is) Zg (fun q hq hc=>nv (by rw[List.mem_singleton.1 hc]at hq;exact hq))) (by rw[<-eF];exact R.od) (fun x hx=>R.vl x (by simpa[bM]using hx));have hbv:Bd (S.drop p) ((dL v).length+m):=by
    refine E.bd hb ?_;rw[Zf];simp only[List.length_append,List.length_cons,List.length_nil];omega
   obtain⟨h',u',S',q1,q2,q3,q4,q5,q6⟩:=nP h v (S.drop p) f (depth+1) m Gv (by rw[E.bot,Nf];omega) (by omega) (by omega) (by omega) hbv;refine⟨h',u',S',?_,q2,q3,?_,?_,by omega⟩
   ·rw[dB,if_neg (by rw[hb.ok];simp),hr,if_neg (by simp),if_pos (by rw[bR];simp)];rw[bR];exact q1
   ·rw[Zf];exact E.trans q4
   ·rw[q5];show _=bM [v];simp[bM]
  ·refine⟨h+1,u,S,?_,G,h1,Fm.refl G.g.sd G.IL.1 G.IL.2.1,rfl,Nat.le_refl _⟩;rw[dB,if_neg (by rw[hb.ok];simp),hr,if_neg (by simp),if_neg (by
    obtain⟨p,b⟩:=u
    obtain⟨K,ss,rfl⟩:=fq b
    rw[bR]
    have h1:¬K.length=1:=h1
    simpa using h1),if_neg (by omega)]
theorem Eu (hr:room<=16384)(t:BT h)(ho:Ob room d S h t)(wt:Wl h t)(fi:cA (aT h t)=true)(hne:(aT h t).es≠[]∨(aT h t).ks≠[])(sm:bS (aT h t)=true)(od:bP (cd h t)){f m:Nat}(hf:3<=f)(hb:Bd S ((bh h t).length+6+m)):
  ∃n e S',dX (bj room d f) room S ⟨false,[],[0],[]⟩ 0 (-1) nd0 (aT h t)=some ((n,e),S')∧Er room d 0 S (bh h t) S' e∧
   (e=0->∃q,n=aT (h+1) (bG [(q,t)] [])∧Gt room d S' h (q,t)∧Fm room d 2 S (bh h t) S' (dL (q,t))):=by
 obtain⟨sd,us,nd,is,vl⟩:=ho.facts;have hfi:=fi;unfold cA at hfi;rw[Bool.and_eq_true,decide_eq_true_eq]at hfi;have zt:bQ h t<=240:=hfi.2;have hfit:bU (bj room d f) S (aT h t) (-1+1)=some (([aT h t],[],0),S):=by
  unfold bU;rw[if_neg (fun hc=>by rcases hne with e|e;exact e hc.1;exact e hc.2),if_neg (by rw[sm];simp),if_neg (by rw[hfi.1];simp),if_pos fi]
 have hs0:bS nd0=true:=by decide
 have hs1:bS (⟨false,[],[0],[]⟩:Nd)=true:=by decide
 obtain⟨q,e2,S2,k1,k2,k3⟩:=vM (d:=d) (p:=0) sd (.inl rfl) fi hb;unfold dX;rw[if_neg (by rw[hb.ok,hs0,hs1];simp),hfit];simp only;rw[if_neg (by simp),if_neg (by simp)];have hg:([(0:Int)]:List Int).getD (0:Int).toNat 0=0:=rfl;rw[hg];simp only[eG,k1];by_cases he:e2=0
 ·subst he;obtain⟨F,hv⟩:=k3 rfl;rw[if_neg (by simp)];simp only;have esw:fQ ⟨false,[],[0],[]⟩ 0 (0+1) ([]++[q]) []=aT (h+1) (bG [(q,t)] []):=by
   rw[bR];simp[fQ,swB,im,tQ,tR]
  have hw:P0 S ((0,t):KT h).1:=.inl rfl;have e0:pX ((0,t):KT h).1=[]:=by simp[pX]
  have e0':pX (0:Int)=[]:=by simp[pX]
  obtain⟨R,E⟩:=ui (w:=((0,t):KT h)) (A:=[]) (B:=[]) (sA:=[]) (sB:=[]) ⟨rfl,rfl,(fun _ hc=>by cases hc),(fun _ hc=>by cases hc),(fun _ hc=>by cases hc),(fun _ hc=>by cases hc)⟩ hw t ho (by rw[e0];simpa[aU,gV]using nd) (by
   show bP ([]++(cd h t++[]))
   rw[List.nil_append,List.append_nil];exact od) (by simp[bN]) wt zt F hv
  have E':Fm room d 2 S (bh h t) S2 (dL (q,t)):=by
   have e1:aU ([]++([(q,t)]++[]))=dL (q,t):=by simp[aU,gV]
   have e2:pX ((0,t):KT h).1++bh h t++(aU ([]:List (KT h))++aU ([]:List (KT h)))=bh h t:=by rw[e0];simp[aU,gV]
   rw[e1,e2]at E;exact E
  have R':Rw room d S2 h [(q,t)] []:=R;have hst:∀(a b:Int),b<=2->0<=max a 0->max a 0<=2->bj room d f S2 (aT (h+1) (bG [(q,t)] [])) (-1) a b=some ((aT (h+1) (bG [(q,t)] []),0),S2):=fun a b hb' h1 h2=>by
   unfold bj;obtain⟨i,hi⟩:∃i:Nat,max a 0=(i:Int):=⟨(max a 0).toNat,by omega⟩;rw[hi];exact ig hr R' (uo _ _) (by omega) f i b (by omega)
  have G:Gt room d S2 h (q,t):=Gt.of R'.sd wt zt (fun p hp=>R'.us p (by simpa[aU,gV]using hp)) (by have:=R'.nd;simpa[aU,gV]using this) (fun x hx=>R'.is x (by simpa[gV]using hx)) od vl;rw[esw,if_neg (by simp)];split
  ·rw[hst _ _ (by simp) (by omega) (by omega)];exact⟨_,0,_,rfl,fun hc=>absurd rfl hc,fun _=>⟨q,rfl,G,E'⟩⟩
  ·rw[hst _ _ (by simp) (by omega) (by omega)];exact⟨_,0,_,rfl,fun hc=>absurd rfl hc,fun _=>⟨q,rfl,G,E'⟩⟩
 ·rw[if_pos he];simp only;rw[if_pos he];have e0:pX (0:Int)=[]:=by simp[pX]
  rw[e0]at k2;exact⟨_,_,_,rfl,(k2.ext (X:=[]) us nd).mono (by omega),fun h0=>absurd h0 he⟩
end
end P
namespace P
open N
section
variable {room:Nat}{d:Dk}{S S1 S2:Dr}{key:ByteArray}{ed:List En->List En}
def TS (room:Nat)(d:Dk)(S:Dr)(root:Int)(E:List En)(X:List Int)(H:Nat):Prop:=
 (root=0∧E=[]∧X=[]∧Sd room S∧H=0)∨∃h,∃u:KT h,u.1=root∧Gt room d S h u∧Uo h u.2∧dR h u.2=E∧X=dL u∧h=H
structure Rc (key:ByteArray)(ed:List En->List En)(E E' EL es ER:List En):Prop where
 was:E=EL++(es++ER)
 is:E'=EL++(ed es++ER)
 lo:∀x∈EL,bD x.1 key=true
 hi:∀x∈ER,bD key x.1=true
theorem Fm.bt {c:Nat}{S S':Dr}{X X':List Int}(F:Fm room d c S X S' X')(z:Int):Fm room d c (S.bt z) X (S'.bt z) X':=
 ⟨F.ok.bt z,fun p hp=>(F.us p hp).bt z,F.nd,fun p hp hn=>by
  obtain⟨a1,a2,a3,a4⟩:=F.keep p ⟨hp.lo,hp.hi,hp.fr,hp.sp⟩ hn
  exact⟨a1.bt z,a2,a3,a4⟩,F.tight,F.cnt,F.mG,F.Ay,F.Cg,rfl,F.cap,F.mine⟩
theorem Rw.bt {h:Nat}{K:List (KT h)}{ss:List ByteArray}(R:Rw room d S h K ss)(z:Int):Rw room d (S.bt z) h K ss:=⟨R.sd.bt z,R.wl,fun p hp=>(R.us p hp).bt z,R.nd,R.is,R.od,R.vl,R.sz,R.ln⟩
theorem Re (hr:room<=16384)(HJ:∀h,ll room d h)(EH:Na key ed){f m h:Nat}(w:KT h)(hp:P0 S w.1)(sd:Sd room S)(us:∀p∈bh h w.2,Us S p)(nd:(pX w.1++bh h w.2).Nodup)(sm:bS (aT h w.2)=true)(rd:S.read d w.1 0=(aT h w.2,0))(od:bP (cd h w.2))(vl:∀x∈dR h w.2,x.2.size<=40)(hh:h<24)
  (hf:3*((pX w.1++bh h w.2).length+2*h+2)+5<=f)(hb:Bd S ((pX w.1++bh h w.2).length+6*h+6+m))
  {L R:List It}{es EL ER:List En}(loc:Loc h w.2 key L es R EL ER)(lfp:Et d key es 29 S (aT h w.2) 0){n:Nd}{ch:Bool}{e:Int}(t1:bn (bj room d f) room d key ed 29 S (aT h w.2) 0=some ((n,ch,e),S1))(t2:Er room d (4*h) (S.bt (0+h)) (bh h w.2) S1 e)
  (t3:e=0->ch=!decide (ed es=es)∧(ch=false->S1=S.bt (0+h))∧(ch=true->∃t,Ou room d (4*h) (S.bt (0+h)) (bh h w.2) (L++(mI (ed es)++R)) (EL++(ed es++ER)) n S1 h t)):
  Et d key es 30 S ⟨false,[],[w.1],[]⟩ (-1)∧∃n' ch' e' S',bn (bj room d f) room d key ed 30 S ⟨false,[],[w.1],[]⟩ (-1)=some ((n',ch',e'),S')∧Er room d (4*h+4) (S.bt h) (pX w.1++bh h w.2) S' e'∧
   (e'=0->(ch'=false->ed es=es∧S'=S.bt h)∧(ch'=true->∃K' ss',Ou room d (4*h+4) (S.bt h) (pX w.1++bh h w.2) (L++(mI (ed es)++R)) (EL++(ed es++ER)) n' S' (h+1) (bG K' ss')∧bN ss'<=21)):=by
 have hgd:([w.1]:List Int).getD (cY [] key) 0=w.1:=rfl;have h01:(-1:Int)+1=0:=by omega
 have hsm:bS (⟨false,[],[w.1],[]⟩:Nd)=true:=AD hr sd [w] [] (by simp) (by simp[bN]) (fun u hu=>by rw[List.mem_singleton.1 hu];exact hp);have hz:(0:Int)+(h:Int)=(h:Int):=by omega
 refine⟨?_,?_⟩
 ·rw[Et,if_neg (by simp)];simp only[hgd,h01,rd];exact fun _=>lfp
 ·rw[bn,if_neg (by rw[hsm];simp),if_neg (by simp),if_neg (by simp[cY])];simp only[hgd,h01,rd,t1];rw[if_neg (by simp)];by_cases he:e=0
  ·subst he;obtain⟨c1,c2,c3⟩:=t3 rfl;cases ch with
   |false=>
    rw[if_pos (by simp)];refine⟨_,_,_,_,rfl,fun hc=>absurd rfl hc,fun _=>⟨fun _=>⟨?_,by rw[c2 rfl,hz]⟩,fun hc=>by cases hc⟩⟩;simpa using c1.symm
   |true=>
    rw[if_neg (by simp)];obtain⟨t,CR⟩:=c3 rfl;rw[hz]at CR;have eX:pX w.1++bh h w.2++(aU ([]:List (KT h))++aU ([]:List (KT h)))=pX w.1++bh h w.2:=by simp[aU,gV]
    have Xz:bP (L++(mI (ed es)++R)):=rX EH (by rw[<-loc.fl];exact od) (fun x hx=>vl x (by rw[loc.en];simp[hx])) loc.l1 loc.r1 loc.l2 loc.r2;obtain⟨n',e',S',p1,p2,p3⟩:=step_ok (m:=m) (A:=[]) (B:=[]) (sA:=[]) (sB:=[]) (w:=w) (S:=S) (z:=h) hr HJ (depth:=-1) (by omega) ⟨rfl,rfl,(fun _ hc=>by cases hc),(fun _ hc=>by cases hc),(fun _ hc=>by cases hc),(fun _ hc=>by cases hc)⟩ hp us (by rw[eX];exact nd) (uo _ _) (by simp[bN]) sm CR (by
     show bP ([]++((L++(mI (ed es)++R))++[]))
     rw[List.nil_append,List.append_nil];exact Xz) (by omega) (f:=f) (by rw[eX];exact hf) (by rw[eX];exact hb)
    have p1':dX (bj room d f) room S1 ⟨false,[],[w.1],[]⟩ ((cY [] key:Nat):Int) (-1) (aT h w.2) n=some ((n',e'),S'):=p1;rw[p1'];refine⟨_,_,_,_,rfl,by rw[eX]at p2;exact p2,fun he'=>⟨fun hc=>(by cases hc),fun _=>?_⟩⟩;obtain⟨K',ss',P,hz'⟩:=p3 he';refine⟨K',ss',⟨P.n,P.ob,?_,?_,?_,?_⟩,by simpa[bN]using hz'⟩
    ·have:=P.fm
     rwa [eX]at this
    ·have:OI ([]++((L++(mI (ed es)++R))++[])) _:=P.oi;rw[List.nil_append,List.append_nil]at this;exact this
    ·rw[P.en];simp[bM]
    ·have:=P.ln
     rwa [eX]at this
  ·rw[if_pos (.inl he)];rw[hz]at t2;have qT:(bh h w.2++pX w.1).Perm (pX w.1++bh h w.2):=List.perm_append_comm;exact⟨_,_,_,_,rfl,((t2.ext (Y:=pX w.1) (fun q hq=>(yt hp q hq).bt _) (qT.nodup_iff.2 nd)).perm qT).mono (by omega),fun h0=>absurd h0 he⟩
theorem IM (hr:room<=16384){f m h:Nat}{n:Nd}{X:List Int}{F:List It}{E:List En}{K:List (KT h)}{ss:List ByteArray}(P:Ou room d (4*h+4) (S.bt h) X F E n S1 (h+1) (bG K ss))(hz:bN ss<=21)(hh:h+1<24)(hf:3<=f)(hb:Bd S (X.length+8*h+30+m)):
  ∃n2 e2 S2,jS (bj room d f) room 10 S1 n=some ((n2,e2),S2)∧(∃z:Int,Er room d (4*h+4) (S.bt z) X S2 e2)∧(e2=0->∃r S3,(if n2.ks.length=0 then some ((0,0),S2)else if S2.bot< -1000∨1000<S2.bot∨bS n2=false then none else dB d 24 S2 (n2.ks.getD 0 0) 0)=some ((r,0),S3)∧∃z X' H,TS room d S3 r E X' H∧Fm room d (4*h+6) (S.bt z) X S3 X'∧H<=h+1):=by
 obtain⟨rfl,⟨R0,Zh,hz'⟩,Zi,oi,en0,Zj⟩:=P;have R:Rw room d S1 h K ss:=R0;have kp:∀j,KP K ss j:=Zh;have fm:Fm room d (4*h+4) (S.bt h) X S1 (aU K):=Zi;have ln:(aU K).length<=X.length+2*(h+1):=Zj;have en:bM K=E:=en0;clear R0 Zh Zi Zj en0 hz';have Nf:S1.bot=h:=fm.bot;have hb1:Bd S1 ((aU K).length+6+m+4):=fm.bd (hb.bt h) (by omega);have hlen:(aT (h+1) (bG K ss)).ks.length=K.length:=by rw[bR];simp
 have ek:∀v:KT h,aU [v]=dL v:=fun v=>by simp[aU,gV]
 have ec:∀v:KT h,gV [v]=nK v:=fun v=>by simp[gV]
 rw[jS,if_neg (by rw[R.sm hr];simp),hlen];by_cases h1:1<K.length
 ·have hl:ss.length+1=K.length:=by
   rcases R.ln with e| ⟨e,_⟩
   ·exact e
   ·rw[e]at h1;simp at h1
  rw[if_pos h1,if_neg (by omega)];have hrt:=iM hr R.sd K ss hl R.us R.od;have hfi:cA (aT (h+1) (bG K ss))=true:=by
   unfold cA;rw[hrt,Bool.true_and];exact decide_eq_true (show 4+bN ss<=240 by omega)
  have wt:Wl (h+1) (bG K ss):=by rw[rS];exact⟨hl,kp,R.wl⟩
  obtain⟨n2,e2,S2,q1,q2,q3⟩:=Eu (S:=S1.bt (S1.bot+1)) (d:=d) (room:=room) hr (bG K ss) ⟨R.bt _,kp,by show bN ss<=257;omega⟩ wt hfi (.inr (by rw[bR];intro hc;simp at hc;rw[hc]at h1;simp at h1)) (R.sm hr) R.od (f:=f) (m:=m) hf ((hb1.bt _).mono (by show(aU K).length+6+m<=_;omega));have q1':dX (bj room d f) room ⟨S1.x,S1.nodes,S1.cnt,S1.taken,S1.spare,S1.bot+1⟩ ⟨false,[],[0],[]⟩ 0 (-1) nd0 (aT (h+1) (bG K ss))=some ((n2,e2),S2):=q1;rw[q1'];simp only;by_cases he:e2=0
  ·subst he;obtain⟨q,rfl,G,F2⟩:=q3 rfl;rw[if_neg (by simp)];have F2:Fm room d 2 (S1.bt (S1.bot+1)) (aU K) S2 (dL (q,bG K ss)):=F2;have hb2:S2.bot=(h:Int)+1:=by rw[F2.bot];show S1.bot+1=_;omega
   have hB2:Bd S2 ((dL (q,bG K ss)).length+m):=F2.bd (hb1.bt _) (by omega);have Uq:bS (aT (h+1+1) (bG [(q,bG K ss)] []))=true:=AD hr G.g.sd [(q,bG K ss)] [] (by simp) (by simp[bN]) (fun u hu=>by rw[List.mem_singleton.1 hu];exact .inr G.us);have hl2:(aT (h+1+1) (bG [(q,bG K ss)] [])).ks.length=1:=rfl;rw[jS,if_neg (by rw[Uq];simp),hl2,if_neg (by omega)];refine⟨_,0,S2,rfl,⟨0,fun hc=>absurd rfl hc⟩,fun _=>?_⟩;rw[hl2,if_neg (by omega),if_neg (by rw[Uq];simp;omega)];obtain⟨h',u',S',l1,l2,l3,l4,l5,l6⟩:=nP (h+1) (q,bG K ss) S2 24 0 m G (by rw[hb2];omega) (by omega) (by omega) (by omega) hB2;refine⟨u'.1,S',l1,S1.bot+1,dL u',h',.inr ⟨h',u',rfl,l2,l3,?_,rfl,rfl⟩,?_,by omega⟩
   ·rw[l5];exact en
   ·exact(((fm.bt (S1.bot+1)).trans F2).trans l4).mono (by omega)
  ·rw[if_pos he];exact⟨_,_,_,rfl,⟨S1.bot+1,((fm.bt (S1.bot+1)).er q2).mono (by omega)⟩,fun h0=>absurd h0 he⟩
 ·rw[if_neg h1];refine⟨_,0,S1,rfl,⟨0,fun hc=>absurd rfl hc⟩,fun _=>?_⟩;rw[hlen];by_cases h0:K.length=0
  ·have hK:K=[]:=List.length_eq_zero_iff.1 h0;subst hK;rw[if_pos h0];refine⟨0,S1,rfl,h,[],0,.inl ⟨rfl,?_,rfl,R.sd,rfl⟩,fm.mono (by omega),by omega⟩;rw[<-en];rfl
  ·obtain⟨v,rfl⟩:=rQ (l:=K) (by omega);have hwv:=R.wl v (by simp);have hss:ss=[]:=by
    rcases R.ln with e| ⟨e,_⟩
    ·exact List.length_eq_zero_iff.1 (by simpa using e)
    ·cases e
   subst hss;have eF:dh [v] []=cd h v.2:=by simp[dh,iK]
   have G:Gt room d S1 h v:=Gt.of R.sd hwv.1 hwv.2 (by rw[<-ek];exact R.us) (by rw[<-ek];exact R.nd) (by rw[<-ec];exact R.is) (by rw[<-eF];exact R.od) (fun x hx=>R.vl x (by simpa[bM]using hx));rw[if_neg (by simp),if_neg (by rw[R.sm hr];simp;omega)];obtain⟨h',u',S',l1,l2,l3,l4,l5,l6⟩:=nP h v S1 24 0 m G (by rw[Nf];omega) (by omega) (by omega) (by omega) (hb1.mono (by rw[<-ek];omega));refine⟨u'.1,S',l1,h,dL u',h',.inr ⟨h',u',rfl,l2,l3,?_,rfl,rfl⟩,?_,by omega⟩
   ·have e1:bM [v]=dR h v.2:=by simp[bM]
    rw[l5,<-e1];exact en
   ·have fm':Fm room d (4*h+4) (S.bt h) X S1 (dL v):=by rw[<-ek];exact fm
    exact(fm'.trans l4).mono (by omega)
end
end P
namespace P
open N
section
variable {room:Nat}{d:Dk}{S S1 S2:Dr}{key:ByteArray}{ed:List En->List En}
theorem Gt.bt {h:Nat}{u:KT h}(G:Gt room d S h u)(z:Int):Gt room d (S.bt z) h u:=⟨⟨G.g.sd.bt z,G.g.wl,G.g.sz,fun p hp=>(G.g.us p hp).bt z,G.g.nd,G.g.is,G.g.od,G.g.vl⟩,G.us.bt z,G.ni,G.rd⟩
theorem TS.bt {root:Int}{E:List En}{X:List Int}{H:Nat}(T:TS room d S root E X H)(z:Int):TS room d (S.bt z) root E X H:=by
 rcases T with⟨a,b,c,e,f⟩| ⟨h,u,a,b,c⟩
 ·exact .inl ⟨a,b,c,e.bt z,f⟩
 ·exact .inr ⟨h,u,a,b.bt z,c⟩
theorem TS.fm {root:Int}{E:List En}{X:List Int}{H:Nat}(T:TS room d S root E X H):Fm room d 0 S X S X:=by
 rcases T with⟨a,b,rfl,e,f⟩| ⟨h,u,a,b,c,g,rfl,i⟩
 ·exact Fm.refl e (fun _ hc=>by cases hc) List.nodup_nil
 ·exact Fm.refl b.g.sd b.IL.1 b.IL.2.1
theorem yu (hr:room<=16384)(HJ:∀h,ll room d h)(EH:Na key ed){f m h:Nat}(w:KT h)(hp:P0 S w.1)(sd:Sd room S)(us:∀p∈bh h w.2,Us S p)(nd:(pX w.1++bh h w.2).Nodup)(sm:bS (aT h w.2)=true)(rd:S.read d w.1 0=(aT h w.2,0))(od:bP (cd h w.2))(vl:∀x∈dR h w.2,x.2.size<=40)(hh:h+1<24)
  (hf:3*((pX w.1++bh h w.2).length+2*h+2)+5<=f)(hb:Bd S ((pX w.1++bh h w.2).length+8*h+30+m))(T:TS room d S w.1 (dR h w.2) (pX w.1++bh h w.2) h)
  {L R:List It}{es EL ER:List En}(loc:Loc h w.2 key L es R EL ER)(lfp:Et d key es 29 S (aT h w.2) 0){n:Nd}{ch:Bool}{e:Int}(t1:bn (bj room d f) room d key ed 29 S (aT h w.2) 0=some ((n,ch,e),S1))(t2:Er room d (4*h) (S.bt (0+h)) (bh h w.2) S1 e)
  (t3:e=0->ch=!decide (ed es=es)∧(ch=false->S1=S.bt (0+h))∧(ch=true->∃t,Ou room d (4*h) (S.bt (0+h)) (bh h w.2) (L++(mI (ed es)++R)) (EL++(ed es++ER)) n S1 h t)):
  Et d key es 30 S ⟨false,[],[w.1],[]⟩ (-1)∧∃r e S',jT (bj room d f) room d key ed w.1 S=some ((r,e),S')∧(∃z:Int,Er room d (4*h+4) (S.bt z) (pX w.1++bh h w.2) S' e)∧(e=0->∃z X' H' E',TS room d S' r E' X' H'∧Fm room d (4*h+6) (S.bt z) (pX w.1++bh h w.2) S' X'∧H'<=h+1∧Rc key ed (dR h w.2) E' EL es ER):=by
 have hlo:=loc.lo od;obtain⟨lf,n',ch',e',S',c1,c2,c3⟩:=Re (m:=m) hr HJ EH w hp sd us nd sm rd od vl (by omega) hf (hb.mono (by omega)) loc lfp t1 t2 t3;refine⟨lf,?_⟩;unfold jT;rw[c1];simp only;by_cases he:e'=0
 ·subst he;obtain⟨k1,k2⟩:=c3 rfl;cases ch' with
  |false=>
   obtain⟨r1,r2⟩:=k1 rfl;rw[if_pos (by simp),r2];exact⟨_,0,_,rfl,⟨0,fun hc=>absurd rfl hc⟩,fun _=>⟨h,_,h,_,T.bt h,(T.fm.bt h).mono (by omega),by omega,loc.en,by rw[r1];exact loc.en,hlo.1,hlo.2⟩⟩
  |true=>
   obtain⟨K',ss',P,hz⟩:=k2 rfl;rw[if_neg (by simp)];obtain⟨n2,e2,S2,g1,g2,g3⟩:=IM (m:=m) (f:=f) hr P hz hh (by omega) hb;rw[g1];simp only;by_cases he2:e2=0
   ·subst he2;rw[if_neg (by simp)];obtain⟨r,S3,q1,z,X',H',q2,q3,q4⟩:=g3 rfl;rw[q1];exact⟨r,0,S3,rfl,⟨0,fun hc=>absurd rfl hc⟩,fun _=>⟨z,X',H',_,q2,q3,q4,loc.en,rfl,hlo.1,hlo.2⟩⟩
   ·rw[if_pos he2];exact⟨_,_,_,rfl,g2,fun h0=>absurd h0 he2⟩
 ·rw[if_pos (.inl he)];exact⟨_,_,_,rfl,⟨h,c2.mono (by omega)⟩,fun h0=>absurd h0 he⟩
theorem Ng (hr:room<=16384)(HJ:∀h,ll room d h)(EH:Na key ed){f m H:Nat}{root:Int}{E:List En}{X:List Int}(hn0:S.nodes 0=none)(T:TS room d S root E X H)(hH:H+1<24)(hf:3*(X.length+2*H+2)+5<=f)(hb:Bd S (X.length+8*H+30+m)):
  ∃es r e S',Et d key es 30 S ⟨false,[],[root],[]⟩ (-1)∧jT (bj room d f) room d key ed root S=some ((r,e),S')∧(∃z:Int,Er room d (4*H+4) (S.bt z) X S' e)∧(e=0->∃z X' H' E' EL ER,TS room d S' r E' X' H'∧Fm room d (4*H+6) (S.bt z) X S' X'∧H'<=H+1∧Rc key ed E E' EL es ER)∧(∃EL ER,E=EL++(es++ER)∧(∀x∈EL,bD x.1 key=true)∧∀x∈ER,bD key x.1=true):=by
 have T0:=T;rcases T with⟨rfl,rfl,rfl,sd,rfl⟩| ⟨h,u,rfl,G,tb,rfl,rfl,rfl⟩
 ·have XA:S.read d 0 0=(aT 0 [],0):=by
   unfold Dr.read cM;rw[hn0];simp;rfl
  obtain⟨L,es,R,EL,ER,loc,lfp,n,ch,e,S1,t1,t2,t3⟩:=fF (S:=S) (d:=d) (f:=f) hr EH [] 0 29 sd ⟨List.Pairwise.nil,fun _ hc=>by cases hc⟩ (fun _ hc=>by cases hc) (by simp[cx]) (by omega);have e0:pX ((0,[]):KT 0).1++bh 0 ((0,[]):KT 0).2=[]:=rfl;obtain⟨lf,r,e',S',g1,g2,g3⟩:=yu (m:=m) (f:=f) hr HJ EH ((0,[]):KT 0) (.inl rfl) sd (fun _ hc=>by cases hc) (by rw[e0];exact List.nodup_nil) (kr [] (by simp[bQ,aT,dM,cx])) XA ⟨List.Pairwise.nil,fun _ hc=>by cases hc⟩ (fun _ hc=>by cases hc) (by omega) (by rw[e0];exact hf) (by rw[e0];exact hb) (by rw[e0];exact T0) loc lfp t1 t2 t3;refine⟨es,r,e',S',lf,g1,g2,fun he=>?_,EL,ER,loc.en,loc.lo ⟨List.Pairwise.nil,fun _ hc=>by cases hc⟩⟩;obtain⟨z,X',H',E',q1,q2,q3,q4⟩:=g3 he;exact⟨z,X',H',E',EL,ER,q1,q2,q3,q4⟩
 ·have hu0:u.1≠0:=by have:=G.us.lo;omega
  have Ov:pX u.1++bh h u.2=dL u:=by simp[pX,hu0,bV]
  have hlu:(bh h u.2).length<=(dL u).length:=by rw[bV];simp
  obtain⟨L,es,R,EL,ER,loc,lfp,n,ch,e,S1,t1,t2,t3⟩:=rY (S:=S) (d:=d) (f:=f) (m:=m) hr HJ EH h u.2 0 29 G.g (by omega) (by omega) (by omega) (hb.mono (by omega));have XA:S.read d u.1 0=(aT h u.2,0):=by rw[S.gy d _ _ (by omega)];exact G.rd
  obtain⟨lf,r,e',S',g1,g2,g3⟩:=yu (m:=m) (f:=f) hr HJ EH u (.inr G.us) G.g.sd G.g.us (by rw[Ov];exact G.IL.2.1) (G.g.sm hr) XA G.g.od G.g.vl hH (by rw[Ov];exact hf) (by rw[Ov];exact hb) (by rw[Ov];exact T0) loc lfp t1 t2 t3;refine⟨es,r,e',S',lf,g1,by rw[Ov]at g2;exact g2,fun he=>?_,EL,ER,loc.en,loc.lo G.g.od⟩;obtain⟨z,X',H',E',q1,q2,q3,q4⟩:=g3 he;rw[Ov]at q2;exact⟨z,X',H',E',EL,ER,q1,q2,q3,q4⟩
end
end P
namespace P
open N
section
variable {h:Nat}
def NP:List (KT h)->Prop
 |u::v::K=>(80<=bQ h u.2∨80<=bQ h v.2)∧NP (v::K)
 |_=>True
theorem Ow:∀ {K:List (KT h)} {ss:List ByteArray},ss.length+1=K.length->(∀j,KP K ss j)->(∀s∈ss,s.size<=16)->NP K
 |[],_,_,_,_=>trivial
 |[_],_,_,_,_=>trivial
 |u::v::K,[],hl,_,_=>by simp at hl
 |u::v::K,k::ss,hl,hk,hs=>by
  refine⟨?_,Ow (ss:=ss) (by simpa using hl) (fun j=>?_) (fun s hx=>hs s (by simp[hx]))⟩
  ·by_cases hc:80<=bQ h u.2
   ·exact .inl hc
   ·right;have h1:=(hk 0 [] u v K [] k ss rfl rfl rfl).1 rfl (by omega);rw[nL]at h1;have h2:=hs k (by simp);split at h1<;>omega
  ·intro A a b B sA k' sB e1 e2 e3;have:=hk (j+1) (u::A) a b B (k::sA) k' sB (by rw[e1];rfl) (by rw[e2];rfl) (by simpa using e3);exact⟨fun hj=>this.1 (by simp;omega),fun hB hj=>this.2 hB (by simp;omega)⟩
def sH (K:List (KT h)):Nat:=K.countP fun u=>decide (bQ h u.2<80)
def nQ (K:List (KT h)):Nat:=K.countP fun u=>decide (80<=bQ h u.2)
theorem Ur (K:List (KT h)):sH K+nQ K=K.length:=by
 induction K with
 |nil=>rfl
 |cons u K ih=>
  unfold sH nQ at*;rw[List.countP_cons,List.countP_cons,List.length_cons];by_cases hc:bQ h u.2<80
  ·have:¬80<=bQ h u.2:=by omega
   simp[hc,this];omega
  ·have:80<=bQ h u.2:=by omega
   simp[hc,this];omega
theorem IQ:∀ {K:List (KT h)},NP K->sH K<=nQ K+1∧(∀u K',K=u::K'->80<=bQ h u.2->sH K<=nQ K)
 |[],_=>⟨by simp[sH,nQ],fun _ _ hc=>by cases hc⟩
 |[u],_=>by
  refine⟨?_,fun u' K' hc hz=>?_⟩
  ·unfold sH nQ;rw[List.countP_cons,List.countP_cons];simp;split<;>omega
  ·cases hc;unfold sH nQ;simp[hz]
 |u::v::K,hn=>by
  obtain⟨i1,i2⟩:=IQ hn.2;have e1:sH (u::v::K)=sH (v::K)+(if bQ h u.2<80 then 1 else 0):=by unfold sH;rw[List.countP_cons];simp
  have e2:nQ (u::v::K)=nQ (v::K)+(if 80<=bQ h u.2 then 1 else 0):=by unfold nQ;rw[List.countP_cons];simp
  rw[e1,e2];by_cases hc:bQ h u.2<80
  ·have hv:80<=bQ h v.2:=by rcases hn.1 with e|e<;>omega
   have:=i2 v K rfl hv;refine⟨by rw[if_pos hc,if_neg (by omega)];omega,fun u' K' he hz=>?_⟩;cases he;omega
  ·refine⟨by rw[if_neg hc,if_pos (by omega)];omega,fun u' K' he hz=>?_⟩;rw[if_neg hc,if_pos (by omega)];omega
structure Ut (h:Nat)(b:BT h):Prop where
 one:1<=(dR h b).length
 big:80<=bQ h b->2^(h+1)<=(dR h b).length
 any:(4*((bh h b).length+1:Nat):Int)<=7*(dR h b).length-3+4*h
 few:80<=bQ h b->(4*((bh h b).length+1:Nat):Int)<=7*(dR h b).length-7-12*h
theorem Cr:∀ {K:List (KT h)},(∀u∈K,Ut h u.2)->K.length<=(bM K).length∧nQ K*2^(h+1)<=(bM K).length∧(4*(aU K).length:Int)<=7*(bM K).length+sH K*(4*h-3)-nQ K*(12*h+7)
 |[],_=>by simp[bM,nQ,sH,aU,gV]
 |u::K,hK=>by
  obtain⟨i1,i2,i3⟩:=Cr (K:=K) (fun v hv=>hK v (List.mem_cons_of_mem _ hv));have C:=hK u (List.mem_cons_self ..);have e1:sH (u::K)=sH K+(if bQ h u.2<80 then 1 else 0):=by unfold sH;rw[List.countP_cons];simp
  have e2:nQ (u::K)=nQ K+(if 80<=bQ h u.2 then 1 else 0):=by unfold nQ;rw[List.countP_cons];simp
  have e3:(bM (u::K)).length=(dR h u.2).length+(bM K).length:=by rw[bT,List.length_append]
  have e4:(aU (u::K)).length=(bh h u.2).length+1+(aU K).length:=by rw[bA,bV,List.length_append,List.length_cons]
  have c1:=C.one;have c2:=C.any;by_cases hc:bQ h u.2<80
  ·have JD:sH (u::K)=sH K+1:=by rw[e1,if_pos hc]
   have e2':nQ (u::K)=nQ K:=by rw[e2,if_neg (by omega)];rfl
   rw[JD,e2',e3,e4,List.length_cons];refine⟨by omega,by omega,?_⟩
   push_cast at c2⊢
   rw[Int.add_mul];omega
  ·have hg:80<=bQ h u.2:=by omega
   have c3:=C.big hg;have c4:=C.few hg;have JD:sH (u::K)=sH K:=by rw[e1,if_neg hc];rfl
   have e2':nQ (u::K)=nQ K+1:=by rw[e2,if_pos hg]
   rw[JD,e2',e3,e4,List.length_cons];refine⟨by omega,by rw[Nat.add_mul];omega,?_⟩
   push_cast at c4⊢
   rw[Int.add_mul (nQ K:Int)];omega
theorem IU (l:List En)(h0:l≠[])(hx:∀x∈l,kA x<=58):Ut 0 l:=by
 have h1:1<=l.length:=List.length_pos_iff.2 h0;have h2:80<=bQ 0 l->2<=l.length:=fun hz=>by
  have:=j5 hx;have hz:80<=cx l:=hz;omega
 have e1:(dR 0 l).length=l.length:=rfl;have e2:(bh 0 l).length=0:=rfl;refine⟨h1,fun hz=>h2 hz,?_,fun hz=>?_⟩
 ·rw[e1,e2];push_cast;omega
 ·have:=h2 hz;rw[e1,e2];push_cast;omega
theorem uq (K:List (KT h))(ss:List ByteArray)(hl:ss.length+1=K.length)(hk:∀j,KP K ss j)(hs:∀s∈ss,s.size<=16)(hK:∀u∈K,Ut h u.2):Ut (h+1) (bG K ss)∧(2<=K.length->2^(h+1)<=(bM K).length):=by
 obtain⟨i1,i2,i3⟩:=Cr hK;have np:=Ow hl hk hs;obtain⟨c1,_⟩:=IQ np;have c2:=Ur K;have e1:(dR (h+1) (bG K ss)).length=(bM K).length:=rfl;have e2:(bh (h+1) (bG K ss)).length=(aU K).length:=rfl;have hbig:80<=bQ (h+1) (bG K ss)->5<=K.length:=fun hz=>by
  have hz:80<=4+bN ss:=hz;have:=tO hs;omega
 have kk:(sH K:Int)*(4*h-3)- (nQ K:Int)*(12*h+7)<=4*h-3∧(5<=K.length->(sH K:Int)*(4*h-3)- (nQ K:Int)*(12*h+7)<=-(12*h)-23):=by
  by_cases h0:h=0
  ·subst h0;simp only[Int.natCast_zero,Int.mul_zero];omega
  ·have e:(12*(h:Int)+7)=(4*h-3)+(8*h+10):=by omega
   have hpos:(0:Int)<=4*h-3:=by omega
   have k1:(sH K:Int)*(4*h-3)<=((nQ K:Int)+1)*(4*h-3):=Int.mul_le_mul_of_nonneg_right (by omega) hpos;rw[Int.add_mul,Int.one_mul]at k1;have g2:∀q:Nat,q<=nQ K->(q:Int)*(8*h+10)<=(nQ K:Int)*(8*h+10):=fun q hq=>Int.mul_le_mul_of_nonneg_right (by omega) (by omega);rw[e,Int.mul_add];refine⟨?_,fun h5=>?_⟩
   ·have:=g2 0 (by omega);simp only[Int.natCast_zero,Int.zero_mul]at this;omega
   ·have:=g2 2 (by omega);simp only[Int.cast_ofNat_Int]at this;omega
 have Zk:∀q:Nat,q<=nQ K->q*2^(h+1)<=(bM K).length:=fun q hq=>Nat.le_trans (Nat.mul_le_mul_right _ hq) i2;refine⟨⟨by rw[e1];omega,fun hz=>?_,?_,fun hz=>?_⟩,fun h2=>?_⟩
 ·have:=hbig hz;have:=Zk 2 (by omega);rw[e1,Nat.pow_succ 2 (h+1)];omega
 ·have:=kk.1;rw[e1,e2]
  push_cast
  omega
 ·have:=kk.2 (hbig hz);rw[e1,e2]
  push_cast
  omega
 ·have:=Zk 1 (by omega);omega
theorem vQ {room:Nat}{d:Dk}{S:Dr}:∀(h:Nat) (b:BT h),Wl h b->bP (cd h b)->(∀x∈dR h b,x.2.size<=40)->Ut h b
 |0,l,wl,od,vl=>IU l wl (fun x hx=>nr (od.sz (false,x.1) (iO 0 l x hx)).2 (vl x hx))
 |h+1,b,wl,od,vl=>by
  obtain⟨K,ss,rfl⟩:=fq b;have od:bP (dh K ss):=od;refine(uq K ss wl.1 wl.2.1 (fun s hs=>?_) (fun u hu=>?_)).1
  ·have h1:=od.sub (gT (K.map fun u=>cd h u.2) ss (by have:=wl.1;simp only[bG]at this;simp;omega));exact(h1.sz (true,s) (List.mem_map_of_mem (f:=fun s=>((true,s):It)) hs)).2
  ·obtain⟨A,B,rfl⟩:=List.append_of_mem hu;refine vQ (room:=room) (d:=d) (S:=S) h u.2 (wl.2.2 u hu).1 ?_ (fun x hx=>vl x (by rw[oz,cf,bT];simp[hx]));have hl:=wl.1;simp only[bG]at hl;have e:ss=ss.take A.length++ss.drop A.length:=(List.take_append_drop _ _).symm;rw[e,eQ (by rw[List.length_take];simp at hl;omega)]at od;exact od.sub (List.Sublist.trans (List.sublist_append_left _ _) (List.sublist_append_right _ _))
theorem TS.cnt {room:Nat}{d:Dk}{S:Dr}{root:Int}{E:List En}{X:List Int}{H:Nat}(T:TS room d S root E X H):(4*X.length:Int)<=7*E.length+4*H∧(H=0∨2^H<=E.length):=by
 rcases T with⟨rfl,rfl,rfl,sd,rfl⟩| ⟨h,u,rfl,G,tb,rfl,rfl,rfl⟩
 ·simp
 ·have C:=vQ (room:=room) (d:=d) (S:=S) h u.2 G.g.wl G.g.od G.g.vl;have c1:=C.any;refine⟨?_,?_⟩
  ·rw[bV,List.length_cons];omega
  ·cases h with
   |zero=>exact .inl rfl
   |succ h=>
    right;obtain⟨p,b⟩:=u;obtain⟨K,ss,rfl⟩:=fq b;have hl:ss.length+1=K.length:=G.g.wl.1;have tb:K.length≠1:=tb;have R:=G.g.rw;have od:bP (dh K ss):=R.od;refine(uq K ss hl G.g.wl.2.1 (fun s hs=>?_) (fun u hu=>?_)).2 (by omega)
    ·have h1:=od.sub (gT (K.map fun u=>cd h u.2) ss (by simp;omega));exact(h1.sz (true,s) (List.mem_map_of_mem (f:=fun s=>((true,s):It)) hs)).2
    ·obtain⟨A,B,rfl⟩:=List.append_of_mem hu;refine vQ (room:=room) (d:=d) (S:=S) h u.2 (R.wl u hu).1 ?_ (fun x hx=>R.vl x (by rw[cf,bT];simp[hx]));have e:ss=ss.take A.length++ss.drop A.length:=(List.take_append_drop _ _).symm;rw[e,eQ (by rw[List.length_take];simp at hl;omega)]at od;exact od.sub (List.Sublist.trans (List.sublist_append_left _ _) (List.sublist_append_right _ _))
end
end P
namespace P
open N
theorem pO:∀(l:List (List It)) (ss:List ByteArray),l.flatten.Sublist (iK l ss)
 |[],ss=>by rw[rN];exact List.Sublist.refl _
 |x::l,[]=>List.Sublist.refl _
 |x::l,s::ss=>by
  rw[gI,List.flatten_cons];exact List.Sublist.append (List.Sublist.refl _) (List.Sublist.trans (pO l ss) (List.sublist_cons_self _ _))
theorem yw {α β:Type}{f g:α->List β}:∀ {l:List α},(∀x∈l,(f x).Sublist (g x))->(l.map f).flatten.Sublist (l.map g).flatten
 |[],_=>List.Sublist.refl _
 |x::l,hx=>by
  rw[List.map_cons,List.map_cons,List.flatten_cons,List.flatten_cons];exact List.Sublist.append (hx x (List.mem_cons_self ..)) (yw fun y hy=>hx y (List.mem_cons_of_mem _ hy))
theorem yx:∀(h:Nat) (b:BT h),(mI (dR h b)).Sublist (cd h b)
 |0,l=>List.Sublist.refl _
 |h+1,b=>by
  obtain⟨K,ss,rfl⟩:=fq b;rw[oz,Iw];have e:mI (bM K)=(K.map fun u=>mI (dR h u.2)).flatten:=by
   unfold mI bM;rw[List.map_flatten,List.map_map];rfl
  rw[e];exact List.Sublist.trans (yw fun u hu=>yx h u.2) (pO _ _)
theorem TS.rg {room:Nat}{d:Dk}{S:Dr}{root:Int}{E:List En}{X:List Int}{H:Nat}(T:TS room d S root E X H):Rg E:=by
 rcases T with⟨rfl,rfl,rfl,sd,rfl⟩| ⟨h,u,rfl,G,tb,rfl,rfl,rfl⟩
 ·exact Rg.nil
 ·exact bP.leaf (G.g.od.sub (yx h u.2)) G.g.vl
theorem Cs (x:En):∀l,cx (kR x l)=kA x+cx l
 |[]=>by simp[kR,cx]
 |y::l=>by
  unfold kR;split
  ·simp[cx]
  ·simp only[cx,Cs x l];omega
theorem lz (p:En->Bool):∀l:List En,cx (l.filter p)<=cx l
 |[]=>by simp
 |x::l=>by
  rw[List.filter_cons];have:=lz p l;split<;>simp only[cx]<;>omega
def Ox (key val:ByteArray):List En->List En:=fun es=>if(dg key val&&fX es)=true then tK es key val else es
def Ss (key:ByteArray):List En->List En:=fun es=>if fX es=true then oY es key else es
theorem vR {key val:ByteArray}(hm:dg key val=true){es:List En}(h:Rg es):Ox key val es=tK es key val:=by
 unfold Ox;rw[hm,fY h];rfl
theorem vS {key:ByteArray}{es:List En}(h:Rg es):Ss key es=oY es key:=by
 unfold Ss;rw[fY h];rfl
theorem Nh {key val:ByteArray}(hm:dg key val=true):Na key (Ox key val):=by
 refine⟨fun es h=>by rw[vR hm h];exact zy h hm,fun es h x hx=>?_,fun es h=>?_⟩
 ·rw[vR hm h]at hx;rcases oZ.1 hx with rfl|hx
  ·have h1:=cF.1 hm;exact .inl ⟨rfl,h1.1,h1.2.1⟩
  ·exact .inr hx.1
 ·rw[vR hm h];have h1:=cF.1 hm;have h2:=lz (fun x=>!decide (x.1=key)) es;unfold tK oY;rw[Cs];have:kA (key,val)<=58:=nr h1.2.1 h1.2.2;omega
theorem Ni (key:ByteArray):Na key (Ss key):=by
 refine⟨fun es h=>by rw[vS h];exact uK h key,fun es h x hx=>?_,fun es h=>?_⟩
 ·rw[vS h]at hx;exact .inr (j4.1 hx).1
 ·rw[vS h];have h2:=lz (fun x=>!decide (x.1=key)) es;unfold oY;omega
theorem nR {EL es ER:List En}(h:Rg (EL++(es++ER))):Rg es:=h.sub (List.Sublist.trans (List.sublist_append_left _ _) (List.sublist_append_right _ _))
theorem Rc.put {key val:ByteArray}{E E' EL es ER:List En}(hm:dg key val=true)(R:Rc key (Ox key val) E E' EL es ER)(h:Rg E)(h':Rg E'):E'=tK E key val:=by
 obtain⟨rfl,rfl,lo,hi⟩:=R;rw[vR hm (nR h)]at h'⊢;refine Rg.ext h' (zy h hm) fun x=>?_;rw[oZ];simp only[List.mem_append,oZ];constructor
 ·rintro(hx| (rfl|hx)|hx)
  ·exact .inr ⟨.inl hx,fD (lo x hx)⟩
  ·exact .inl rfl
  ·exact .inr ⟨.inr (.inl hx.1),hx.2⟩
  ·exact .inr ⟨.inr (.inr hx),(fD (hi x hx)).symm⟩
 ·rintro(rfl| ⟨hx|hx|hx,hn⟩)
  ·exact .inr (.inl (.inl rfl))
  ·exact .inl hx
  ·exact .inr (.inl (.inr ⟨hx,hn⟩))
  ·exact .inr (.inr hx)
theorem Rc.del {key:ByteArray}{E E' EL es ER:List En}(R:Rc key (Ss key) E E' EL es ER)(h:Rg E)(h':Rg E'):E'=oY E key:=by
 obtain⟨rfl,rfl,lo,hi⟩:=R;rw[vS (nR h)]at h'⊢;refine Rg.ext h' (uK h key) fun x=>?_;rw[j4];simp only[List.mem_append,j4];constructor
 ·rintro(hx|hx|hx)
  ·exact⟨.inl hx,fD (lo x hx)⟩
  ·exact⟨.inr (.inl hx.1),hx.2⟩
  ·exact⟨.inr (.inr hx),(fD (hi x hx)).symm⟩
 ·rintro⟨hx|hx|hx,hn⟩
  ·exact .inl hx
  ·exact .inr (.inl ⟨hx,hn⟩)
  ·exact .inr (.inr hx)
theorem yz {key:ByteArray}{EL es ER:List En}(lo:∀x∈EL,bD x.1 key=true)(hi:∀x∈ER,bD key x.1=true):kH (EL++(es++ER)) key=kH es key:=by
 rw[Bool.eq_iff_iff,fN,fN];simp only[List.mem_append];constructor
 ·rintro⟨x,hx|hx|hx,e⟩
  ·exact absurd e (fD (lo x hx))
  ·exact⟨x,hx,e⟩
  ·exact absurd e.symm (fD (hi x hx))
 ·rintro⟨x,hx,e⟩;exact⟨x,.inr (.inl hx),e⟩
theorem Rf {key:ByteArray}{EL es ER:List En}(h:Rg (EL++(es++ER)))(lo:∀x∈EL,bD x.1 key=true)(hi:∀x∈ER,bD key x.1=true):tJ (EL++(es++ER)) key=tJ es key:=by
 refine(Ku h (nR h) fun v=>?_).2;simp only[List.mem_append];constructor
 ·rintro(hx|hx|hx)
  ·exact absurd rfl (fD (lo _ hx))
  ·exact hx
  ·exact absurd rfl (fD (hi _ hx))
 ·exact fun hx=>.inr (.inl hx)
end P
namespace P
open N
section
variable {room:Nat}{d:Dk}
theorem Nj {free:List Pr}{id:Int}(hc:Cn free)(h0:0<=id∧id<=4294967295)(hn:¬cU free id):iZ (A5 free [(id,id)])=iZ free+1:=by
 have h1:=Ds free [(id,id)];have c1:Cn [(id,id)]:=⟨fun r hr=>by rw[List.mem_singleton.1 hr];exact⟨h0.1,Int.le_refl _,h0.2⟩,by simp⟩;have e1:tE free [(id,id)]=[]:=qz _ _ (mV _ _) Cn.nil fun n=>by
  rw[mW];constructor
  ·rintro⟨h2,h3⟩;have:=(eK _ _).1 h3;have e:n=id:=by have:=this.2.2;omega
   exact absurd (e▸h2) hn
  ·exact fun h2=>absurd h2 (dm n)
 rw[e1,tF hc,tF c1,oV]at h1;have e2:iZ [(id,id)]=1:=by simp[iZ]
 omega
theorem rZ:∀(l:List Int) (x:TX),room<=4294967295->x.Ok room->(∀q∈l,(x.fresh q).isSome=true)->l.Nodup->
  (aH x l).Ok room∧(aH x l).pages=x.pages∧(aH x l).cnt=x.cnt∧(∀q,(aH x l).fresh q=if q∈l then none else x.fresh q)∧(∀q,cU (aH x l).free q↔cU x.free q∨q∈l)∧(aH x l).cap room=x.cap room+l.length
 |[],x,_,ok,_,_=>⟨ok,rfl,rfl,by simp[aH],by simp[aH],by simp[aH]⟩
 |id::l,x,hr,ok,hf,nd=>by
  have hid:=hf id (by simp);have k:=ok.fs id hid;have hpr:=ok.pr;obtain⟨n1,n2⟩:=List.nodup_cons.1 nd;have e0:x.drop id=⟨A5 x.free [(id,id)],x.pages,qu x.fresh id,x.cnt⟩:=by unfold TX.drop;rw[if_pos hid]
  have hnf:¬cU x.free id:=fun c=>by rw[ok.dj id c]at hid;cases hid
  obtain⟨r1,r2,r3,r4,r5,r6⟩:=rZ l (x.drop id) hr (TX.A6 ok id) (fun q hq=>by
   rw[e0]
   simp only
   rw[nc,hf q (by simp[hq])]
   have:q≠id:=fun e=>n1 (e▸hq)
   simp[this]) n2
  have e1:aH x (id::l)=aH (x.drop id) l:=rfl;rw[e1];refine⟨r1,by rw[r2,e0],by rw[r3,e0],fun q=>?_,fun q=>?_,?_⟩
  ·rw[r4 q,e0];simp only[qu,List.mem_cons];by_cases h1:q=id
   ·subst h1;simp
   ·simp[h1]
  ·rw[r5 q,e0];simp only;rw[uF,eK,List.mem_cons];constructor
   ·rintro((h1|h1)|h1)
    ·exact .inl h1
    ·exact .inr (.inl (by omega))
    ·exact .inr (.inr h1)
   ·rintro(h1|rfl|h1)
    ·exact .inl (.inl h1)
    ·exact .inl (.inr ⟨by omega,by omega,by simp,by simp⟩)
    ·exact .inr h1
  ·rw[r6,e0];unfold TX.cap;simp only;rw[Nj ok.cn (by omega) hnf,List.length_cons]
   push_cast
   omega
def IV (n:Nd):C3:=⟨true,(jq n).toNat.toUInt8,ia n⟩
theorem my {n:Nd}(hf:cA n=true):(ia n).size<=240:=by
 have h1:=hf;unfold cA at h1;rw[Bool.and_eq_true,decide_eq_true_eq]at h1;unfold ia;rw[if_pos hf];show(vY n).toArray.size<=240;rw[List.size_toArray,gR h1.1];exact h1.2
theorem yA (nodes:Int->Option Nd):∀(L:List Int) (x:TX),x.Ok room->(∀q∈L,(x.fresh q).isSome=true∧∃n,nodes q=some n∧cA n=true)->
  (cH nodes x L).Ok room∧(cH nodes x L).pages=x.pages∧(cH nodes x L).free=x.free∧(cH nodes x L).cnt=x.cnt+L.length∧(∀q,(cH nodes x L).fresh q=if q∈L then(nodes q).map IV else x.fresh q)
 |[],x,ok,_=>⟨ok,rfl,rfl,rfl,by simp[cH]⟩
 |id::L,x,ok,hL=>by
  obtain⟨hf,n,hn,hfi⟩:=hL id (by simp);have hs:=my hfi;have e0:(x.put id (jq ((nodes id).getD nd0)).toNat.toUInt8 (ia ((nodes id).getD nd0))).2=⟨x.free,x.pages,gq x.fresh id (IV n),x.cnt+1⟩:=by
   rw[hn];unfold TX.put;rw[if_pos hf,if_neg (by simp only[Option.getD_some];omega)];rfl
  have ok':=TX.zl ok id (jq ((nodes id).getD nd0)).toNat.toUInt8 (ia ((nodes id).getD nd0));rw[e0]at ok';obtain⟨r1,r2,r3,r4,r5⟩:=yA nodes L _ ok' (fun q hq=>⟨by simp only;rw[dy,(hL q (by simp[hq])).1,Bool.or_true],(hL q (by simp[hq])).2⟩);have e1:cH nodes x (id::L)=cH nodes ⟨x.free,x.pages,gq x.fresh id (IV n),x.cnt+1⟩ L:=by rw[cH,e0]
  rw[e1];refine⟨r1,r2,r3,by rw[r4,List.length_cons];simp only;omega,fun q=>?_⟩;rw[r5 q];by_cases h1:q∈L
  ·simp[h1]
  ·by_cases h2:q=id
   ·subst h2;simp[h1,hn,gq]
   ·simp[h1,h2,gq]
theorem Uu {y:TX}{p:Int}{n:Nd}(hp:2<=p)(hf:cA n=true)(hc:y.fresh p=some (IV n)):(eR y).vw d p=(n,0):=by
 have h1:=hf;unfold cA at h1;rw[Bool.and_eq_true,decide_eq_true_eq]at h1;have hd:=xu h1.1 h1.2;have hb:(ia n).data.toList=vY n:=by unfold ia;rw[if_pos hf]
 have hk:jq n=vZ n:=by unfold jq;rw[if_pos hf]
 unfold Dr.vw Dr.read cM;have e0:¬(((eR y).nodes p).isSome=true∧(0:Int)<24):=by simp[eR]
 rw[if_neg e0,if_neg (by omega),if_neg (by omega)];have ex:(eR y).x=y:=rfl;rw[ex];unfold bO TX.get;rw[hc];by_cases hl:n.leaf=true
 ·have e1:vZ n=1:=by unfold vZ;rw[if_pos hl]
  have e2:(IV n).kind=1:=by show(jq n).toNat.toUInt8=1;rw[hk,e1];rfl
  have e3:(IV n).there=true:=rfl;have e4:(IV n).body=ia n:=rfl;simp only[e2,e3,e4,and_self,if_true];unfold jr sr su;rw[hb];rw[e1]at hd;rw[hd];simp[jn]
 ·have e1:vZ n=2:=by unfold vZ;rw[if_neg hl]
  have e2:(IV n).kind=2:=by show(jq n).toNat.toUInt8=2;rw[hk,e1];rfl
  have e3:(IV n).there=true:=rfl;have e4:(IV n).body=ia n:=rfl;have e5:¬((2:UInt8)=1):=by decide
  simp only[e2,e3,e4,e5,and_self,and_false,if_false,if_true];unfold jr sr su;rw[hb];rw[e1]at hd;rw[hd];simp[jn]
end
end P
namespace P
open N
section
variable {room:Nat}{d:Dk}{x:TX}{root:Int}{E:List En}{X:List Int}{H:Nat}{key:ByteArray}{ed:List En->List En}
theorem Zl (ok:x.Ok room)(bz:∀q c,x.fresh q=some c->c.body.size<=240):Sd room (eR x):=⟨ok,(fun _ hc=>by cases hc),(fun _ hc=>by cases hc),List.nodup_nil,(fun _ _ hc=>by cases hc),bz,(fun _ hc=>by cases hc)⟩
theorem TS.move {S S2:Dr}(T:TS room d S root E X H)(sd:Sd room S2)(us:∀p∈X,Us S2 p)(vw:∀p∈X,S2.vw d p=S.vw d p):TS room d S2 root E X H:=by
 rcases T with⟨a,b,c,_,f⟩| ⟨h,u,a,G,tb,e,rfl,f⟩
 ·exact .inl ⟨a,b,c,sd,f⟩
 ·refine .inr ⟨h,u,a,Gt.of sd G.g.wl G.g.sz us G.IL.2.1 (fun y hy=>?_) G.g.od G.g.vl,tb,e,rfl,f⟩;have hm:y.1∈dL u:=List.mem_map_of_mem (f:=Prod.fst) hy;rw[vw y.1 hm];exact G.IL.2.2 y hy
theorem TS.us {S:Dr}(T:TS room d S root E X H):∀p∈X,Us S p:=T.fm.us
theorem TS.sd {S:Dr}(T:TS room d S root E X H):Sd room S:=T.fm.ok
structure Tx (room:Nat)(d:Dk)(x:TX)(root:Int)(E:List En)(X:List Int)(H:Nat):Prop where
 ts:TS room d (eR x) root E X H
 own:∀p,(x.fresh p).isSome=true->p∈X
structure Mn (room:Nat)(x:TX)(X:List Int):Prop where
 all:∀p∈X,(x.fresh p).isSome=true
 cap:x.cap room+X.length=(room:Int)-2
theorem IW {z:Int}{c:Nat}{S':Dr}{r:Int}{E':List En}{X':List Int}{H':Nat}(hr:room<=16384)(T:Tx room d x root E X H)(T':TS room d S' r E' X' H')(F:Fm room d c ((eR x).bt z) X S' X')(L:List Int)(hL:∀k,k∈L↔(S'.nodes k).isSome=true):
  Tx room d (cH S'.nodes (aH S'.x S'.spare) L) r E' X' H'∧(Mn room x X->Mn room (cH S'.nodes (aH S'.x S'.spare) L) X')∧(cH S'.nodes (aH S'.x S'.spare) L).cnt=S'.x.cnt+L.length∧∀k∈L,k∈X':=by
 have sd:=F.ok;obtain⟨a1,a2,a3,a4,a5,a6⟩:=rZ S'.spare S'.x (by omega) sd.x sd.sp sd.sn;obtain⟨b1,b2,b3,b4,b5⟩:=yA S'.nodes L (aH S'.x S'.spare) a1 (fun q hq=>by
  have h1:=(hL q).1 hq
  have h2:=sd.nf q h1
  obtain⟨n,hn⟩:=Option.isSome_iff_exists.1 h1
  exact⟨by rw[a4 q,if_neg h2.2];exact h2.1,n,hn,sd.fi q n hn⟩)
 generalize hy:cH S'.nodes (aH S'.x S'.spare) L=y at*;have fr:∀q,y.fresh q=if q∈L then(S'.nodes q).map IV else if q∈S'.spare then none else S'.x.fresh q:=fun q=>by rw[b5 q,a4 q]
 have fs:∀q,(y.fresh q).isSome=true↔(S'.x.fresh q).isSome=true∧q∉S'.spare:=fun q=>by
  rw[fr q];by_cases h1:q∈L
  ·have h2:=(hL q).1 h1;have h3:=sd.nf q h2;rw[if_pos h1];simp[h2,h3]
  ·rw[if_neg h1];by_cases h2:q∈S'.spare
   ·rw[if_pos h2];simp[h2]
   ·rw[if_neg h2];simp[h2]
 have bz:∀q c,y.fresh q=some c->c.body.size<=240:=fun q c hc=>by
  rw[fr q]at hc;split at hc
  ·obtain⟨n,hn,rfl⟩:=Option.map_eq_some_iff.1 hc;exact my (sd.fi q n hn)
  ·split at hc
   ·cases hc
   ·exact sd.bz q c hc
 have inf:∀q,cU y.free q↔cU S'.x.free q∨q∈S'.spare:=fun q=>by rw[b3];exact a5 q
 have us:∀p∈X',Us (eR y) p:=fun p hp=>by
  have h1:=T'.us p hp;refine⟨h1.lo,?_,fun hc=>?_,by simp[eR]⟩
  ·show p< (y.pages:Int);rw[b2,a2];exact h1.hi
  ·rcases(inf p).1 hc with h2|h2
   ·exact h1.fr h2
   ·exact h1.sp h2
 have vw:∀p∈X',(eR y).vw d p=S'.vw d p:=fun p hp=>by
  have h1:=T'.us p hp;by_cases h2:p∈L
  ·obtain⟨n,hn⟩:=Option.isSome_iff_exists.1 ((hL p).1 h2);rw[Uu h1.lo (sd.fi p n hn) (by rw[fr p,if_pos h2,hn];rfl)];simp[Dr.vw,Dr.read,hn]
  ·have hn:S'.nodes p=none:=by
    cases hc:S'.nodes p with
    |none=>rfl
    |some n=>exact absurd ((hL p).2 (by rw[hc];rfl)) h2
   have hf:y.fresh p=S'.x.fresh p:=by rw[fr p,if_neg h2,if_neg h1.sp]
   have hg:∀k,bO y d p k=bO S'.x d p k:=fun k=>by
    unfold bO TX.get;rw[hf,b2,a2,iX (show¬cU y.free p from(us p hp).fr),iX h1.fr]
   exact mH (S':=eR y) (hg 1) (hg 2) (by rw[hn];rfl)
 refine⟨⟨T'.move (Zl b1 bz) us vw,fun p hp=>?_⟩,fun M=>⟨fun p hp=>?_,?_⟩,by rw[b4,a3],fun k hk=>?_⟩
 ·have h1:=(fs p).1 hp;rcases F.tight p h1.1 h1.2 with h2| ⟨h2,_,h3⟩
  ·exact h2
  ·exact absurd (T.own p h2) h3
 ·have hm:=(F.mine (fun q hq=>(dI _ q).2 ⟨M.all q hq,by simp[eR,Dr.bt]⟩)).1 p hp;exact(fs p).2 ((dI _ p).1 hm)
 ·have hm:=(F.mine (fun q hq=>(dI _ q).2 ⟨M.all q hq,by simp[eR,Dr.bt]⟩)).2.2;have h1:=F.cap;have h2:=M.cap;have h3:y.cap room=S'.x.cap room+S'.spare.length:=by
   have:y.cap room=(aH S'.x S'.spare).cap room:=by unfold TX.cap;rw[b3,b2]
   rw[this,a6]
  have e1:((eR x).bt z).taken.length=0:=rfl;have e2:((eR x).bt z).spare.length=0:=rfl;have e3:((eR x).bt z).x=x:=rfl;rw[e1,e2]at hm;rw[e1,e3]at h1;rw[h3];omega
 ·have h1:=sd.nf k ((hL k).1 hk);rcases F.tight k h1.1 h1.2 with h2| ⟨h2,_,h3⟩
  ·exact h2
  ·exact absurd (T.own k h2) h3
theorem Oy (hr:room<=16384)(EH:Na key ed){f m:Nat}(T:Tx room d x root E X H)(hH:H+1<24)(hf:3*(X.length+2*H+2)+5<=f)(hb:Bd (eR x) (X.length+8*H+30+m)):
  ∃es r e S',Et d key es 30 (eR x) ⟨false,[],[root],[]⟩ (-1)∧jT (bj room d f) room d key ed root (eR x)=some ((r,e),S')∧Sd room S'∧(S'.cnt<=X.length+4*H+6∧S'.x.cnt<=x.cnt+X.length+4*H+6∧S'.taken.length<=X.length+4*H+6∧S'.spare.length<=X.length+4*H+6)∧
   (e≠0->e=2∧(Mn room x X->x.cap room<=4*H+4))∧
   (∃EL ER,E=EL++(es++ER)∧(∀x∈EL,bD x.1 key=true)∧∀x∈ER,bD key x.1=true)∧
   (e=0->∃X' H' E' EL ER,Rc key ed E E' EL es ER∧H'<=H+1∧∀L,(∀k,k∈L↔(S'.nodes k).isSome=true)->Tx room d (cH S'.nodes (aH S'.x S'.spare) L) r E' X' H'∧(Mn room x X->Mn room (cH S'.nodes (aH S'.x S'.spare) L) X')∧(cH S'.nodes (aH S'.x S'.spare) L).cnt=S'.x.cnt+L.length∧∀k∈L,k∈X'):=by
 obtain⟨es,r,e,S',lf,h1,⟨z,h2⟩,h3,h4⟩:=Ng (m:=m) (f:=f) (S:=eR x) hr (fun h=>IE hr h) EH rfl T.ts hH hf hb;have bnd:∀(z':Int) (X':List Int),Fm room d (4*H+6) ((eR x).bt z') X S' X'->S'.cnt<=X.length+4*H+6∧S'.x.cnt<=x.cnt+X.length+4*H+6∧S'.taken.length<=X.length+4*H+6∧S'.spare.length<=X.length+4*H+6:=fun z' X' F=>by
  have k1:=F.cnt;have k2:=F.mG;have k3:=F.Ay;have k4:=F.Cg;have e1:((eR x).bt z').taken.length=0:=rfl;have e2:((eR x).bt z').spare.length=0:=rfl;have e3:((eR x).bt z').x.cnt=x.cnt:=rfl;have e4:((eR x).bt z').cnt=0:=rfl;omega
 by_cases he:e=0
 ·subst he;obtain⟨z',X',H',E',EL,ER,q1,q2,q3,q4⟩:=h3 rfl;exact⟨es,r,0,S',lf,h1,q2.ok,bnd z' X' q2,fun hc=>absurd rfl hc,h4,fun _=>⟨X',H',E',EL,ER,q4,q3,fun L hL=>IW hr T q1 q2 L hL⟩⟩
 ·obtain⟨g1,Xm,F,g2,g3⟩:=h2 he;refine⟨es,r,e,S',lf,h1,F.ok,bnd z Xm (F.mono (by omega)),fun _=>⟨g1,fun M=>?_⟩,h4,fun hc=>absurd hc he⟩;have hm:=(F.mine (fun q hq=>(dI _ q).2 ⟨M.all q hq,by simp[eR,Dr.bt]⟩)).2.1;have k1:=F.cap;have e1:((eR x).bt z).taken.length=0:=rfl;have e3:((eR x).bt z).x=x:=rfl;have k2:S'.x.cap room<=0:=by
   unfold TX.cap;rw[g2,oV];omega
  rw[e1]at hm;rw[e1,e3]at k1;omega
end
end P
section
open N
def bF (tt k:ByteArray):Bool:=decide (tt=⟨#[]⟩)||bD k tt
def ju (ss:List ByteArray)(i:Nat)(fr:ByteArray):ByteArray:=if 0<i∧bD fr (ss.getD (i-1) ⟨#[]⟩)=true then ss.getD (i-1) ⟨#[]⟩else fr
def gA (ss:List ByteArray)(i:Nat)(tt:ByteArray):ByteArray:=if i<ss.length∧bF tt (ss.getD i ⟨#[]⟩)=true then ss.getD i ⟨#[]⟩else tt
section
variable {σ:Type}
def vT (st:σ->En->σ×Bool)(tt:ByteArray):List En->σ->σ×Option Bool
 |[],s=>(s,none)
 |e::l,s=>if bF tt e.1=false then(s,some true)else if(st s e).2=false then((st s e).1,some false)else vT st tt l (st s e).1
def gU (rec:σ->Int->ByteArray->ByteArray->Option (σ×(Bool×Int)))(n:Nd)(fr tt:ByteArray):Nat->Nat->σ->Option (σ×(Bool×Int))
 |0,_,s=>some (s,(true,0))
 |k+1,i,s=>if n.ss.length<i then none else if bF (gA n.ss i tt) (ju n.ss i fr)=false then some (s,(true,0))else
  match rec s (n.ks.getD i 0) (ju n.ss i fr) (gA n.ss i tt)with
  |none=>none
  |some (s1,(m,e))=>if e≠0∨m=false then some (s1,(false,e))else gU rec n fr tt k (i+1) s1
def eZ (x:TX)(d:Dk)(st:σ->En->σ×Bool):Nat->σ->Int->Int->ByteArray->ByteArray->Option (σ×(Bool×Int))
 |0,_,_,_,_,_=>none
 |f+1,s,id,depth,fr,tt=>
  if(cM x d id depth).2≠0 then some (s,(false,(cM x d id depth).2))
  else if(bS (cM x d id depth).1&&cQ (cM x d id depth).1)=false∨1000<depth then none
  else match(vT st tt ((cM x d id depth).1.es.drop (iQ (cM x d id depth).1.es fr)) s).2 with
   |some b=>some ((vT st tt ((cM x d id depth).1.es.drop (iQ (cM x d id depth).1.es fr)) s).1,(b,0))
   |none=>gU (fun s id fr tt=>eZ x d st f s id (depth+1) fr tt) (cM x d id depth).1 fr tt ((cM x d id depth).1.ks.length-cY (cM x d id depth).1.ss fr) (cY (cM x d id depth).1.ss fr) (vT st tt ((cM x d id depth).1.es.drop (iQ (cM x d id depth).1.es fr)) s).1
theorem pP {m:σ->Nat}{st:σ->En->σ×Bool}(hm:∀s e,m s<=m (st s e).1)(tt:ByteArray):∀(l:List En) (s:σ),m s<=m (vT st tt l s).1
 |[],s=>Nat.le_refl _
 |e::l,s=>by
  rw[vT];split
  ·exact Nat.le_refl _
  ·split
   ·exact hm s e
   ·exact Nat.le_trans (hm s e) (pP hm tt l _)
theorem ku {m:σ->Nat}{rec:σ->Int->ByteArray->ByteArray->Option (σ×(Bool×Int))}(hr:∀s k f t s' r,rec s k f t=some (s',r)->m s<=m s')(n:Nd)(fr tt:ByteArray):∀(k i:Nat) (s s':σ) (r:Bool×Int),gU rec n fr tt k i s=some (s',r)->m s<=m s'
 |0,i,s,s',r,h=>by cases h;exact Nat.le_refl _
 |k+1,i,s,s',r,h=>by
  rw[gU]at h;split at h
  ·cases h
  ·split at h
   ·cases h;exact Nat.le_refl _
   ·split at h
    ·cases h
    ·rename_i s1 mm e he
     have h1:=hr _ _ _ _ _ _ he;split at h
     ·cases h;exact h1
     ·exact Nat.le_trans h1 (ku hr n fr tt k (i+1) s1 s' r h)
theorem nS {m:σ->Nat}{st:σ->En->σ×Bool}(hm:∀s e,m s<=m (st s e).1)(x:TX)(d:Dk):∀(f:Nat) (s:σ) (id depth:Int) (fr tt:ByteArray) (s':σ) (r:Bool×Int),eZ x d st f s id depth fr tt=some (s',r)->m s<=m s'
 |0,_,_,_,_,_,_,_,h=>by cases h
 |f+1,s,id,depth,fr,tt,s',r,h=>by
  rw[eZ]at h;split at h
  ·cases h;exact Nat.le_refl _
  ·split at h
   ·cases h
   ·split at h
    ·cases h;exact pP hm tt _ s
    ·exact Nat.le_trans (pP hm tt _ s) (ku (fun s k f' t s' r hh=>nS hm x d f s k (depth+1) f' t s' r hh) _ _ _ _ _ _ _ _ h)
def kL (st:σ->En->σ×Bool):List En->σ->σ×Bool
 |[],s=>(s,true)
 |e::l,s=>if(st s e).2=false then((st s e).1,false)else kL st l (st s e).1
def iv (fr tt:ByteArray)(l:List En):List En:=l.filter fun e=>!bD e.1 fr&&bF tt e.1
abbrev Pg:=Int×Int×Nd
end
def AE (x:TX)(d:Dk)(key:ByteArray):Nat->Nd->Int->Int->Option (Nd×Int)
 |0,_,_,_=>none
 |f+1,n,e,depth=>if e=0∧n.leaf=false then(if bS n=false∨n.ks.length<=cY n.ss key∨1000<depth then none else
   AE x d key f (cM x d (n.ks.getD (cY n.ss key) 0) depth).1 (cM x d (n.ks.getD (cY n.ss key) 0) depth).2 (depth+1))else some (n,e)
def tj (rec:List Pg->Int->Option (List Pg×Int)):List Int->List Pg->Option (List Pg×Int)
 |[],s=>some (s,0)
 |k::ks,s=>match rec s k with
  |none=>none
  |some (s1,e)=>if e≠0 then some (s1,e)else tj rec ks s1
def fG (x:TX)(d:Dk):Nat->List Pg->Int->Int->Option (List Pg×Int)
 |0,_,_,_=>none
 |f+1,s,id,depth=>
  if(cM x d id depth).2≠0 then some (s,(cM x d id depth).2)
  else if bS (cM x d id depth).1=false∨1000<depth∨depth<0∨(s.any fun p=>decide (p.1=id))=true∨100000<s.length then none
  else tj (fun s k=>fG x d f s k (depth+1)) (cM x d id depth).1.ks (s++[(id,depth,(cM x d id depth).1)])
end
end Go.Proofs.YtceoeaemenhbhaaGreatDoor
