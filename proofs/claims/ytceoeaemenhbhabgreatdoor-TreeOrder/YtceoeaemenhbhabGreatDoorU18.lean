/- Walks of the package cowtree and of what it stands on: lemmas, made short. -/
import Derived.Test.YtceoeaemenhbhabGreatDoorU16
import Derived.Test.YtceoeaemenhbhabGreatDoorU17
import Derived.Deep.QuietTactic
import Derived.Deep.RegionHeld3
import Derived.Test.YtceoeaemenhbhabGreatDoorU14
import Derived.Test.YtceoeaemenhbhabGreatDoorU3
set_option maxHeartbeats 16000000
set_option maxRecDepth 100000
set_option linter.unusedVariables false
set_option linter.unusedSimpArgs false
namespace Go.Proofs.YtceoeaemenhbhabGreatDoor
namespace P
open N (Nd En)
def o8 {h:Nat}(dp:Int)(K:List (KT h))(j:Nat):Nat:=((K.take j).map (tv h dp)).flatten.length
theorem pieces {h:Nat}{K:List (KT h)}{dp:Int}{T:List kH}(e:T.map uR=(K.map (tv h dp)).flatten){j:Nat}(hj:j<K.length):
  ∃T1 T2 T3,T=T1++T2++T3∧T1.length=o8 dp K j∧T2.map uR=tv h dp K[j]∧o8 dp K (j+1)=T1.length+T2.length:=by
 have hk:K=K.take j++K[j]::K.drop (j+1):=by rw[List.getElem_cons_drop,List.take_append_drop]
 have e2:T.map uR=((K.take j).map (tv h dp)).flatten++(tv h dp K[j]++((K.drop (j+1)).map (tv h dp)).flatten):=by
  rw[e]
  conv=>lhs;rw[hk]
  rw[List.map_append,List.flatten_append,List.map_cons,List.flatten_cons]
 obtain⟨T1,R,rfl,h1,h2⟩:=List.map_eq_append_iff.1 e2;obtain⟨T2,T3,rfl,h3,h4⟩:=List.map_eq_append_iff.1 h2;refine⟨T1,T2,T3,by rw[List.append_assoc],?_,h3,?_⟩
 ·unfold o8;rw[<-h1,List.length_map]
 ·unfold o8;have ht:K.take (j+1)=K.take j++[K[j]]:=by rw[List.take_add_one,List.getElem?_eq_getElem hj];rfl
  rw[ht,List.map_append,List.flatten_append,List.length_append,<-h1,List.length_map]
  congr 1
  rw[List.map_cons,List.map_nil,List.flatten_cons,List.flatten_nil,List.append_nil,<-h3,List.length_map]
theorem Kt {h:Nat}{dp:Int}{K:List (KT h)}{T:List kH}(e:T.map uR=(K.map (tv h dp)).flatten):o8 dp K K.length=T.length:=by
 unfold o8;rw[List.take_length,<-e,List.length_map]
theorem sV {h:Nat}{dp:Int}{u:KT h}{T:List kH}(e:T.map uR=tv h dp u):∃v T',T=v::T'∧v.1=u.1∧v.2.1=dp∧v.2.2.n=aV h u.2:=by
 cases h with
 |zero=>
  obtain⟨v,T',rfl,h1,h2⟩:=List.map_eq_cons_iff.1 e;exact⟨v,T',rfl,congrArg Prod.fst h1,congrArg (fun p=>p.2.1) h1,congrArg (fun p=>p.2.2) h1⟩
 |succ n=>
  obtain⟨v,T',rfl,h1,h2⟩:=List.map_eq_cons_iff.1 e;exact⟨v,T',rfl,congrArg Prod.fst h1,congrArg (fun p=>p.2.1) h1,congrArg (fun p=>p.2.2) h1⟩
end P
end Go.Proofs.YtceoeaemenhbhabGreatDoor
namespace Go.Proofs.YtceoeaemenhbhabGreatDoor
open Go.Shelf Go.RowKit Go.Lib Go.Sort
namespace P
open N (Nd En bh)
theorem last_at {ss:List ByteArray}{lo:ByteArray}{j:Nat}(hj:j<=ss.length):oN (ss.take j) lo=if j=0 then lo else ss.getD (j-1) ⟨#[]⟩:=by
 unfold oN;rcases Nat.eq_zero_or_pos j with rfl|h
 ·rw[if_pos rfl];rfl
 ·rw[if_neg (by omega),List.getLast?_eq_getElem?,List.length_take,Nat.min_eq_left hj,List.getElem?_take_of_lt (by omega),List.getD_eq_getElem?_getD,List.getElem?_eq_getElem (by omega:j-1<ss.length)];rfl
theorem DA {ss:List ByteArray}{hi:ByteArray}{j:Nat}:uT (ss.drop j) hi=if j<ss.length then ss.getD j ⟨#[]⟩else hi:=by
 unfold uT;rw[List.head?_drop];by_cases h:j<ss.length
 ·rw[if_pos h,List.getD_eq_getElem?_getD,List.getElem?_eq_getElem h];rfl
 ·rw[if_neg h,List.getElem?_eq_none (by omega)];rfl
section
variable {B:Nat}{w0:World}{V:List kH}{q cv:Nat}{av:Option Addr}
theorem Ku (hV:V.length<=100000):∀(h:Nat) (dp:Int) (u:KT h) (lo hi:ByteArray) (A T Z:List kH) (lf:Int) (vo:Value) (out:List En) (L:List aP) (w:World),
  (∀u,Sep B w0 u L->∀v∈V,v.2.2.R u)->V=A++T++Z->T.map uR=tv h dp u->WB h u.2 lo hi->0<=dp->dp+(h:Int)<=23->(lf=-1∨lf=dp+(h:Int))->out.length+(dM h u.2).length<=500000->
  Sep B w0 w (j6 q (.slice av V.length cv) A.length lf vo::gX vo out::iw (.slice av V.length cv) V::L)->
  Calls Tryz.prog 55 #[ptr q,.string lo,.string hi,.int .i64 dp] w fun e w'=>e=.returned (.bool true)∧∃Bj,Sep B w0 w' (j6 q (.slice av V.length cv) (A.length+T.length) (dp+(h:Int)) Bj::gX Bj (out++dM h u.2)::iw (.slice av V.length cv) V::L)
 |0,dp,u,lo,hi,A,T,Z,lf,vo,out,L,w,hn,eV,eT,wb,h0,h23,hlf,ho,s=>by
  have hlen:T.length=1:=by rw[<-List.length_map (f:=uR),eT];rfl
  obtain⟨v,T',rfl,_,e2,e3⟩:=sV eT;obtain rfl:T'=[]:=List.eq_nil_of_length_eq_zero (by simpa using hlen);obtain⟨b1,b2,b3,b4,b5⟩:=wb;have hv:V[A.length]? =some v:=by rw[eV];simp
  have hz:dp+((0:Nat):Int)=dp:=by omega
  rw[hz]at hlf⊢;have k:=zD (v:=v) (lo:=lo) (hi:=hi) (at':=fun _=>0) (ou:=fun _=>[]) (Hl:=dp) s hn hv e2 h0 (by omega) (by rw[e3];exact b1) (by rw[e3];exact(dT b2).1) (by rw[e3];exact b3) hlf hV (by omega) (.inl ⟨by rw[e3];rfl,by rw[e3];exact b4,by rw[e3];exact b5,rfl,rfl,rfl⟩);rw[e3]at k;exact k
 |h+1,dp,(pg,b),lo,hi,A,T,Z,lf,vo,out,L,w,hn,eV,eT,wb,h0,h23,hlf,ho,s=>by
  obtain⟨K,ss,rfl⟩:=eZ b;rw[sR]at eT;obtain⟨v,T',rfl,g1,g2⟩:=List.map_eq_cons_iff.1 eT;have e2:v.2.1=dp:=congrArg (fun p=>p.2.1) g1;have e3:v.2.2.n=⟨false,[],K.map Prod.fst,ss⟩:=congrArg (fun p=>p.2.2) g1;obtain⟨b1,b2,b3,b4,b5⟩:=wb;have b4:ss.length+1=K.length:=b4;have hv:V[A.length]? =some v:=by rw[eV];simp
  have hat:∀j,j<v.2.2.n.ks.length->∃v',V[A.length+1+o8 (dp+1) K j]? =some v'∧v'.1=v.2.2.n.ks.getD j 0:=by
   intro j hj;rw[e3]at hj⊢;have hj2:j<K.length:=by simpa using hj
   obtain⟨T1,T2,T3,rfl,l1,l2,l3⟩:=pieces g2 hj2;obtain⟨v',T4,rfl,q1,_,_⟩:=sV l2;refine⟨v',?_,?_⟩
   ·rw[eV,<-l1,show A++v::(T1++v'::T4++T3)++Z=(A++v::T1)++v'::(T4++T3++Z) by simp,List.getElem?_append_right (by simp;omega)];simp[show A.length+1+T1.length- (A.length+(T1.length+1))=0 by omega]
   ·rw[q1];simp[List.getD_eq_getElem?_getD,hj2]
  have hlo2:∀j,j<v.2.2.n.ss.length->bh (v.2.2.n.ss.getD j ⟨#[]⟩) lo=false∧(hi=⟨#[]⟩∨bh hi (v.2.2.n.ss.getD j ⟨#[]⟩)=false):=by
   intro j hj;rw[e3]at hj⊢;have hj2:j+1<K.length:=by have:j<ss.length:=hj;omega
   have kI:j<ss.length:=hj;have r1:=b5 (K.take (j+1)) K[j+1] (K.drop (j+1+1)) (ss.take (j+1)) (ss.drop (j+1)) (by rw[List.getElem_cons_drop,List.take_append_drop];rfl) (List.take_append_drop _ _).symm (by rw[List.length_take,List.length_take];omega);have r2:=b5 (K.take j) K[j] (K.drop (j+1)) (ss.take j) (ss.drop j) (by rw[List.getElem_cons_drop,List.take_append_drop];rfl) (List.take_append_drop _ _).symm (by rw[List.length_take,List.length_take];omega);rw[last_at (by omega),if_neg (by omega)]at r1;rw[DA,if_pos kI]at r2;exact⟨r1.1,r2.2.1⟩
  have hrec:∀j,j<v.2.2.n.ks.length->∀(X:aP) (w1:World) (zT:Int) (Bj:Value),(zT=-1∨zT=dp+((h+1:Nat):Int))->Sep B w0 w1 (j6 q (.slice av V.length cv) (A.length+1+o8 (dp+1) K j) zT Bj::gX Bj (out++bD (K.take j))::iw (.slice av V.length cv) V::X::L)->
   Calls Tryz.prog 55 #[ptr q,.string (if j=0 then lo else v.2.2.n.ss.getD (j-1) ⟨#[]⟩),.string (if j<v.2.2.n.ss.length then v.2.2.n.ss.getD j ⟨#[]⟩else hi),.int .i64 (dp+1)] w1 fun e w'=>e=.returned (.bool true)∧∃Ks,Sep B w0 w' (j6 q (.slice av V.length cv) (A.length+1+o8 (dp+1) K (j+1)) (dp+((h+1:Nat):Int)) Ks::gX Ks (out++bD (K.take (j+1)))::iw (.slice av V.length cv) V::X::L):=by
   intro j hj X w1 zT Bj hl' s1;rw[e3]at hj⊢;have hj2:j<K.length:=by simpa using hj
   obtain⟨T1,T2,T3,rfl,l1,l2,l3⟩:=pieces g2 hj2;have r2:=b5 (K.take j) K[j] (K.drop (j+1)) (ss.take j) (ss.drop j) (by rw[List.getElem_cons_drop,List.take_append_drop];rfl) (List.take_append_drop _ _).symm (by rw[List.length_take,List.length_take];omega);have hA:(A++v::T1).length=A.length+1+o8 (dp+1) K j:=by simp[l1];omega
   have hen:bD (K.take (j+1))=bD (K.take j)++dM h K[j].2:=by
    rw[List.take_add_one,List.getElem?_eq_getElem hj2,bQ];simp[bD]
   have hle:(bD (K.take (j+1))).length<=(bD K).length:=by
    conv=>rhs;rw[<-List.take_append_drop (j+1) K,bQ,List.length_append]
    omega
   have ho2:out.length+(bD K).length<=500000:=ho;have hl2:zT=-1∨zT=dp+1+(h:Int):=hl'.imp id fun e=>by rw[e];omega
   have k:=Ku hV h (dp+1) K[j] _ _ (A++v::T1) T2 (T3++Z) zT Bj (out++bD (K.take j)) (X::L) w1 (fun u hu=>hn u (Sep.drop hu)) (by rw[eV];simp) l2 r2.2.2 (by omega) (by omega) hl2 (by rw[List.length_append];rw[hen,List.length_append]at hle;omega) (by rw[hA];exact s1);have hk1:(A++v::T1).length+T2.length=A.length+1+o8 (dp+1) K (j+1):=by rw[hA,l3,l1];omega
   have hk2:dp+1+(h:Int)=dp+((h+1:Nat):Int):=by omega
   rw[hk1,hk2,List.append_assoc,<-hen,last_at (by omega),DA]at k;exact k
  have k:=zD (v:=v) (lo:=lo) (hi:=hi) (at':=fun j=>A.length+1+o8 (dp+1) K j) (ou:=fun j=>out++bD (K.take j)) (Hl:=dp+((h+1:Nat):Int)) s hn hv e2 h0 (by omega) (by rw[e3];exact b1) (by rw[e3];exact(dT b2).1) (by rw[e3];exact b3) hlf hV (by omega)
   (.inr ⟨by rw[e3],by rw[e3];simpa using b4,rfl,by simp[bD],hat,hlo2,hrec,rfl,rfl⟩)
  rw[e3]at k;simp only[List.length_map,Kt g2,List.take_length]at k;refine k.mono fun e w' ⟨r1,Bj,r2⟩=>⟨r1,Bj,?_⟩;rw[List.length_cons,show A.length+(T'.length+1)=A.length+1+T'.length by omega];exact r2
end
end P
namespace P
open N (Nd En bh Rg aT hidR ar aj Ch aM ah waits)
theorem Td {V:List kH}{root:Int}{E:List En}{X:List Int}{H:Nat}(hw:SY (V.map uR) root E X H){i k:Nat}{a b:kH}(ha:V[i]? =some a)(hb:V[k]? =some b)(hik:k<i):¬b.1=a.1:=by
 have nd:(V.map fun v=>v.1).Nodup:=by
  rcases hw with⟨_,e,_⟩| ⟨_,h,u,_,e,_,_,eX,hX,_⟩
  ·rw[List.map_eq_nil_iff.1 e];exact List.nodup_nil
  ·have h1:=qw h 0 u;rw[<-e,List.map_map]at h1;have h2:(V.map fun v=>v.1)=X:=by rw[<-eX,<-h1];rfl
   rw[h2];exact hX
 intro e;have h1:(V.map fun v=>v.1)[i]? =some a.1:=by rw[List.getElem?_map,ha];rfl
 have h2:(V.map fun v=>v.1)[k]? =some a.1:=by rw[List.getElem?_map,hb,<-e];rfl
 have hi:i< (V.map fun v=>v.1).length:=by
  rcases Nat.lt_or_ge i (V.map fun v=>v.1).length with h|h
  ·exact h
  ·rw[List.getElem?_eq_none h]at h1;cases h1
 have hk:k< (V.map fun v=>v.1).length:=by omega
 have h3:=(List.pairwise_iff_getElem.1 nd) k i hk hi hik;rw[List.getElem?_eq_getElem hi]at h1;rw[List.getElem?_eq_getElem hk]at h2;exact h3 ((Option.some.inj h2).trans (Option.some.inj h1).symm)
section
variable {B:Nat}{w0 w:World}{L:List aP}{cv:Nat}{av:Option Addr}{V:List kH}
theorem Fe {root:Int}{E:List En}{X:List Int}{H:Nat}(h:Sep B w0 w (iw (.slice av V.length cv) V::L))(hn:∀u,Sep B w0 u L->∀v∈V,v.2.2.R u)(hw:SY (V.map uR) root E X H)(hH:H<=23)(hV:V.length<=100000)(hE:E.length<=400000):
  Calls Tryz.prog 39 #[.slice av V.length cv,.int .i64 root] w fun e w'=>∃ao c,e=.returned (.tuple #[.slice ao E.length c,.bool true])∧Sep B w0 w' (gX (.slice ao E.length c) E::iw (.slice av V.length cv) V::L):=by
 have HW:Hid _:=hw;have HN:Hid _:=hn;rcases hw with⟨rfl,e1,rfl,rfl,rfl⟩| ⟨h0,hh,u,eu,e1,wb,eE,eX,nd,rfl,rg⟩
 ·obtain rfl:V=[]:=List.map_eq_nil_iff.1 e1;have HQ:Hid (∀m9,Sep B w0 (w.drewN m9) (iw (.slice av 0 cv) []::L)):=fun m9=>h.drewN m9;simp only[List.length_nil]at*;clear h hn e1;go_enter Tryz.func39,Tryz.ntmps39
  go_wp2_with fail
  go_ret2;exact⟨none,0,rfl,Sep.Dq (HQ.out 0)⟩
 ·subst eu;obtain⟨v0,V',Fq,q1,q2,_⟩:=sV e1;have hlen:0<V.length:=by rw[Fq];simp
  have hv0:V[0]? =some v0:=by rw[Fq];rfl
  have hlN:¬V.length=0:=by omega
  have Yv:¬(V.length:Int)=0:=by omega
  have hlJ:(0:Int)< (V.length:Int):=by omega
  obtain⟨r,rfl,hrl,⟨y0,y1,_⟩,_⟩:=oo h hv0;simp only[Nat.zero_mul]at y0 y1;rw[q1]at y0;rw[q2]at y1;have HH:Hid (∀m9,Sep B w0 (w.drewN m9) (iw (.slice (some ⟨r,0,none⟩) V.length cv) V::L)):=fun m9=>h.drewN m9;have HV:Hid (V.length<=100000):=hV;have HX:Hid (V.map uR=tv hh 0 u):=e1;have HB:Hid (WB hh u.2 ⟨#[]⟩ ⟨#[]⟩):=wb;have HR:Hid (Rg E∧hh<=23∧E.length<=400000∧dM hh u.2=E):=⟨rg,hH,hE,eE⟩;clear h hn e1 wb nd rg eX hV hH hE q1 q2 Fq hv0;have hu0:¬u.1=0:=h0;have aaH:(u.1==0)=false:=beq_eq_false_iff_ne.2 h0;have hlB:((V.length:Int)==0)=false:=beq_eq_false_iff_ne.2 Yv;generalize u.1=ui at*;go_enter Tryz.func39,Tryz.ntmps39;have S1:Hid (Sep B w0 w (iw (.slice (some ⟨r,0,none⟩) V.length cv) V::L)):=HH.out 0
  go_wp2_with fail
  go_loopg [6] V.length (fun kx s6 wr=>∃(i:Nat),s6=.int .i64 (i:Int)∧i<=V.length∧V.length-i<=kx∧Hid (Sep B w0 wr (iw (.slice (some ⟨r,0,none⟩) V.length cv) V::L)))
  case atStart=>exact⟨0,rfl,Nat.zero_le _,Nat.le_refl _,S1.out⟩
  case round=>
   obtain⟨i,rfl,hi,hix,HS⟩:=hrel;clear S1 y0 y1 HH;by_cases hil:i<V.length
   ·have aaj:(i:Int)< (V.length:Int):=by omega
    have N0:IntKind.i64.wrap ((i:Int)+1)=((i+1:Nat):Int):=by rw[bf (by omega) (by have:=HV.out;omega)];rfl
    obtain⟨a,ha⟩:∃a,V[i]? =some a:=⟨V[i],List.getElem?_eq_getElem hil⟩;have HA:Hid (V[i]? =some a):=ha;clear ha
    go_wp2_with fail
    go_loopg [7] i (fun kx s7 wr2=>∃(k:Nat),s7=.int .i64 (k:Int)∧k<=i∧i-k<=kx∧Hid (Sep B w0 wr2 (iw (.slice (some ⟨r,0,none⟩) V.length cv) V::L)))
    case atStart=>exact⟨0,rfl,Nat.zero_le _,Nat.le_refl _,HS.out⟩
    case round=>
     obtain⟨k,rfl,hk,hkx,HS2⟩:=hrel;clear HS;by_cases hkl:k<i
     ·have aak:(k:Int)< (i:Int):=by omega
      have aaI:(k:Int)< (V.length:Int):=by omega
      have hwk:IntKind.i64.wrap ((k:Int)+1)=((k+1:Nat):Int):=by rw[bf (by omega) (by have:=HV.out;omega)];rfl
      obtain⟨b,hb⟩:∃b,V[k]? =some b:=⟨V[k],List.getElem?_eq_getElem (by omega)⟩;have hne:=Td HW.out HA.out hb hkl;obtain⟨r2,e2,_,⟨z0,_,_⟩,_⟩:=oo HS2.out hb;cases e2;obtain⟨r2,e2,_,⟨z1,_,_⟩,_⟩:=oo HS2.out HA.out;cases e2;have hne2:(b.1==a.1)=false:=beq_eq_false_iff_ne.2 hne;have HQ:Hid (∀m9,Sep B w0 (wr.drewN m9) (iw (.slice (some ⟨r,0,none⟩) V.length cv) V::L)):=fun m9=>HS2.out.drewN m9;clear HS2 hb hne;generalize b.1=bi at*;generalize a.1=ai at*
      go_wp2_with fail
      go_quiet (fail)
      generalize hw8:wr.drewN _=w8 at*;have S3:Hid (Sep B w0 w8 (iw (.slice (some ⟨r,0,none⟩) V.length cv) V::L)):=by rw[<-hw8];exact HQ.out _
      clear HQ hw8 z0 z1;go_wp2
      go_roundg (i- (k+1))
      case measure=>omega
      case rel=>exact⟨k+1,by go_num,by omega,Nat.le_refl _,S3.out⟩
     ·have aak:¬(k:Int)< (i:Int):=by omega
      go_wp2
      go_roundg (V.length- (i+1))
      case measure=>omega
      case rel=>exact⟨i+1,by go_num,by omega,Nat.le_refl _,HS2.out⟩
   ·have aaj:¬(i:Int)< (V.length:Int):=by omega
    have S2:Hid _:=Sep.aN (Sep.Dq HS.out) (.cells #[.slice (some ⟨r,0,none⟩) V.length cv,.int .i64 0,.int .i64 (-1),.slice none 0 0] 120);have KP:Hid _:=Ku (A:=[]) (T:=V) (Z:=[]) (lo:=⟨#[]⟩) (hi:=⟨#[]⟩) HV.out hh 0 u (lf:=-1) (vo:=.slice none 0 0) (out:=[]) (L:=L) (w:=_) HN.out (by simp) HX.out HB.out (Int.le_refl _) (by have:=HR.out;omega) (.inl rfl) (by have:=HR.out;rw[HR.out.2.2.2];simp;omega) S2.out
    go_wp2_with fail
    refine Calls.mono KP.out ?_;rintro e w4 ⟨rfl,vo4,s4⟩;simp only[List.length_nil,Nat.zero_add,List.nil_append]at s4;rw[HR.out.2.2.2]at s4;obtain⟨Lc,c4,rfl⟩:=Sep.kA (n:=E.length) (Sep.gf s4);have S4:Hid _:=s4;clear KP s4 S2 HS;generalize wr.heap.size=q at*;obtain⟨_,⟨c0,c1,c2,c3⟩,_⟩:=Sep.c4 S4.out;have KR:Hid _:=N.k8 _ E w4 (Sep.zm (Sep.gf S4.out)) (Nat.le_trans HR.out.2.2.1 (by omega));rw[N.fk HR.out.1]at KR;have Bf:Hid (∀u,Below w4.heap.size w4 u->u.cell? ⟨q,3,none⟩=some (.slice Lc E.length c4)):=fun u hu=>(Sep.c4 (Sep.below S4.out hu)).2.1.2.2.2;have KRU:Hid (∀u,Below w4.heap.size w4 u->Calls Tryz.prog 56 #[.slice Lc E.length c4] u fun e w'=>e=.returned (.bool true)∧Below w4.heap.size w4 w'):=fun u hu=>by
     have k:=N.k8 _ E u (Sep.zm (Sep.gf (Sep.below S4.out hu))) (Nat.le_trans HR.out.2.2.1 (by omega));rw[N.fk HR.out.1]at k;exact k.mono fun _ _ ⟨e,b⟩=>⟨e,hu.trans (b.mono hu.size)⟩
    have BX:Hid (Below w4.heap.size w4 w4.drew):=(Below.refl _ _).drew;have hS:=Bf.out _ BX.out;clear KR
    go_wp2_with fail
    go_region_held3 (fun X=>X.cell? ⟨q,3,none⟩=some (.slice Lc E.length c4)) (first|assumption|exact hS) ((go_at_call 56;refine Calls.mono (KRU.out _ BX.out) ?_;rintro e w5 ⟨rfl,b5⟩;have BY:Hid (Below w4.heap.size w4 w5):=b5;have hS:=Bf.out _ BY.out;clear BX b5;have BX:=BY;clear BY))
    all_goals
     have SF:Hid (Sep B w0 _ _):=Sep.drop (Sep.below S4.out BX.out);clear KRU Bf hS BX S4;go_wp2;go_ret2;exact⟨Lc,c4,rfl,SF.out⟩
end
end P
namespace N

end N
namespace P
open N (Nd En eK cF gp ie fY kJ Rg bh cA)
section
variable {B:Nat}{w0 w w':World}{C:Cx}{d:Dk}{l:List aP}{E:List En}{k:Nat}
end
end P
namespace P
open N (Nd En eK cF gp ie fY kJ Rg bh cA)
section
variable {B:Nat}{w0 w:World}{C:Cx}{x:TX}{d:Dk}{P:List NV}{l:List aP}
theorem Te (h:Sep B w0 w (TL C x d P l)):Calls Tryz.prog 20 #[ptr C.tq] w fun e w'=>e=.returned (.int .i64 (if C.err=0 then C.root else 0))∧w=w':=by
 have KE:Hid _:=Pu h;have KG:Hid _:=gD w C.tq;obtain⟨ts,⟨t0,t1,t2⟩,_⟩:=Sep.uJ (Sep.pk [_,_] h);clear h;by_cases h0:C.err=0
 ·rw[if_pos h0];rw[h0]at KE;clear h0;go_enter Tryz.func20,Tryz.ntmps20
  go_wp2_with fail
  refine Calls.mono KE.out ?_;rintro e w1 ⟨rfl,rfl⟩;clear KE
  go_wp2_with fail
  refine Calls.mono KG.out ?_;rintro e w1 ⟨rfl,rfl⟩;clear KG;go_wp2;go_ret;exact⟨rfl,rfl⟩
 ·rw[if_neg h0];have hne:(C.err != 0)=true:=bne_iff_ne.2 h0;generalize C.err=er at*;clear h0;go_enter Tryz.func20,Tryz.ntmps20
  go_wp2_with fail
  refine Calls.mono KE.out ?_;rintro e w1 ⟨rfl,rfl⟩;clear KE KG;go_wp2;go_ret;exact⟨rfl,rfl⟩
end
end P
namespace P
open N (Nd En bh Rg aT hidR ar aj Ch aM ah waits)
theorem OO {V:List kH}{root:Int}{E:List En}{X:List Int}{H:Nat}(hw:SY (V.map uR) root E X H):V.length=X.length:=by
 rcases hw with⟨_,e,_,eX,_⟩| ⟨_,h,u,_,e,_,_,eX,_⟩
 ·rw[eX,List.map_eq_nil_iff.1 e];rfl
 ·rw[<-eX,<-wT h 0 u,<-e,List.length_map]
theorem OP:(Tryz.prog.info? 81).map (fun i=>(i.zero,i.size,i.bytes))=some (some (.agg #[.int .i64 0,.int .i64 0,.bool false,.slice none 0 0,.slice none 0 0,.slice none 0 0]),6,96):=by kernel_rfl
section
variable {B:Nat}{w0 w w':World}{C:Cx}{d:Dk}{E:List En}{k:Nat}{l:List aP}
theorem VL {v:Value}{V:List kH}{y:kH}(h:Sep B w0 w (RowK 81 6 v (V.length+1) (V.flatMap lK++lK y)::l)):Sep B w0 w (iw v (V++[y])::l):=by
 unfold iw;rw[List.length_append,List.length_singleton,List.flatMap_append,List.flatMap_singleton];exact h
theorem Bk {av:Option Addr}{cv:Nat}{L:List aP}{V:List kH}{ix:Nat}(h:Sep B w0 w (wS (.slice av V.length cv) V::L)){v:kH}(hv:V[ix]? =some v):∃r,av=some ⟨r,0,none⟩∧r<w.heap.size∧w.cell? ⟨r,ix*6,none⟩=some (.int .i64 v.1)∧w.cell? ⟨r,ix*6+1,none⟩=some (.int .i64 v.2.1)∧w.cell? ⟨r,ix*6+2,none⟩=some (.bool v.2.2.n.leaf)∧
  w.cell? ⟨r,ix*6+3,none⟩=some (.slice v.2.2.ae v.2.2.n.es.length v.2.2.ce)∧w.cell? ⟨r,ix*6+4,none⟩=some (.slice v.2.2.ak v.2.2.n.ks.length v.2.2.ck)∧w.cell? ⟨r,ix*6+5,none⟩=some (.slice v.2.2.az v.2.2.n.ss.length v.2.2.cz):=by
 have hlt:ix<V.length:=by
  rcases Nat.lt_or_ge ix V.length with h|h
  ·exact h
  ·rw[List.getElem?_eq_none h]at hv;cases hv
 obtain⟨rq,cq,ev,_,hrq,hcell⟩:=Sep.gh h (by rw[wU];omega);obtain rfl:av=some ⟨rq,0,none⟩:=by injection ev
 have hl:=wU (V:=V);have f:=Kr hv;refine⟨rq,rfl,hrq,?_,?_,?_,?_,?_,?_⟩
 ·rw[hcell _ (by omega)];exact f 0 (by omega)
 ·rw[hcell _ (by omega)];exact f 1 (by omega)
 ·rw[hcell _ (by omega)];exact f 2 (by omega)
 ·rw[hcell _ (by omega)];exact f 3 (by omega)
 ·rw[hcell _ (by omega)];exact f 4 (by omega)
 ·rw[hcell _ (by omega)];exact f 5 (by omega)
theorem OQ (T:cd B w0)(hr:d.room<=16384)(h0:C.err=0)(hE:E.length<=1000)(h:gZ B w0 d C E k l w):
  Calls Tryz.prog 18 #[ptr C.tq] w fun e w'=>∃ao c,e=.returned (.tuple #[.slice ao E.length c,.bool true])∧gZ B w0 d C E k (gX (.slice ao E.length c) E::l) w':=by
 have K1:Hid _:=zB T hr h0 hE h;have C0:Hid (C.err=0):=h0;have HE:Hid (E.length<=1000):=hE;clear h hE;unfold ptr at*;go_enter Tryz.func18,Tryz.ntmps18
 go_wp2_with fail
 refine Calls.mono K1.out ?_;rintro e u2 ⟨av,cv,V,rr,X,H,rfl,h9⟩;obtain⟨x,d1,P,s9,hd,TX9,M9,hc9,hw9,WE⟩:=h9;have hh:=gZ.lL TX9 HE.out;have HVL:Hid (V.length<=1800):=by rw[show(V.length<=1800)=(V.length<=1800)from rfl,OO hw9];exact hh.2
 have H9:Hid (bp d d1∧Tx d.room d x rr E X H∧Mn d.room x X∧x.cnt<=1000*k):=⟨hd,TX9,M9,hc9⟩;have HW:Hid (SY (V.map uR) rr E X H∧H<=9∧∀v∈V,v.2.2∈P):=⟨hw9,hh.1,WE⟩;have S9:Hid (Sep B w0 u2 (TL (C.cD rr) x d1 P (iw (.slice none 0 0) []::wS (.slice av V.length cv) V::l))):=Sep.Fk (Sep.NC s9);clear K1 s9 hd TX9 M9 hc9 hw9 WE hh;go_wp2
 go_loopg [6,7] V.length (fun kx s6 s7 wr=>∃(j:Nat) (ao:Option Addr) (c:Nat),s6=.slice ao (V.take j).length c∧s7=.int .i64 (j:Int)∧j<=V.length∧V.length-j<=kx∧Hid (Sep B w0 wr (TL (C.cD rr) x d1 P (iw (.slice ao (V.take j).length c) (V.take j)::wS (.slice av V.length cv) V::l))))
 case atStart=>exact⟨0,none,0,rfl,rfl,Nat.zero_le _,Nat.le_refl _,S9.out⟩
 case round=>
  obtain⟨j,ao,cc,rfl,rfl,hj,Pw,HS⟩:=hrel;clear S9;by_cases hjl:j<V.length
  ·have sU:(j:Int)< (V.length:Int):=by omega
   obtain⟨v,hv⟩:∃v,V[j]? =some v:=⟨V[j],List.getElem?_eq_getElem hjl⟩;obtain⟨rq,rfl,hrq,y0,y1,y2,y3,y4,y5⟩:=Bk (Sep.dI HS.out) hv;have NT:IntKind.i64.wrap ((j:Int)+1)=((j+1:Nat):Int):=by rw[bf (by omega) (by have:=HVL.out;omega)];rfl
   have lT:Hid (j<V.length):=hjl;have WH:Hid (V.take (j+1)=V.take j++[v]):=by show _=_;rw[List.take_add_one,hv];rfl
   have Kc:Hid ((V.take j).length=j):=by have:=List.length_take (i:=j) (l:=V);show _=_;omega
   have HOL:Hid ((V.take j).length<1000000):=by have:=HVL.out;show _<_;rw[Kc.out];omega
   have HVJ:Hid (V[j]? =some v):=hv;clear hv;obtain⟨pid,iE,pn⟩:=v;simp only at y0 y1 y2 y3 y4 y5;generalize V.take j=o at*;have S7:Hid (Sep B w0 (wr.alloc (.cells #[.bool pn.n.leaf,.slice pn.ae pn.n.es.length pn.ce,.slice pn.ak pn.n.ks.length pn.ck,.slice pn.az pn.n.ss.length pn.cz] 54)) (aF wr.heap.size (.cells #[.bool pn.n.leaf,.slice pn.ae pn.n.es.length pn.ce,.slice pn.ak pn.n.ks.length pn.ck,.slice pn.az pn.n.ss.length pn.cz] 54)::iw (.slice ao o.length cc) o::TL (C.cD rr) x d1 P (wS (.slice (some ⟨rq,0,none⟩) V.length cv) V::l))):=Sep.aN (Sep.iU HS.out) _
   go_wp2_with fail
   clear HS y0 y1 y2 y3 y4 y5;generalize wr.alloc (.cells #[.bool pn.n.leaf,.slice pn.ae pn.n.es.length pn.ce,.slice pn.ak pn.n.ks.length pn.ck,.slice pn.az pn.n.ss.length pn.cz] 54)=w7 at*;generalize wr.heap.size=qn at*;obtain⟨hqn,⟨n0,n1,n2,n3⟩,_⟩:=Sep.c4 S7.out;obtain⟨rq',e',aaJ,y0,y1,_⟩:=Bk (Sep.cU S7.out) HVJ.out;cases e';simp only at y0 y1;have SN:Hid (Sep B w0 (w7.drew.alloc (.cells #[.int .i64 pid,.int .i64 iE,.bool pn.n.leaf,.slice pn.ae pn.n.es.length pn.ce,.slice pn.ak pn.n.ks.length pn.ck,.slice pn.az pn.n.ss.length pn.cz] 81)) (iw (.slice ao o.length cc) o::aF w7.drew.heap.size (.cells #[.int .i64 pid,.int .i64 iE,.bool pn.n.leaf,.slice pn.ae pn.n.es.length pn.ce,.slice pn.ak pn.n.ks.length pn.ck,.slice pn.az pn.n.ss.length pn.cz] 81)::aF qn (.cells #[.bool pn.n.leaf,.slice pn.ae pn.n.es.length pn.ce,.slice pn.ak pn.n.ks.length pn.ck,.slice pn.az pn.n.ss.length pn.cz] 54)::TL (C.cD rr) x d1 P (wS (.slice (some ⟨rq,0,none⟩) V.length cv) V::l))):=Sep.lr (Sep.aN S7.out.drew _);have JZ:Hid _:=wR (news:=lK (pid,iE,pn)) (Sep.blk (Sep.gf SN.out));clear S7
   go_region_held3 (fun X=>X.cell? ⟨rq,j*6,none⟩=some (.int .i64 pid)∧X.cell? ⟨rq,j*6+1,none⟩=some (.int .i64 iE)∧X.cell? ⟨qn,0,none⟩=some (.bool pn.n.leaf)∧X.cell? ⟨qn,1,none⟩=some (.slice pn.ae pn.n.es.length pn.ce)∧X.cell? ⟨qn,2,none⟩=some (.slice pn.ak pn.n.ks.length pn.ck)∧X.cell? ⟨qn,3,none⟩=some (.slice pn.az pn.n.ss.length pn.cz)) (first|assumption|exact hS|go_keep) ((refine PO rfl rfl OP Tryz.underlying78 rfl (by decide) (by decide) _ rfl SN.out rfl JZ.out rfl (zn (pid,iE,pn)) HOL.out ?_;intro lN c3 w3 s4;obtain⟨_,⟨m0,m1,m2,m3⟩,_⟩:=Sep.c4 (Sep.lr s4);obtain⟨r9,e9,_,t0,t1,_⟩:=Bk (Sep.dU s4) HVJ.out;cases e9;have hS:=And.intro t0 (And.intro t1 (And.intro m0 (And.intro m1 (And.intro m2 m3))))))
   all_goals
    have s5:=VL s4;have S8:Hid (Sep B w0 w3 (TL (C.cD rr) x d1 P (iw (.slice lN (o.length+1) c3) (o++[(pid,iE,pn)])::wS (.slice (some ⟨rq,0,none⟩) V.length cv) V::l))):=Sep.Fk (Sep.drop (Sep.gf (Sep.drop (Sep.lr s5))));clear SN JZ s4 s5 m0 m1 m2 m3 t0 t1 hS n0 n1 n2 n3 y0 y1;go_wp2
    go_roundg (V.length- (j+1))
    case measure=>have:=lT.out;omega
    case rel=>exact⟨j+1,lN,c3,by rw[WH.out,List.length_append];rfl,by go_num,by have:=lT.out;omega,Nat.le_refl _,by rw[WH.out,List.length_append];exact S8.out⟩
  ·have sU:¬(j:Int)< (V.length:Int):=by omega
   obtain rfl:j=V.length:=by omega
   rw[List.take_length]at HS;rw[List.take_length];have KR:Hid (Calls Tryz.prog 20 #[ptr C.tq] wr fun e w'=>e=.returned (.int .i64 rr)∧wr=w'):=by
    have h:=Te HS.out;rw[if_pos (show(C.cD rr).err=0 from C0.out)]at h;exact h
   have KW:Hid _:=Fe (w:=wr) (L:=TL (C.cD rr) x d1 P (wS (.slice av V.length cv) V::l)) (Sep.iU HS.out) (fun u hu v hv=>Sep.pool (Sep.td hu) _ (HW.out.2.2 v hv)) HW.out.1 (by have:=HW.out.2.1;omega) (by have:=HVL.out;omega) (by have:=HE.out;omega);clear HS
   try unfold ptr at*
   go_wp2_with fail
   refine Calls.mono KR.out ?_;rintro e w6 ⟨rfl,rfl⟩;clear KR
   go_wp2_with fail
   refine Calls.mono KW.out ?_;rintro e w7 ⟨MZ,c7,rfl,s7⟩;have SF:Hid (gZ B w0 d C E k (gX (.slice MZ E.length c7) E::l) w7):=⟨rr,x,d1,P,X,H,Sep.Fk (Sep.drop (Sep.dI (Sep.drop (Sep.gf s7)))),H9.out⟩;clear KW s7 H9;go_wp2;go_ret2;exact⟨MZ,c7,rfl,SF.out⟩
end
end P
namespace P
open N (Nd En bh Rg)
def lU (v:Value)(s:List En):aP:=fun w X=>N.Row N.aG 2 w v s∧∀k,X k↔s≠[]∧∃o n c,v=.slice (some ⟨k,o,none⟩) n c
theorem OS (v:Value)(s:List En):Good (lU v s):=
 ⟨fun w w' X h hk hs=>by
  obtain⟨⟨ao,cap,e,h1,h2,h3⟩,hX⟩:=h
  refine⟨⟨ao,cap,e,h1,h2,fun hne=>?_⟩,hX⟩
  obtain⟨b,off,e2,hb,hH⟩:=h3 hne
  subst e2 e
  have hb2:=hk b ((hX b).2 ⟨hne,off,_,_,rfl⟩)
  exact⟨b,off,rfl,Nat.lt_of_lt_of_le hb hs,fun t ht=>(World.cell?_of_block (a:=⟨b,off+t,none⟩) hb2).trans (hH t ht)⟩,fun w X h k hk=>by
  obtain⟨hne,o,n,c,e⟩:=(h.2 k).1 hk
  obtain⟨ao,cap,e1,_,_,h3⟩:=h.1
  obtain⟨b,off,e2,hb,_⟩:=h3 hne
  rw[e1,e2]at e
  cases e
  exact hb⟩
section
variable {B:Nat}{w0 w w':World}{C:Cx}{d:Dk}{E:List En}{k:Nat}{l:List aP}{v:Value}{s:List En}
theorem Sep.VN (h:Sep B w0 w (lU v s::l)):N.Row N.aG 2 w v s:=by
 obtain⟨_,_,Y,⟨_,X,_,ha,_⟩,_⟩:=h;exact ha.1
theorem Sep.PR (h:Sep B w0 w l)(hb:Below w.heap.size w w')(o:N.Own N.aG 2 w.heap.size w' v s):Sep B w0 w' (lU v s::l):=
 h.add hb (OS _ _) (X:=fun k=>s≠[]∧∃o n c,v=.slice (some ⟨k,o,none⟩) n c) ⟨o.row,fun _=>Iff.rfl⟩ (fun k hk=>by
  obtain⟨hne,o',n,c,e⟩:=hk
  obtain⟨ao,cap,e1,_,_,h3⟩:=o
  obtain⟨b,off,e2,hb,_⟩:=h3 hne
  rw[e1,e2]at e
  cases e
  exact hb)
end
end P
namespace P
open N (Nd En bh Rg cF gp ie fY eK)
def Tw (B:Nat)(w0:World)(d:Dk)(Ca:Cx)(Ea:List En)(ka:Nat)(Cb:Cx)(Eb:List En)(kb:Nat)(l:List aP)(w:World):Prop:=
 ∃rb xb d2 Pb Xb Hb,gZ B w0 d Ca Ea ka (TL (Cb.cD rb) xb d2 Pb l) w∧bp d d2∧Tx d.room d xb rb Eb Xb Hb∧Mn d.room xb Xb∧xb.cnt<=1000*kb
section
variable {B:Nat}{w0 w w':World}{Ca Cb:Cx}{d:Dk}{Ea Eb E' s:List En}{ka kb k':Nat}{l l':List aP}{f:FuncId}{args:Array Value}{R:Ending->Prop}{v:Value}
theorem Tw.of (h:Tw B w0 d Ca Ea ka Cb Eb kb l w)(f:∀ra xa d1 Pa rb xb d2 Pb,Sep B w0 w (TL (Ca.cD ra) xa d1 Pa (TL (Cb.cD rb) xb d2 Pb l))->Sep B w0 w' (TL (Ca.cD ra) xa d1 Pa (TL (Cb.cD rb) xb d2 Pb l'))):Tw B w0 d Ca Ea ka Cb Eb kb l' w':=by
 obtain⟨rb,xb,d2,Pb,Xb,Hb,t,r⟩:=h;exact⟨rb,xb,d2,Pb,Xb,Hb,t.of fun _ _ _ _ q=>f _ _ _ _ _ _ _ _ q,r⟩
theorem Tw.swap (h:Tw B w0 d Ca Ea ka Cb Eb kb l w):Tw B w0 d Cb Eb kb Ca Ea ka l w:=by
 obtain⟨rb,xb,d2,Pb,Xb,Hb,⟨ra,xa,d1,Pa,Xa,Ha,q,r1⟩,r2⟩:=h;exact⟨ra,xa,d1,Pa,Xa,Ha,⟨rb,xb,d2,Pb,Xb,Hb,Sep.dU (Sep.dU (Sep.dU (Sep.dU q))),r2⟩,r1⟩
theorem Tw.fst (h:Tw B w0 d Ca Ea ka Cb Eb kb l w)(k:∀l',gZ B w0 d Ca Ea ka l' w->Calls Tryz.prog f args w fun e w'=>R e∧gZ B w0 d Ca E' k' l' w'):Calls Tryz.prog f args w fun e w'=>R e∧Tw B w0 d Ca E' k' Cb Eb kb l w':=by
 obtain⟨rb,xb,d2,Pb,Xb,Hb,t,r⟩:=h;exact(k _ t).mono fun _ _ ⟨a,b⟩=>⟨a,rb,xb,d2,Pb,Xb,Hb,b,r⟩
theorem Tw.snd (h:Tw B w0 d Ca Ea ka Cb Eb kb l w)(k:∀l',gZ B w0 d Cb Eb kb l' w->Calls Tryz.prog f args w fun e w'=>R e∧gZ B w0 d Cb E' k' l' w'):Calls Tryz.prog f args w fun e w'=>R e∧Tw B w0 d Ca Ea ka Cb E' k' l w':=
 (h.swap.fst k).mono fun _ _ ⟨a,b⟩=>⟨a,b.swap⟩
theorem Tw.rg1 (h:Tw B w0 d Ca Ea ka Cb Eb kb l w):Rg Ea:=by
 obtain⟨rb,xb,d2,Pb,Xb,Hb,t,r⟩:=h;exact t.rg
theorem Tw.WJ (h:Tw B w0 d Ca Ea ka Cb Eb kb l w):Rg Eb:=h.swap.rg1
theorem Tw.sep (h:Tw B w0 d Ca Ea ka Cb Eb kb l w):Sep B w0 w l:=by
 obtain⟨rb,xb,d2,Pb,Xb,Hb,t,r⟩:=h;exact Sep.drop (Sep.drop (Sep.drop (Sep.drop (gZ.sep t))))
theorem Tw.below (h:Tw B w0 d Ca Ea ka Cb Eb kb l w)(hb:Below w.heap.size w w'):Tw B w0 d Ca Ea ka Cb Eb kb l w':=h.of fun _ _ _ _ _ _ _ _ q=>q.below hb
theorem Tw.more (h:Tw B w0 d Ca Ea ka Cb Eb kb l w):Tw B w0 d Ca Ea ka Cb Eb (kb+1) l w:=by
 obtain⟨rb,xb,d2,Pb,Xb,Hb,t,a1,a2,a3,a4⟩:=h;exact⟨rb,xb,d2,Pb,Xb,Hb,t,a1,a2,a3,by omega⟩
theorem Tw.blk (h:Tw B w0 d Ca Ea ka Cb Eb kb l w)(o:Obj):Tw B w0 d Ca Ea ka Cb Eb kb (aF w.heap.size o::l) (w.alloc o):=h.of fun _ _ _ _ _ _ _ _ q=>Sep.Fl (q.aN o)
theorem Tw.drop {a:aP}(h:Tw B w0 d Ca Ea ka Cb Eb kb (a::l) w):Tw B w0 d Ca Ea ka Cb Eb kb l w:=h.of fun _ _ _ _ _ _ _ _ q=>Sep.drop (Sep.iC q)
theorem Tw.PS (h:Tw B w0 d Ca Ea ka Cb Eb kb (lU v s::l) w):N.Row N.aG 2 w v s:=Sep.VN h.sep
theorem Tw.rw2 {a:aP}(h:Tw B w0 d Ca Ea ka Cb Eb kb (a::lU v s::l) w):N.Row N.aG 2 w v s:=Sep.VN (Sep.drop h.sep)
theorem Tw.rw3 {a b:aP}(h:Tw B w0 d Ca Ea ka Cb Eb kb (a::b::lU v s::l) w):N.Row N.aG 2 w v s:=Sep.VN (Sep.drop (Sep.drop h.sep))
theorem Tw.en1 (h:Tw B w0 d Ca Ea ka Cb Eb kb (gX v s::l) w):N.Row N.aG 2 w v s:=Sep.zm h.sep
theorem Tw.en2 {a:aP}(h:Tw B w0 d Ca Ea ka Cb Eb kb (a::gX v s::l) w):N.Row N.aG 2 w v s:=Sep.zm (Sep.drop h.sep)
theorem Tw.Kv (T:cd B w0)(hr:d.room<=16384)(h0:Ca.err=0)(hE:Ea.length<=1000)(h:Tw B w0 d Ca Ea ka Cb Eb kb l w):
  Calls Tryz.prog 18 #[ptr Ca.tq] w fun e w'=>∃ao c,e=.returned (.tuple #[.slice ao Ea.length c,.bool true])∧Tw B w0 d Ca Ea ka Cb Eb kb (gX (.slice ao Ea.length c) Ea::l) w':=by
 obtain⟨rb,xb,d2,Pb,Xb,Hb,t,r⟩:=h;exact(OQ T hr h0 hE t).mono fun _ _ ⟨ao,c,a,b⟩=>⟨ao,c,a,rb,xb,d2,Pb,Xb,Hb,b.of fun _ _ _ _ q=>Sep.Fl (Sep.iU q),r⟩
theorem Tw.Tf (T:cd B w0)(hr:d.room<=16384)(h0:Cb.err=0)(hE:Eb.length<=1000)(h:Tw B w0 d Ca Ea ka Cb Eb kb l w):
  Calls Tryz.prog 18 #[ptr Cb.tq] w fun e w'=>∃ao c,e=.returned (.tuple #[.slice ao Eb.length c,.bool true])∧Tw B w0 d Ca Ea ka Cb Eb kb (gX (.slice ao Eb.length c) Eb::l) w':=
 (h.swap.Kv T hr h0 hE).mono fun _ _ ⟨ao,c,a,b⟩=>⟨ao,c,a,b.swap⟩
theorem Tw.c2 {q:Nat}{x0 x1:Value}{ty:TypeId}(h:Tw B w0 d Ca Ea ka Cb Eb kb (aF q (.cells #[x0,x1] ty)::l) w):w.cell? ⟨q,0,none⟩=some x0∧w.cell? ⟨q,1,none⟩=some x1:=by
 have hb:=(Tw.sep h).blk;refine⟨?_,?_⟩<;>simp[World.cell?,hb]
end
end P
end Go.Proofs.YtceoeaemenhbhabGreatDoor
namespace Go.Proofs.YtceoeaemenhbhabGreatDoor
namespace P
open N
theorem DB:∀ {l m:List ByteArray},l.Pairwise (fun a b=>bh a b=true)->m.Pairwise (fun a b=>bh a b=true)->(∀x∈l,x∈m)->l.length<=m.length
 |[],_,_,_,_=>Nat.zero_le _
 |x::l,m,hl,hm,hs=>by
  obtain⟨A,B,rfl⟩:=List.append_of_mem (hs x (by simp));obtain⟨h1,h2⟩:=List.pairwise_cons.1 hl;obtain⟨p1,p2,p3⟩:=List.pairwise_append.1 hm;obtain⟨q1,q2⟩:=List.pairwise_cons.1 p2;have:=DB h2 q2 fun y hy=>by
   have hxy:=h1 y hy;rcases List.mem_append.1 (hs y (List.mem_cons_of_mem _ hy))with h|h
   ·have:=fq (p3 y h x (by simp));rw[hxy]at this;cases this
   ·rcases List.mem_cons.1 h with e|h
    ·exact absurd e (dY hxy).symm
    ·exact h
  rw[List.length_append,List.length_cons,List.length_cons];omega
def KS (E M:List En):Prop:=∀x∈E,∃y∈M,x.1=y.1
theorem KS.len {E M:List En}(h:KS E M)(hE:Rg E)(hM:Rg M):E.length<=M.length:=by
 have h1:(E.map Prod.fst).Pairwise (fun a b=>bh a b=true):=List.pairwise_map.2 hE.up;have h2:(M.map Prod.fst).Pairwise (fun a b=>bh a b=true):=List.pairwise_map.2 hM.up;have:=DB h1 h2 fun k hk=>by
  obtain⟨x,hx,rfl⟩:=List.mem_map.1 hk;obtain⟨y,hy,e⟩:=h x hx;rw[e];exact List.mem_map_of_mem hy
 simpa using this
theorem KS.put {E M:List En}(h:KS E M){y:En}(hy:y∈M){v:ByteArray}:KS (gp E y.1 v) M:=fun x hx=>by
 rcases fQ.1 hx with rfl| ⟨h1,_⟩
 ·exact⟨y,hy,rfl⟩
 ·exact h x h1
theorem KS.del {E M:List En}(h:KS E M){k:ByteArray}:KS (ie E k) M:=fun x hx=>h x (ig.1 hx).1
theorem Kw {M:List En}(h:Rg M){i j:Nat}(hi:i<M.length)(hj:j<M.length)(hne:i≠j):M[i]!.1≠M[j]!.1:=by
 rw[getElem!_pos M i hi,getElem!_pos M j hj];rcases Nat.lt_or_gt_of_ne hne with h1|h1
 ·exact dY (List.pairwise_iff_getElem.1 h.up i j hi hj h1)
 ·exact(dY (List.pairwise_iff_getElem.1 h.up j i hj hi h1)).symm
theorem Ky {E:List En}{k k' v:ByteArray}(h:k'=k∨fY E k'=true):fY (gp E k v) k'=true:=by
 by_cases e:k'=k
 ·subst e;exact dR.2 ⟨(k',v),fQ.2 (.inl rfl),rfl⟩
 ·obtain⟨x,hx,rfl⟩:=dR.1 (h.resolve_left e);exact dR.2 ⟨x,fQ.2 (.inr ⟨hx,e⟩),rfl⟩
theorem Tg {E:List En}{k k':ByteArray}(h:fY E k'=true)(hne:k'≠k):fY (ie E k) k'=true:=by
 obtain⟨x,hx,rfl⟩:=dR.1 h;exact dR.2 ⟨x,ig.2 ⟨hx,hne⟩,rfl⟩
theorem Kz {M:List En}(h:Rg M){j:Nat}(hj:j<M.length):gp (M.take j) M[j]!.1 M[j]!.2=M.take (j+1):=by
 have hm:M[j]! ∈M:=by rw[getElem!_pos M j hj];exact List.getElem_mem hj
 refine Rg.ext (rD (h.sub (List.take_sublist _ _)) (h.may _ hm)) (h.sub (List.take_sublist _ _)) fun x=>?_;have e:M.take (j+1)=M.take j++[M[j]!]:=by rw[List.take_add_one,List.getElem?_eq_getElem hj,getElem!_pos M j hj];rfl
 rw[fQ,e,List.mem_append,List.mem_singleton];constructor
 ·rintro(rfl| ⟨h1,_⟩)
  ·exact .inr rfl
  ·exact .inl h1
 ·rintro(h1|rfl)
  ·refine .inr ⟨h1,?_⟩;obtain⟨i,hi,rfl⟩:=List.getElem_of_mem h1;have hi2:i<j:=by simpa using(Nat.lt_of_lt_of_le hi (by rw[List.length_take];exact Nat.min_le_left _ _))
   have:=Kw h (i:=i) (j:=j) (by omega) hj (by omega);rw[getElem!_pos M i (by omega)]at this;simpa using this
  ·exact .inl rfl
def Th (E M:List En)(j:Nat):Prop:=∀i,i<j->M[i]! ∈E
theorem Th.put {E M:List En}{j:Nat}(h:Th E M j)(hM:Rg M)(hj:j<M.length):Th (gp E M[j]!.1 M[j]!.2) M (j+1):=fun i hi=>by
 by_cases e:i=j
 ·subst e;exact fQ.2 (.inl rfl)
 ·exact fQ.2 (.inr ⟨h i (by omega),Kw hM (by omega) hj e⟩)
theorem all_in {E M:List En}(h:Th E M M.length)(hk:KS E M)(hE:Rg E)(hM:Rg M):E=M:=
 Rg.ext hE hM fun x=>⟨fun hx=>by
  obtain⟨y,hy,e⟩:=hk x hx
  obtain⟨i,hi,rfl⟩:=List.getElem_of_mem hy
  have:=h i hi
  rw[getElem!_pos M i hi]at this
  rw[hE.one hx this e];exact List.getElem_mem hi,fun hx=>by
  obtain⟨i,hi,rfl⟩:=List.getElem_of_mem hx
  have:=h i hi
  rwa [getElem!_pos M i hi]at this⟩
def wV (E M:List En)(j:Nat):Prop:=∀i,j<=i->i<M.length->fY E M[i]!.1=true
theorem wV.put {E M:List En}{j:Nat}(h:wV E M (j+1)){v:ByteArray}:wV (gp E M[j]!.1 v) M j:=fun i h1 h2=>by
 by_cases e:i=j
 ·subst e;exact Ky (.inl rfl)
 ·exact Ky (.inr (h i (by omega) h2))
theorem wV.del {E M:List En}{j:Nat}(h:wV E M j)(hM:Rg M)(hj:j<M.length):wV (ie E M[j]!.1) M (j+1):=fun i h1 h2=>
 Tg (h i (by omega) h2) (Kw hM h2 hj (by omega))
theorem wV.next {E M:List En}{j:Nat}(h:wV E M j):wV E M (j+1):=fun i h1 h2=>h i (by omega) h2
theorem Ff {k v u:ByteArray}(h:cF k v=true)(hu:u.size<=40):cF k u=true:=by
 obtain⟨a,b,_⟩:=cj.1 h;exact cj.2 ⟨a,b,hu⟩
end P
end Go.Proofs.YtceoeaemenhbhabGreatDoor
