/- Walks of the package cowtree and of what it stands on: lemmas, made short. -/
import Derived.Test.YtceoeaemenhbhaaGreatDoorD16
import Derived.Test.YtceoeaemenhbhaaGreatDoorD17
import Derived.Deep.QuietTactic
import Derived.Deep.RegionHeld3
import Derived.Test.YtceoeaemenhbhaaGreatDoorD14
import Derived.Test.YtceoeaemenhbhaaGreatDoorD3
set_option maxHeartbeats 16000000
set_option maxRecDepth 100000
set_option linter.unusedVariables false
set_option linter.unusedSimpArgs false
namespace Go.Proofs.YtceoeaemenhbhaaGreatDoor
namespace P
open N (Nd En)
def oY {h:Nat}(dp:Int)(K:List (KT h))(j:Nat):Nat:=((K.take j).map (td h dp)).flatten.length
theorem pieces {h:Nat}{K:List (KT h)}{dp:Int}{T:List kH}(e:T.map uP=(K.map (td h dp)).flatten){j:Nat}(hj:j<K.length):
  ∃T1 T2 T3,T=T1++T2++T3∧T1.length=oY dp K j∧T2.map uP=td h dp K[j]∧oY dp K (j+1)=T1.length+T2.length:=by
 have hk:K=K.take j++K[j]::K.drop (j+1):=by rw[List.getElem_cons_drop,List.take_append_drop]
 have e2:T.map uP=((K.take j).map (td h dp)).flatten++(td h dp K[j]++((K.drop (j+1)).map (td h dp)).flatten):=by
  rw[e]
  conv=>lhs;rw[hk]
  rw[List.map_append,List.flatten_append,List.map_cons,List.flatten_cons]
 obtain⟨T1,R,rfl,h1,h2⟩:=List.map_eq_append_iff.1 e2;obtain⟨T2,T3,rfl,h3,h4⟩:=List.map_eq_append_iff.1 h2;refine⟨T1,T2,T3,by rw[List.append_assoc],?_,h3,?_⟩
 ·unfold oY;rw[<-h1,List.length_map]
 ·unfold oY;have ht:K.take (j+1)=K.take j++[K[j]]:=by rw[List.take_add_one,List.getElem?_eq_getElem hj];rfl
  rw[ht,List.map_append,List.flatten_append,List.length_append,<-h1,List.length_map]
  congr 1
  rw[List.map_cons,List.map_nil,List.flatten_cons,List.flatten_nil,List.append_nil,<-h3,List.length_map]
theorem Ko {h:Nat}{dp:Int}{K:List (KT h)}{T:List kH}(e:T.map uP=(K.map (td h dp)).flatten):oY dp K K.length=T.length:=by
 unfold oY;rw[List.take_length,<-e,List.length_map]
theorem sT {h:Nat}{dp:Int}{u:KT h}{T:List kH}(e:T.map uP=td h dp u):∃v T',T=v::T'∧v.1=u.1∧v.2.1=dp∧v.2.2.n=aV h u.2:=by
 cases h with
 |zero=>
  obtain⟨v,T',rfl,h1,h2⟩:=List.map_eq_cons_iff.1 e;exact⟨v,T',rfl,congrArg Prod.fst h1,congrArg (fun p=>p.2.1) h1,congrArg (fun p=>p.2.2) h1⟩
 |succ n=>
  obtain⟨v,T',rfl,h1,h2⟩:=List.map_eq_cons_iff.1 e;exact⟨v,T',rfl,congrArg Prod.fst h1,congrArg (fun p=>p.2.1) h1,congrArg (fun p=>p.2.2) h1⟩
end P
end Go.Proofs.YtceoeaemenhbhaaGreatDoor
namespace Go.Proofs.YtceoeaemenhbhaaGreatDoor
open Go.Shelf Go.RowKit Go.Lib Go.Sort
namespace P
open N (Nd En bf)
theorem last_at {ss:List ByteArray}{lo:ByteArray}{j:Nat}(hj:j<=ss.length):oM (ss.take j) lo=if j=0 then lo else ss.getD (j-1) ⟨#[]⟩:=by
 unfold oM;rcases Nat.eq_zero_or_pos j with rfl|h
 ·rw[if_pos rfl];rfl
 ·rw[if_neg (by omega),List.getLast?_eq_getElem?,List.length_take,Nat.min_eq_left hj,List.getElem?_take_of_lt (by omega),List.getD_eq_getElem?_getD,List.getElem?_eq_getElem (by omega:j-1<ss.length)];rfl
theorem DO {ss:List ByteArray}{hi:ByteArray}{j:Nat}:uR (ss.drop j) hi=if j<ss.length then ss.getD j ⟨#[]⟩else hi:=by
 unfold uR;rw[List.head?_drop];by_cases h:j<ss.length
 ·rw[if_pos h,List.getD_eq_getElem?_getD,List.getElem?_eq_getElem h];rfl
 ·rw[if_neg h,List.getElem?_eq_none (by omega)];rfl
section
variable {B:Nat}{w0:World}{V:List kH}{q cv:Nat}{av:Option Addr}
theorem Kp (hV:V.length<=100000):∀(h:Nat) (dp:Int) (u:KT h) (lo hi:ByteArray) (A T Z:List kH) (lf:Int) (vo:Value) (out:List En) (L:List aP) (w:World),
  (∀u,Sep B w0 u L->∀v∈V,v.2.2.R u)->V=A++T++Z->T.map uP=td h dp u->WB h u.2 lo hi->0<=dp->dp+(h:Int)<=23->(lf=-1∨lf=dp+(h:Int))->out.length+(dN h u.2).length<=500000->
  Sep B w0 w (j4 q (.slice av V.length cv) A.length lf vo::ig vo out::ir (.slice av V.length cv) V::L)->
  Calls Tryz.prog 88 #[ptr q,.string lo,.string hi,.int .i64 dp] w fun e w'=>e=.returned (.bool true)∧∃Bu,Sep B w0 w' (j4 q (.slice av V.length cv) (A.length+T.length) (dp+(h:Int)) Bu::ig Bu (out++dN h u.2)::ir (.slice av V.length cv) V::L)
 |0,dp,u,lo,hi,A,T,Z,lf,vo,out,L,w,hn,eV,eT,wb,h0,h23,hlf,ho,s=>by
  have hlen:T.length=1:=by rw[<-List.length_map (f:=uP),eT];rfl
  obtain⟨v,T',rfl,_,e2,e3⟩:=sT eT;obtain rfl:T'=[]:=List.eq_nil_of_length_eq_zero (by simpa using hlen);obtain⟨b1,b2,b3,b4,b5⟩:=wb;have hv:V[A.length]? =some v:=by rw[eV];simp
  have hz:dp+((0:Nat):Int)=dp:=by omega
  rw[hz]at hlf⊢;have k:=zF (v:=v) (lo:=lo) (hi:=hi) (at':=fun _=>0) (ou:=fun _=>[]) (Hl:=dp) s hn hv e2 h0 (by omega) (by rw[e3];exact b1) (by rw[e3];exact(dT b2).1) (by rw[e3];exact b3) hlf hV (by omega) (.inl ⟨by rw[e3];rfl,by rw[e3];exact b4,by rw[e3];exact b5,rfl,rfl,rfl⟩);rw[e3]at k;exact k
 |h+1,dp,(pg,b),lo,hi,A,T,Z,lf,vo,out,L,w,hn,eV,eT,wb,h0,h23,hlf,ho,s=>by
  obtain⟨K,ss,rfl⟩:=e8 b;rw[sQ]at eT;obtain⟨v,T',rfl,g1,g2⟩:=List.map_eq_cons_iff.1 eT;have e2:v.2.1=dp:=congrArg (fun p=>p.2.1) g1;have e3:v.2.2.n=⟨false,[],K.map Prod.fst,ss⟩:=congrArg (fun p=>p.2.2) g1;obtain⟨b1,b2,b3,b4,b5⟩:=wb;have b4:ss.length+1=K.length:=b4;have hv:V[A.length]? =some v:=by rw[eV];simp
  have hat:∀j,j<v.2.2.n.ks.length->∃v',V[A.length+1+oY (dp+1) K j]? =some v'∧v'.1=v.2.2.n.ks.getD j 0:=by
   intro j hj;rw[e3]at hj⊢;have hj2:j<K.length:=by simpa using hj
   obtain⟨T1,T2,T3,rfl,l1,l2,l3⟩:=pieces g2 hj2;obtain⟨v',T4,rfl,q1,_,_⟩:=sT l2;refine⟨v',?_,?_⟩
   ·rw[eV,<-l1,show A++v::(T1++v'::T4++T3)++Z=(A++v::T1)++v'::(T4++T3++Z) by simp,List.getElem?_append_right (by simp;omega)];simp[show A.length+1+T1.length- (A.length+(T1.length+1))=0 by omega]
   ·rw[q1];simp[List.getD_eq_getElem?_getD,hj2]
  have hlo2:∀j,j<v.2.2.n.ss.length->bf (v.2.2.n.ss.getD j ⟨#[]⟩) lo=false∧(hi=⟨#[]⟩∨bf hi (v.2.2.n.ss.getD j ⟨#[]⟩)=false):=by
   intro j hj;rw[e3]at hj⊢;have hj2:j+1<K.length:=by have:j<ss.length:=hj;omega
   have kI:j<ss.length:=hj;have r1:=b5 (K.take (j+1)) K[j+1] (K.drop (j+1+1)) (ss.take (j+1)) (ss.drop (j+1)) (by rw[List.getElem_cons_drop,List.take_append_drop];rfl) (List.take_append_drop _ _).symm (by rw[List.length_take,List.length_take];omega);have r2:=b5 (K.take j) K[j] (K.drop (j+1)) (ss.take j) (ss.drop j) (by rw[List.getElem_cons_drop,List.take_append_drop];rfl) (List.take_append_drop _ _).symm (by rw[List.length_take,List.length_take];omega);rw[last_at (by omega),if_neg (by omega)]at r1;rw[DO,if_pos kI]at r2;exact⟨r1.1,r2.2.1⟩
  have hrec:∀j,j<v.2.2.n.ks.length->∀(X:aP) (w1:World) (zW:Int) (Bu:Value),(zW=-1∨zW=dp+((h+1:Nat):Int))->Sep B w0 w1 (j4 q (.slice av V.length cv) (A.length+1+oY (dp+1) K j) zW Bu::ig Bu (out++bE (K.take j))::ir (.slice av V.length cv) V::X::L)->
   Calls Tryz.prog 88 #[ptr q,.string (if j=0 then lo else v.2.2.n.ss.getD (j-1) ⟨#[]⟩),.string (if j<v.2.2.n.ss.length then v.2.2.n.ss.getD j ⟨#[]⟩else hi),.int .i64 (dp+1)] w1 fun e w'=>e=.returned (.bool true)∧∃Km,Sep B w0 w' (j4 q (.slice av V.length cv) (A.length+1+oY (dp+1) K (j+1)) (dp+((h+1:Nat):Int)) Km::ig Km (out++bE (K.take (j+1)))::ir (.slice av V.length cv) V::X::L):=by
   intro j hj X w1 zW Bu hl' s1;rw[e3]at hj⊢;have hj2:j<K.length:=by simpa using hj
   obtain⟨T1,T2,T3,rfl,l1,l2,l3⟩:=pieces g2 hj2;have r2:=b5 (K.take j) K[j] (K.drop (j+1)) (ss.take j) (ss.drop j) (by rw[List.getElem_cons_drop,List.take_append_drop];rfl) (List.take_append_drop _ _).symm (by rw[List.length_take,List.length_take];omega);have hA:(A++v::T1).length=A.length+1+oY (dp+1) K j:=by simp[l1];omega
   have hen:bE (K.take (j+1))=bE (K.take j)++dN h K[j].2:=by
    rw[List.take_add_one,List.getElem?_eq_getElem hj2,bQ];simp[bE]
   have hle:(bE (K.take (j+1))).length<=(bE K).length:=by
    conv=>rhs;rw[<-List.take_append_drop (j+1) K,bQ,List.length_append]
    omega
   have ho2:out.length+(bE K).length<=500000:=ho;have hl2:zW=-1∨zW=dp+1+(h:Int):=hl'.imp id fun e=>by rw[e];omega
   have k:=Kp hV h (dp+1) K[j] _ _ (A++v::T1) T2 (T3++Z) zW Bu (out++bE (K.take j)) (X::L) w1 (fun u hu=>hn u (Sep.drop hu)) (by rw[eV];simp) l2 r2.2.2 (by omega) (by omega) hl2 (by rw[List.length_append];rw[hen,List.length_append]at hle;omega) (by rw[hA];exact s1);have hk1:(A++v::T1).length+T2.length=A.length+1+oY (dp+1) K (j+1):=by rw[hA,l3,l1];omega
   have hk2:dp+1+(h:Int)=dp+((h+1:Nat):Int):=by omega
   rw[hk1,hk2,List.append_assoc,<-hen,last_at (by omega),DO]at k;exact k
  have k:=zF (v:=v) (lo:=lo) (hi:=hi) (at':=fun j=>A.length+1+oY (dp+1) K j) (ou:=fun j=>out++bE (K.take j)) (Hl:=dp+((h+1:Nat):Int)) s hn hv e2 h0 (by omega) (by rw[e3];exact b1) (by rw[e3];exact(dT b2).1) (by rw[e3];exact b3) hlf hV (by omega)
   (.inr ⟨by rw[e3],by rw[e3];simpa using b4,rfl,by simp[bE],hat,hlo2,hrec,rfl,rfl⟩)
  rw[e3]at k;simp only[List.length_map,Ko g2,List.take_length]at k;refine k.mono fun e w' ⟨r1,Bu,r2⟩=>⟨r1,Bu,?_⟩;rw[List.length_cons,show A.length+(T'.length+1)=A.length+1+T'.length by omega];exact r2
end
end P
namespace P
open N (Nd En bf Rg aT hidR ar aj Ch aM ah waits)
theorem Ur {V:List kH}{root:Int}{E:List En}{X:List Int}{H:Nat}(hw:Sv (V.map uP) root E X H){i k:Nat}{a b:kH}(ha:V[i]? =some a)(hb:V[k]? =some b)(hik:k<i):¬b.1=a.1:=by
 have nd:(V.map fun v=>v.1).Nodup:=by
  rcases hw with⟨_,e,_⟩| ⟨_,h,u,_,e,_,_,eX,hX,_⟩
  ·rw[List.map_eq_nil_iff.1 e];exact List.nodup_nil
  ·have h1:=qw h 0 u;rw[<-e,List.map_map]at h1;have h2:(V.map fun v=>v.1)=X:=by rw[<-eX,<-h1];rfl
   rw[h2];exact hX
 intro e;have h1:(V.map fun v=>v.1)[i]? =some a.1:=by rw[List.getElem?_map,ha];rfl
 have h2:(V.map fun v=>v.1)[k]? =some a.1:=by rw[List.getElem?_map,hb,<-e];rfl
 have hi:i< (V.map fun v=>v.1).length:=by
  rcases Nat.lt_or_ge i (V.map fun v=>v.1).length with h|h
  ·exact h
  ·rw[List.getElem?_eq_none h]at h1;cases h1
 have hk:k< (V.map fun v=>v.1).length:=by omega
 have h3:=(List.pairwise_iff_getElem.1 nd) k i hk hi hik;rw[List.getElem?_eq_getElem hi]at h1;rw[List.getElem?_eq_getElem hk]at h2;exact h3 ((Option.some.inj h2).trans (Option.some.inj h1).symm)
section
variable {B:Nat}{w0 w:World}{L:List aP}{cv:Nat}{av:Option Addr}{V:List kH}
theorem FC {root:Int}{E:List En}{X:List Int}{H:Nat}(h:Sep B w0 w (ir (.slice av V.length cv) V::L))(hn:∀u,Sep B w0 u L->∀v∈V,v.2.2.R u)(hw:Sv (V.map uP) root E X H)(hH:H<=23)(hV:V.length<=100000)(hE:E.length<=400000):
  Calls Tryz.prog 54 #[.slice av V.length cv,.int .i64 root] w fun e w'=>∃ao c,e=.returned (.tuple #[.slice ao E.length c,.bool true])∧Sep B w0 w' (ig (.slice ao E.length c) E::ir (.slice av V.length cv) V::L):=by
 have HW:Hid _:=hw;have HN:Hid _:=hn;rcases hw with⟨rfl,e1,rfl,rfl,rfl⟩| ⟨h0,hh,u,eu,e1,wb,eE,eX,nd,rfl,rg⟩
 ·obtain rfl:V=[]:=List.map_eq_nil_iff.1 e1;have HQ:Hid (∀m9,Sep B w0 (w.drewN m9) (ir (.slice av 0 cv) []::L)):=fun m9=>h.drewN m9;simp only[List.length_nil]at*;clear h hn e1;go_enter Tryz.func54,Tryz.ntmps54
  go_wp2_with fail
  go_ret2;exact⟨none,0,rfl,Sep.DA (HQ.out 0)⟩
 ·subst eu;obtain⟨v0,V',FQ,q1,q2,_⟩:=sT e1;have hlen:0<V.length:=by rw[FQ];simp
  have hv0:V[0]? =some v0:=by rw[FQ];rfl
  have hlN:¬V.length=0:=by omega
  have Zo:¬(V.length:Int)=0:=by omega
  have hlJ:(0:Int)< (V.length:Int):=by omega
  obtain⟨r,rfl,hrl,⟨y0,y1,_⟩,_⟩:=oo h hv0;simp only[Nat.zero_mul]at y0 y1;rw[q1]at y0;rw[q2]at y1;have HH:Hid (∀m9,Sep B w0 (w.drewN m9) (ir (.slice (some ⟨r,0,none⟩) V.length cv) V::L)):=fun m9=>h.drewN m9;have HV:Hid (V.length<=100000):=hV;have HX:Hid (V.map uP=td hh 0 u):=e1;have HB:Hid (WB hh u.2 ⟨#[]⟩ ⟨#[]⟩):=wb;have HR:Hid (Rg E∧hh<=23∧E.length<=400000∧dN hh u.2=E):=⟨rg,hH,hE,eE⟩;clear h hn e1 wb nd rg eX hV hH hE q1 q2 FQ hv0;have hu0:¬u.1=0:=h0;have aaL:(u.1==0)=false:=beq_eq_false_iff_ne.2 h0;have hlB:((V.length:Int)==0)=false:=beq_eq_false_iff_ne.2 Zo;generalize u.1=ui at*;go_enter Tryz.func54,Tryz.ntmps54;have S1:Hid (Sep B w0 w (ir (.slice (some ⟨r,0,none⟩) V.length cv) V::L)):=HH.out 0
  go_wp2_with fail
  go_loopg [6] V.length (fun kx s6 wr=>∃(i:Nat),s6=.int .i64 (i:Int)∧i<=V.length∧V.length-i<=kx∧Hid (Sep B w0 wr (ir (.slice (some ⟨r,0,none⟩) V.length cv) V::L)))
  case atStart=>exact⟨0,rfl,Nat.zero_le _,Nat.le_refl _,S1.out⟩
  case round=>
   obtain⟨i,rfl,hi,hix,HS⟩:=hrel;clear S1 y0 y1 HH;by_cases hil:i<V.length
   ·have ZP:(i:Int)< (V.length:Int):=by omega
    have NQ:IntKind.i64.wrap ((i:Int)+1)=((i+1:Nat):Int):=by rw[bA (by omega) (by have:=HV.out;omega)];rfl
    obtain⟨a,ha⟩:∃a,V[i]? =some a:=⟨V[i],List.getElem?_eq_getElem hil⟩;have HA:Hid (V[i]? =some a):=ha;clear ha
    go_wp2_with fail
    go_loopg [7] i (fun kx s7 wr2=>∃(k:Nat),s7=.int .i64 (k:Int)∧k<=i∧i-k<=kx∧Hid (Sep B w0 wr2 (ir (.slice (some ⟨r,0,none⟩) V.length cv) V::L)))
    case atStart=>exact⟨0,rfl,Nat.zero_le _,Nat.le_refl _,HS.out⟩
    case round=>
     obtain⟨k,rfl,hk,hkx,HS2⟩:=hrel;clear HS;by_cases hkl:k<i
     ·have ZQ:(k:Int)< (i:Int):=by omega
      have aaM:(k:Int)< (V.length:Int):=by omega
      have hwk:IntKind.i64.wrap ((k:Int)+1)=((k+1:Nat):Int):=by rw[bA (by omega) (by have:=HV.out;omega)];rfl
      obtain⟨b,hb⟩:∃b,V[k]? =some b:=⟨V[k],List.getElem?_eq_getElem (by omega)⟩;have hne:=Ur HW.out HA.out hb hkl;obtain⟨r2,e2,_,⟨z0,_,_⟩,_⟩:=oo HS2.out hb;cases e2;obtain⟨r2,e2,_,⟨z1,_,_⟩,_⟩:=oo HS2.out HA.out;cases e2;have hne2:(b.1==a.1)=false:=beq_eq_false_iff_ne.2 hne;have HQ:Hid (∀m9,Sep B w0 (wr.drewN m9) (ir (.slice (some ⟨r,0,none⟩) V.length cv) V::L)):=fun m9=>HS2.out.drewN m9;clear HS2 hb hne;generalize b.1=bi at*;generalize a.1=ai at*
      go_wp2_with fail
      go_quiet (fail)
      generalize hw8:wr.drewN _=w8 at*;have S3:Hid (Sep B w0 w8 (ir (.slice (some ⟨r,0,none⟩) V.length cv) V::L)):=by rw[<-hw8];exact HQ.out _
      clear HQ hw8 z0 z1;go_wp2
      go_roundg (i- (k+1))
      case measure=>omega
      case rel=>exact⟨k+1,by go_num,by omega,Nat.le_refl _,S3.out⟩
     ·have ZQ:¬(k:Int)< (i:Int):=by omega
      go_wp2
      go_roundg (V.length- (i+1))
      case measure=>omega
      case rel=>exact⟨i+1,by go_num,by omega,Nat.le_refl _,HS2.out⟩
   ·have ZP:¬(i:Int)< (V.length:Int):=by omega
    have S2:Hid _:=Sep.aO (Sep.DA HS.out) (.cells #[.slice (some ⟨r,0,none⟩) V.length cv,.int .i64 0,.int .i64 (-1),.slice none 0 0] 159);have KP:Hid _:=Kp (A:=[]) (T:=V) (Z:=[]) (lo:=⟨#[]⟩) (hi:=⟨#[]⟩) HV.out hh 0 u (lf:=-1) (vo:=.slice none 0 0) (out:=[]) (L:=L) (w:=_) HN.out (by simp) HX.out HB.out (Int.le_refl _) (by have:=HR.out;omega) (.inl rfl) (by have:=HR.out;rw[HR.out.2.2.2];simp;omega) S2.out
    go_wp2_with fail
    refine Calls.mono KP.out ?_;rintro e w4 ⟨rfl,vo4,s4⟩;simp only[List.length_nil,Nat.zero_add,List.nil_append]at s4;rw[HR.out.2.2.2]at s4;obtain⟨KH,c4,rfl⟩:=Sep.kA (n:=E.length) (Sep.gj s4);have S4:Hid _:=s4;clear KP s4 S2 HS;generalize wr.heap.size=q at*;obtain⟨_,⟨c0,c1,c2,c3⟩,_⟩:=Sep.c4 S4.out;have KR:Hid _:=N.k7 _ E w4 (Sep.Dz (Sep.gj S4.out)) (Nat.le_trans HR.out.2.2.1 (by omega));rw[N.fo HR.out.1]at KR;have Bq:Hid (∀u,Below w4.heap.size w4 u->u.cell? ⟨q,3,none⟩=some (.slice KH E.length c4)):=fun u hu=>(Sep.c4 (Sep.below S4.out hu)).2.1.2.2.2;have KRU:Hid (∀u,Below w4.heap.size w4 u->Calls Tryz.prog 89 #[.slice KH E.length c4] u fun e w'=>e=.returned (.bool true)∧Below w4.heap.size w4 w'):=fun u hu=>by
     have k:=N.k7 _ E u (Sep.Dz (Sep.gj (Sep.below S4.out hu))) (Nat.le_trans HR.out.2.2.1 (by omega));rw[N.fo HR.out.1]at k;exact k.mono fun _ _ ⟨e,b⟩=>⟨e,hu.trans (b.mono hu.size)⟩
    have BX:Hid (Below w4.heap.size w4 w4.drew):=(Below.refl _ _).drew;have hS:=Bq.out _ BX.out;clear KR
    go_wp2_with fail
    go_region_held3 (fun X=>X.cell? ⟨q,3,none⟩=some (.slice KH E.length c4)) (first|assumption|exact hS) ((go_at_call 89;refine Calls.mono (KRU.out _ BX.out) ?_;rintro e w5 ⟨rfl,b5⟩;have BY:Hid (Below w4.heap.size w4 w5):=b5;have hS:=Bq.out _ BY.out;clear BX b5;have BX:=BY;clear BY))
    all_goals
     have SF:Hid (Sep B w0 _ _):=Sep.drop (Sep.below S4.out BX.out);clear KRU Bq hS BX S4;go_wp2;go_ret2;exact⟨KH,c4,rfl,SF.out⟩
end
end P
namespace N
theorem OE {l:List En}{fr tt:ByteArray}{i:Nat}(h:i<l.length):fJ fr tt (l.take (i+1))=fJ fr tt (l.take i)++(if(!bf l[i]!.1 fr&&bB tt l[i]!.1)=true then [l[i]!]else []):=by
 rw[cJ h];unfold fJ;rw[List.filter_append]
 congr 1
 generalize l[i]! =x;cases c:(!bf x.1 fr&&bB tt x.1)
 ·simp[c]
 ·simp[c]
theorem Kq {l:List En}{fr tt:ByteArray}:(fJ fr tt l).length<=l.length:=List.length_filter_le _ _
theorem uS (v:Value)(l:List En)(fr tt:ByteArray)(w:World)(h:Row aG 2 w v l)(hl:l.length<=100000):
  Calls Tryz.prog 21 #[v,.string fr,.string tt] w (Gv w (fJ fr tt l)):=by
 obtain⟨ao,cap,rfl,h1,h2,h3⟩:=h;have H3:Aside (l≠[]->∃b off,ao=some ⟨b,off,none⟩∧b<w.heap.size∧bI aG 2 w b off l):=h3;clear h3;go_enter Tryz.func21,Tryz.ntmps21;go_wp2
 go_loopg [7,8] l.length (fun kx s7 s8 wr=>∃(i:Nat) (cR:Option Addr) (n' c':Nat) (out:List En),s7=.slice cR n' c'∧s8=.int .i64 i∧i<=l.length∧l.length-i<=kx∧out.length<=i∧Hid (fJ fr tt (l.take i)=out)∧Aside (cX w.heap.size wr (.slice cR n' c') out)∧Hid (Below w.heap.size w wr))
 case atStart=>exact⟨0,none,0,0,[],rfl,rfl,Nat.zero_le _,Nat.le_refl _,Nat.le_refl _,rfl,cX.empty _ _ _,Below.refl _ _⟩
 case round=>
  obtain⟨i,cR,n',c',out,rfl,rfl,hi,hki,hol,HD,HO,HB⟩:=hrel;by_cases hil:i<l.length
  ·have dy:(i:Int)< (l.length:Int):=by omega
   obtain⟨b,off,rfl,hb,x1,x2⟩:=cC H3.out i hil HB.out;have T:Hid _:=OE (fr:=fr) (tt:=tt) hil;rw[HD.out]at T;generalize l[i]! =x at*;have key:(∀o2,Hid (out++[x]=o2)->Hid (fJ fr tt (l.take (i+1))=o2)->True):=fun _ _ _=>trivial;clear key;have NO:Hid ((!bf x.1 fr&&bB tt x.1)=false->fJ fr tt (l.take (i+1))=out):=fun e=>by
    have:=T.out;rw[if_neg (by rw[e];simp),List.append_nil]at this;exact this
   have YES:Hid ((!bf x.1 fr&&bB tt x.1)=true->fJ fr tt (l.take (i+1))=out++[x]):=fun e=>by
    have:=T.out;rw[if_pos e]at this;exact this
   clear T;cases hg:bf x.1 fr with
   |true=>
    have hs:(!Op.bytesLess x.1.toList fr.toList)=false:=by
     rw[show Op.bytesLess x.1.toList fr.toList=true from hg];rfl
    have T2:Hid (fJ fr tt (l.take (i+1))=out):=NO.out (by rw[hg];rfl);clear NO YES hg;go_wp2
    go_roundg (l.length- (i+1))
    case measure=>omega
    case rel=>exact⟨i+1,cR,n',c',out,rfl,by go_num,by omega,Nat.le_refl _,by omega,T2,HO,HB⟩
   |false=>
    have hs:(!Op.bytesLess x.1.toList fr.toList)=true:=by
     rw[show Op.bytesLess x.1.toList fr.toList=false from hg];rfl
    by_cases hz:tt=⟨#[]⟩∨bf x.1 tt=true
    ·have hsp:bB tt x.1=true:=by
      unfold bB;rcases hz with e|e
      ·simp[e]
      ·simp[e]
     have T2:Hid (fJ fr tt (l.take (i+1))=out++[x]):=YES.out (by rw[hg,hsp];rfl);obtain⟨o2,ho2⟩:∃o2,out++[x]=o2:=⟨_,rfl⟩;rw[ho2]at T2;have O2:Hid (out++[x]=o2):=ho2;have l2:o2.length<=i+1:=by rw[<-ho2];simp;omega
     have B2:Hid (Below w.heap.size w (wr.alloc (.cells #[.string x.1,.string x.2] 45))):=HB.out.alloc HB.out.size _;have OA:Aside (cX w.heap.size (wr.alloc (.cells #[.string x.1,.string x.2] 45)) (.slice cR n' c') out):=HO.out.below ((Below.refl _ wr).alloc (Nat.le_refl _) _);have RO:Hid (Row aG 2 (wr.alloc (.cells #[.string x.1,.string x.2] 45)) (.slice (some ⟨wr.heap.size,0,none⟩) 1 1) [x]):=(Cl.new wr #[.string x.1,.string x.2] 45).row;have hsz:=B2.out.size;clear ho2 HO HD NO YES hg hsp;rcases Classical.em (tt=⟨#[]⟩)with h0|h0
     ·subst h0;clear hz
      go_wp2_with (at_builtin;refine jO rfl _ _ rfl w.heap.size _ out rfl OA.out _ [x] rfl RO.out (by simp;omega) hsz o2 O2.out ?_)
      intro a3 n3 c3 w3 O3 B3;have O4:Aside (cX w.heap.size w3 (.slice a3 n3 c3) o2):=O3;have B4:Hid (Below w.heap.size w w3):=B3 _ B2.out;clear O3 B3 OA RO B2 hsz O2;go_wp2
      go_roundg (l.length- (i+1))
      case measure=>omega
      case rel=>exact⟨i+1,a3,n3,c3,o2,rfl,by go_num,by omega,Nat.le_refl _,by omega,T2,O4,B4⟩
     ·have hlt:Op.bytesLess x.1.toList tt.toList=true:=hz.resolve_left h0;have he:tt.toList≠[]:=fun e=>h0 (dY (e.trans (by simp)));have he2:tt.toList.isEmpty=false:=by simpa using he
      clear hz h0
      go_wp2_with (at_builtin;refine jO rfl _ _ rfl w.heap.size _ out rfl OA.out _ [x] rfl RO.out (by simp;omega) hsz o2 O2.out ?_)
      intro a3 n3 c3 w3 O3 B3;have O4:Aside (cX w.heap.size w3 (.slice a3 n3 c3) o2):=O3;have B4:Hid (Below w.heap.size w w3):=B3 _ B2.out;clear O3 B3 OA RO B2 hsz O2;go_wp2
      go_roundg (l.length- (i+1))
      case measure=>omega
      case rel=>exact⟨i+1,a3,n3,c3,o2,rfl,by go_num,by omega,Nat.le_refl _,by omega,T2,O4,B4⟩
    ·have h0:tt≠⟨#[]⟩:=fun e=>hz (.inl e);have hl0:bf x.1 tt=false:=by
      cases e:bf x.1 tt
      ·rfl
      ·exact absurd (.inr e) hz
     have hlt:Op.bytesLess x.1.toList tt.toList=false:=hl0;have he:tt.toList≠[]:=fun e=>h0 (dY (e.trans (by simp)));have he2:tt.toList.isEmpty=false:=by simpa using he
     have T2:Hid (fJ fr tt (l.take (i+1))=out):=NO.out (by unfold bB;rw[hl0,decide_eq_false h0];simp);clear NO YES hz hl0 h0;go_wp2
     go_roundg (l.length- (i+1))
     case measure=>omega
     case rel=>exact⟨i+1,cR,n',c',out,rfl,by go_num,by omega,Nat.le_refl _,by omega,T2,HO,HB⟩
  ·have dy:¬(i:Int)< (l.length:Int):=by omega
   obtain rfl:i=l.length:=by omega
   rw[List.take_length]at HD;go_wp2;go_ret;exact⟨_,rfl,by rw[HD.out];exact HO.out.own,HB.out⟩
end N
namespace P
open N (Nd En eH cH mi ju gT j8 Rg bf cx)
section
variable {B:Nat}{w0 w w':World}{C:Cx}{d:Dk}{l:List aP}{E:List En}{k:Nat}
theorem bY.below (h:bY B w0 d C E k l w)(hb:Below w.heap.size w w'):bY B w0 d C E k l w':=by
 obtain⟨r,x,d1,P,X,H,s,r1⟩:=h;exact⟨r,x,d1,P,X,H,s.below hb,r1⟩
theorem bY.drop {a:aP}(h:bY B w0 d C E k (a::l) w):bY B w0 d C E k l w:=h.of fun _ _ _ _ s=>Sep.drop (Sep.iA s)
theorem bY.row {v:Value}{s:List En}(h:bY B w0 d C E k (ig v s::l) w):N.Row N.aG 2 w v s:=by
 obtain⟨r,x,d1,P,X,H,s9,_⟩:=h;exact Sep.Dz (Sep.iA s9)
end
end P
namespace P
open N (Nd En eH cH mi ju gT j8 Rg bf cx)
section
variable {B:Nat}{w0 w:World}{C:Cx}{x:TX}{d:Dk}{P:List NV}{l:List aP}
theorem Ut (h:Sep B w0 w (TL C x d P l)):Calls Tryz.prog 30 #[ptr C.tq] w fun e w'=>e=.returned (.int .i64 (if C.err=0 then C.root else 0))∧w=w':=by
 have KE:Hid _:=Pp h;have KG:Hid _:=gD w C.tq;obtain⟨ts,⟨t0,t1,t2⟩,_⟩:=Sep.uH (Sep.pk [_,_] h);clear h;by_cases h0:C.err=0
 ·rw[if_pos h0];rw[h0]at KE;clear h0;go_enter Tryz.func30,Tryz.ntmps30
  go_wp2_with fail
  refine Calls.mono KE.out ?_;rintro e w1 ⟨rfl,rfl⟩;clear KE
  go_wp2_with fail
  refine Calls.mono KG.out ?_;rintro e w1 ⟨rfl,rfl⟩;clear KG;go_wp2;go_ret;exact⟨rfl,rfl⟩
 ·rw[if_neg h0];have hne:(C.err != 0)=true:=bne_iff_ne.2 h0;generalize C.err=er at*;clear h0;go_enter Tryz.func30,Tryz.ntmps30
  go_wp2_with fail
  refine Calls.mono KE.out ?_;rintro e w1 ⟨rfl,rfl⟩;clear KE KG;go_wp2;go_ret;exact⟨rfl,rfl⟩
end
end P
namespace P
open N (Nd En bf Rg aT hidR ar aj Ch aM ah waits)
theorem OG {V:List kH}{root:Int}{E:List En}{X:List Int}{H:Nat}(hw:Sv (V.map uP) root E X H):V.length=X.length:=by
 rcases hw with⟨_,e,_,eX,_⟩| ⟨_,h,u,_,e,_,_,eX,_⟩
 ·rw[eX,List.map_eq_nil_iff.1 e];rfl
 ·rw[<-eX,<-wW h 0 u,<-e,List.length_map]
theorem OH:(Tryz.prog.info? 100).map (fun i=>(i.zero,i.size,i.bytes))=some (some (.agg #[.int .i64 0,.int .i64 0,.bool false,.slice none 0 0,.slice none 0 0,.slice none 0 0]),6,96):=by kernel_rfl
section
variable {B:Nat}{w0 w w':World}{C:Cx}{d:Dk}{E:List En}{k:Nat}{l:List aP}
theorem WN {v:Value}{V:List kH}{y:kH}(h:Sep B w0 w (RowK 100 6 v (V.length+1) (V.flatMap lJ++lJ y)::l)):Sep B w0 w (ir v (V++[y])::l):=by
 unfold ir;rw[List.length_append,List.length_singleton,List.flatMap_append,List.flatMap_singleton];exact h
theorem Bw {av:Option Addr}{cv:Nat}{L:List aP}{V:List kH}{ix:Nat}(h:Sep B w0 w (wV (.slice av V.length cv) V::L)){v:kH}(hv:V[ix]? =some v):∃r,av=some ⟨r,0,none⟩∧r<w.heap.size∧w.cell? ⟨r,ix*6,none⟩=some (.int .i64 v.1)∧w.cell? ⟨r,ix*6+1,none⟩=some (.int .i64 v.2.1)∧w.cell? ⟨r,ix*6+2,none⟩=some (.bool v.2.2.n.leaf)∧
  w.cell? ⟨r,ix*6+3,none⟩=some (.slice v.2.2.ae v.2.2.n.es.length v.2.2.ce)∧w.cell? ⟨r,ix*6+4,none⟩=some (.slice v.2.2.ak v.2.2.n.ks.length v.2.2.ck)∧w.cell? ⟨r,ix*6+5,none⟩=some (.slice v.2.2.az v.2.2.n.ss.length v.2.2.cz):=by
 have hlt:ix<V.length:=by
  rcases Nat.lt_or_ge ix V.length with h|h
  ·exact h
  ·rw[List.getElem?_eq_none h]at hv;cases hv
 obtain⟨rq,cq,ev,_,hrq,hcell⟩:=Sep.gh h (by rw[wZ];omega);obtain rfl:av=some ⟨rq,0,none⟩:=by injection ev
 have hl:=wZ (V:=V);have f:=Kl hv;refine⟨rq,rfl,hrq,?_,?_,?_,?_,?_,?_⟩
 ·rw[hcell _ (by omega)];exact f 0 (by omega)
 ·rw[hcell _ (by omega)];exact f 1 (by omega)
 ·rw[hcell _ (by omega)];exact f 2 (by omega)
 ·rw[hcell _ (by omega)];exact f 3 (by omega)
 ·rw[hcell _ (by omega)];exact f 4 (by omega)
 ·rw[hcell _ (by omega)];exact f 5 (by omega)
theorem OJ (T:cB B w0)(hr:d.room<=16384)(h0:C.err=0)(hE:E.length<=1000)(h:bY B w0 d C E k l w):
  Calls Tryz.prog 23 #[ptr C.tq] w fun e w'=>∃ao c,e=.returned (.tuple #[.slice ao E.length c,.bool true])∧bY B w0 d C E k (ig (.slice ao E.length c) E::l) w':=by
 have K1:Hid _:=zB T hr h0 hE h;have C0:Hid (C.err=0):=h0;have HE:Hid (E.length<=1000):=hE;clear h hE;unfold ptr at*;go_enter Tryz.func23,Tryz.ntmps23
 go_wp2_with fail
 refine Calls.mono K1.out ?_;rintro e u2 ⟨av,cv,V,rr,X,H,rfl,h9⟩;obtain⟨x,d1,P,s9,hd,ZR,M9,hc9,ZT,XF⟩:=h9;have hh:=bY.lK ZR HE.out;have ZU:Hid (V.length<=1800):=by rw[show(V.length<=1800)=(V.length<=1800)from rfl,OG ZT];exact hh.2
 have H9:Hid (bp d d1∧Tx d.room d x rr E X H∧Mn d.room x X∧x.cnt<=1000*k):=⟨hd,ZR,M9,hc9⟩;have HW:Hid (Sv (V.map uP) rr E X H∧H<=9∧∀v∈V,v.2.2∈P):=⟨ZT,hh.1,XF⟩;have S9:Hid (Sep B w0 u2 (TL (C.dh rr) x d1 P (ir (.slice none 0 0) []::wV (.slice av V.length cv) V::l))):=Sep.E4 (Sep.Nv s9);clear K1 s9 hd ZR M9 hc9 ZT XF hh;go_wp2
 go_loopg [6,7] V.length (fun kx s6 s7 wr=>∃(j:Nat) (ao:Option Addr) (c:Nat),s6=.slice ao (V.take j).length c∧s7=.int .i64 (j:Int)∧j<=V.length∧V.length-j<=kx∧Hid (Sep B w0 wr (TL (C.dh rr) x d1 P (ir (.slice ao (V.take j).length c) (V.take j)::wV (.slice av V.length cv) V::l))))
 case atStart=>exact⟨0,none,0,rfl,rfl,Nat.zero_le _,Nat.le_refl _,S9.out⟩
 case round=>
  obtain⟨j,ao,cc,rfl,rfl,hj,V6,HS⟩:=hrel;clear S9;by_cases hjl:j<V.length
  ·have Kn:(j:Int)< (V.length:Int):=by omega
   obtain⟨v,hv⟩:∃v,V[j]? =some v:=⟨V[j],List.getElem?_eq_getElem hjl⟩;obtain⟨rq,rfl,hrq,y0,y1,y2,y3,y4,y5⟩:=Bw (Sep.dG HS.out) hv;have UJ:IntKind.i64.wrap ((j:Int)+1)=((j+1:Nat):Int):=by rw[bA (by omega) (by have:=ZU.out;omega)];rfl
   have Bv:Hid (j<V.length):=hjl;have XH:Hid (V.take (j+1)=V.take j++[v]):=by show _=_;rw[List.take_add_one,hv];rfl
   have XB:Hid ((V.take j).length=j):=by have:=List.length_take (i:=j) (l:=V);show _=_;omega
   have ZM:Hid ((V.take j).length<1000000):=by have:=ZU.out;show _<_;rw[XB.out];omega
   have HVJ:Hid (V[j]? =some v):=hv;clear hv;obtain⟨pid,iB,pn⟩:=v;simp only at y0 y1 y2 y3 y4 y5;generalize V.take j=o at*;have S7:Hid (Sep B w0 (wr.alloc (.cells #[.bool pn.n.leaf,.slice pn.ae pn.n.es.length pn.ce,.slice pn.ak pn.n.ks.length pn.ck,.slice pn.az pn.n.ss.length pn.cz] 74)) (aF wr.heap.size (.cells #[.bool pn.n.leaf,.slice pn.ae pn.n.es.length pn.ce,.slice pn.ak pn.n.ks.length pn.ck,.slice pn.az pn.n.ss.length pn.cz] 74)::ir (.slice ao o.length cc) o::TL (C.dh rr) x d1 P (wV (.slice (some ⟨rq,0,none⟩) V.length cv) V::l))):=Sep.aO (Sep.iA HS.out) _
   go_wp2_with fail
   clear HS y0 y1 y2 y3 y4 y5;generalize wr.alloc (.cells #[.bool pn.n.leaf,.slice pn.ae pn.n.es.length pn.ce,.slice pn.ak pn.n.ks.length pn.ck,.slice pn.az pn.n.ss.length pn.cz] 74)=w7 at*;generalize wr.heap.size=qn at*;obtain⟨hqn,⟨n0,n1,n2,n3⟩,_⟩:=Sep.c4 S7.out;obtain⟨rq',e',aaN,y0,y1,_⟩:=Bw (Sep.cW S7.out) HVJ.out;cases e';simp only at y0 y1;have SN:Hid (Sep B w0 (w7.drew.alloc (.cells #[.int .i64 pid,.int .i64 iB,.bool pn.n.leaf,.slice pn.ae pn.n.es.length pn.ce,.slice pn.ak pn.n.ks.length pn.ck,.slice pn.az pn.n.ss.length pn.cz] 100)) (ir (.slice ao o.length cc) o::aF w7.drew.heap.size (.cells #[.int .i64 pid,.int .i64 iB,.bool pn.n.leaf,.slice pn.ae pn.n.es.length pn.ce,.slice pn.ak pn.n.ks.length pn.ck,.slice pn.az pn.n.ss.length pn.cz] 100)::aF qn (.cells #[.bool pn.n.leaf,.slice pn.ae pn.n.es.length pn.ce,.slice pn.ak pn.n.ks.length pn.ck,.slice pn.az pn.n.ss.length pn.cz] 74)::TL (C.dh rr) x d1 P (wV (.slice (some ⟨rq,0,none⟩) V.length cv) V::l))):=Sep.lq (Sep.aO S7.out.drew _);have JW:Hid _:=wU (news:=lJ (pid,iB,pn)) (Sep.blk (Sep.gj SN.out));clear S7
   go_region_held3 (fun X=>X.cell? ⟨rq,j*6,none⟩=some (.int .i64 pid)∧X.cell? ⟨rq,j*6+1,none⟩=some (.int .i64 iB)∧X.cell? ⟨qn,0,none⟩=some (.bool pn.n.leaf)∧X.cell? ⟨qn,1,none⟩=some (.slice pn.ae pn.n.es.length pn.ce)∧X.cell? ⟨qn,2,none⟩=some (.slice pn.ak pn.n.ks.length pn.ck)∧X.cell? ⟨qn,3,none⟩=some (.slice pn.az pn.n.ss.length pn.cz)) (first|assumption|exact hS|go_keep) ((refine PJ rfl rfl OH Tryz.underlying97 rfl (by decide) (by decide) _ rfl SN.out rfl JW.out rfl (zl (pid,iB,pn)) ZM.out ?_;intro lM c3 w3 s4;obtain⟨_,⟨m0,m1,m2,m3⟩,_⟩:=Sep.c4 (Sep.lq s4);obtain⟨r9,e9,_,t0,t1,_⟩:=Bw (Sep.ei s4) HVJ.out;cases e9;have hS:=And.intro t0 (And.intro t1 (And.intro m0 (And.intro m1 (And.intro m2 m3))))))
   all_goals
    have s5:=WN s4;have S8:Hid (Sep B w0 w3 (TL (C.dh rr) x d1 P (ir (.slice lM (o.length+1) c3) (o++[(pid,iB,pn)])::wV (.slice (some ⟨rq,0,none⟩) V.length cv) V::l))):=Sep.E4 (Sep.drop (Sep.gj (Sep.drop (Sep.lq s5))));clear SN JW s4 s5 m0 m1 m2 m3 t0 t1 hS n0 n1 n2 n3 y0 y1;go_wp2
    go_roundg (V.length- (j+1))
    case measure=>have:=Bv.out;omega
    case rel=>exact⟨j+1,lM,c3,by rw[XH.out,List.length_append];rfl,by go_num,by have:=Bv.out;omega,Nat.le_refl _,by rw[XH.out,List.length_append];exact S8.out⟩
  ·have Kn:¬(j:Int)< (V.length:Int):=by omega
   obtain rfl:j=V.length:=by omega
   rw[List.take_length]at HS;rw[List.take_length];have KR:Hid (Calls Tryz.prog 30 #[ptr C.tq] wr fun e w'=>e=.returned (.int .i64 rr)∧wr=w'):=by
    have h:=Ut HS.out;rw[if_pos (show(C.dh rr).err=0 from C0.out)]at h;exact h
   have KW:Hid _:=FC (w:=wr) (L:=TL (C.dh rr) x d1 P (wV (.slice av V.length cv) V::l)) (Sep.iA HS.out) (fun u hu v hv=>Sep.pool (Sep.sW hu) _ (HW.out.2.2 v hv)) HW.out.1 (by have:=HW.out.2.1;omega) (by have:=ZU.out;omega) (by have:=HE.out;omega);clear HS
   try unfold ptr at*
   go_wp2_with fail
   refine Calls.mono KR.out ?_;rintro e w6 ⟨rfl,rfl⟩;clear KR
   go_wp2_with fail
   refine Calls.mono KW.out ?_;rintro e w7 ⟨MQ,c7,rfl,s7⟩;have SF:Hid (bY B w0 d C E k (ig (.slice MQ E.length c7) E::l) w7):=⟨rr,x,d1,P,X,H,Sep.E4 (Sep.drop (Sep.dG (Sep.drop (Sep.gj s7)))),H9.out⟩;clear KW s7 H9;go_wp2;go_ret2;exact⟨MQ,c7,rfl,SF.out⟩
end
end P
namespace P
open N (Nd En bf Rg)
def Bx (v:Value)(s:List En):aP:=fun w X=>N.Row N.aG 2 w v s∧∀k,X k↔s≠[]∧∃o n c,v=.slice (some ⟨k,o,none⟩) n c
theorem OL (v:Value)(s:List En):Good (Bx v s):=
 ⟨fun w w' X h hk hs=>by
  obtain⟨⟨ao,cap,e,h1,h2,h3⟩,hX⟩:=h
  refine⟨⟨ao,cap,e,h1,h2,fun hne=>?_⟩,hX⟩
  obtain⟨b,off,e2,hb,hH⟩:=h3 hne
  subst e2 e
  have hb2:=hk b ((hX b).2 ⟨hne,off,_,_,rfl⟩)
  exact⟨b,off,rfl,Nat.lt_of_lt_of_le hb hs,fun t ht=>(World.cell?_of_block (a:=⟨b,off+t,none⟩) hb2).trans (hH t ht)⟩,fun w X h k hk=>by
  obtain⟨hne,o,n,c,e⟩:=(h.2 k).1 hk
  obtain⟨ao,cap,e1,_,_,h3⟩:=h.1
  obtain⟨b,off,e2,hb,_⟩:=h3 hne
  rw[e1,e2]at e
  cases e
  exact hb⟩
section
variable {B:Nat}{w0 w w':World}{C:Cx}{d:Dk}{E:List En}{k:Nat}{l:List aP}{v:Value}{s:List En}
theorem Sep.rw9 (h:Sep B w0 w (Bx v s::l)):N.Row N.aG 2 w v s:=by
 obtain⟨_,_,Y,⟨_,X,_,ha,_⟩,_⟩:=h;exact ha.1
theorem Sep.zG (h:Sep B w0 w l)(hb:Below w.heap.size w w')(o:N.Own N.aG 2 w.heap.size w' v s):Sep B w0 w' (Bx v s::l):=
 h.add hb (OL _ _) (X:=fun k=>s≠[]∧∃o n c,v=.slice (some ⟨k,o,none⟩) n c) ⟨o.row,fun _=>Iff.rfl⟩ (fun k hk=>by
  obtain⟨hne,o',n,c,e⟩:=hk
  obtain⟨ao,cap,e1,_,_,h3⟩:=o
  obtain⟨b,off,e2,hb,_⟩:=h3 hne
  rw[e1,e2]at e
  cases e
  exact hb)
theorem bY.zG (h:bY B w0 d C E k l w)(hb:Below w.heap.size w w')(o:N.Own N.aG 2 w.heap.size w' v s):bY B w0 d C E k (Bx v s::l) w':=
 h.of fun _ _ _ _ q=>Sep.E4 (Sep.zG q hb o)
theorem bY.WO {a:aP}(h:bY B w0 d C E k (a::Bx v s::l) w):N.Row N.aG 2 w v s:=by
 obtain⟨r,x,d1,P,X,H,q,_⟩:=h;exact Sep.rw9 (Sep.dG q)
theorem bY.rw3 {a b:aP}(h:bY B w0 d C E k (a::b::Bx v s::l) w):N.Row N.aG 2 w v s:=by
 obtain⟨r,x,d1,P,X,H,q,_⟩:=h;exact Sep.rw9 (Sep.cW q)
theorem bY.drop2 {a b:aP}(h:bY B w0 d C E k (a::b::l) w):bY B w0 d C E k (a::l) w:=h.of fun _ _ _ _ q=>Sep.drop (Sep.dG q)
theorem bY.WQ (h:bY B w0 d C E k l w):bY B w0 d C E k (Bx (.slice none 0 0) []::l) w:=
 h.zG (Below.refl _ _) N.Own.nil
theorem bY.more (h:bY B w0 d C E k l w):bY B w0 d C E (k+1) l w:=by
 obtain⟨r,x,d1,P,X,H,s,a1,a2,a3,a4⟩:=h;exact⟨r,x,d1,P,X,H,s,a1,a2,a3,by omega⟩
theorem bY.only {a b c:aP}(h:bY B w0 d C E k (a::b::c::l) w):bY B w0 d C E k (a::l) w:=bY.drop2 (bY.drop2 h)
theorem bY.drewN (h:bY B w0 d C E k l w)(n:Nat):bY B w0 d C E k l (w.drewN n):=h.of fun _ _ _ _ q=>q.drewN n
theorem bY.c3 {q:Nat}{x0 x1 x2:Value}{ty:TypeId}(h:bY B w0 d C E k (aF q (.cells #[x0,x1,x2] ty)::l) w):q<w.heap.size∧w.cell? ⟨q,0,none⟩=some x0∧w.cell? ⟨q,1,none⟩=some x1∧w.cell? ⟨q,2,none⟩=some x2:=by
 have hb:=(bY.sep h).blk;refine⟨(Array.getElem?_eq_some_iff.1 hb).1,?_,?_,?_⟩<;>simp[World.cell?,hb]
theorem bY.c2 {q:Nat}{x0 x1:Value}{ty:TypeId}(h:bY B w0 d C E k (aF q (.cells #[x0,x1] ty)::l) w):q<w.heap.size∧w.cell? ⟨q,0,none⟩=some x0∧w.cell? ⟨q,1,none⟩=some x1:=by
 have hb:=(bY.sep h).blk;refine⟨(Array.getElem?_eq_some_iff.1 hb).1,?_,?_⟩<;>simp[World.cell?,hb]
end
end P
end Go.Proofs.YtceoeaemenhbhaaGreatDoor
