/- Walks of the package cowtree and of what it stands on: lemmas, made short. -/
import Derived.Test.YtceoeaemenhbhabGreatDoorU12
import Derived.Deep.Slices
import Derived.ProofKit
import Derived.OpenShut
import Derived.ChangeOld
import Derived.Below
import Derived.ChangeSlices
import Derived.Test.YtceoeaemenhbhabGreatDoorU6
set_option maxHeartbeats 16000000
set_option maxRecDepth 100000
set_option linter.unusedVariables false
set_option linter.unusedSimpArgs false
namespace Go.Proofs.YtceoeaemenhbhabGreatDoor
open Go.Shelf Go.RowKit Go.Lib Go.Sort
section
open N (Nd nd0 cE cI dG je fT Sm dA En Ak xP kP pG eK)
section
variable {B:Nat}{w0 w w':World}{l:List aP}{P:List NV}{C:Cx}{S S':Dr}{x:TX}{d d1:Dk}{r er Nb:Int}{cm:pQ}{key val:ByteArray}{es0:List En}{qk qv:Nat}
theorem Sep.dW {q1 q2:Nat}{o1 o2:Obj}(h:Sep B w0 w (Both (aF q1 o1) (aF q2 o2)::l)):Sep B w0 w (aF q1 o1::aF q2 o2::l):=h.map fun _=>Hp.part (a8 _ _) (a8 _ _)
theorem Sep.c1 {q:Nat}{a:Value}{ty:TypeId}(h:Sep B w0 w (aF q (.cells #[a] ty)::l)):q<w.heap.size∧w.cell? ⟨q,0,none⟩=some a∧w.frozen? ⟨q,0,none⟩=false:=by
 have hb:=h.blk;exact⟨(Array.getElem?_eq_some_iff.1 hb).1,by simp[World.cell?,hb],by simp[World.frozen?,hb]⟩
theorem DL.U9 {v:Value}{es:List En}(h:Sep B w0 w (DL C S d P l))(ho:N.Own N.aG 2 w.heap.size w' v es)(hb:Below w.heap.size w w'):∃ao cc,v=.slice ao es.length cc∧Sep B w0 w' (DL C S d ((⟨ao,cc,none,0,none,0,⟨true,es,[],[]⟩⟩:NV)::P) l):=by
 obtain⟨ao,cc,rfl,hr⟩:=id ho;exact⟨ao,cc,rfl,DL.add (p:=⟨ao,cc,none,0,none,0,⟨true,es,[],[]⟩⟩) h hb ⟨ho,N.Own.nil,N.Own.nil⟩⟩
theorem RQ:mJ B w0 C 30 (.pointer (some ⟨qk,0,none⟩)) (.pointer (some ⟨qv,0,none⟩)) (fun es=>Ak es key val) es0 (Both (aF qk (.cells #[.string key] 9)) (aF qv (.cells #[.string val] 9))) (Both (aF qk (.cells #[.string key] 9)) (aF qv (.cells #[.string val] 9))):=by
 intro w S d P l p h hp hl he0;have h2:=Sep.dW (Sep.pk [_,_,_,_,_] (h));obtain⟨ks,k0,_⟩:=Sep.c1 h2;obtain⟨vs,v0,_⟩:=Sep.c1 (Sep.pk [_] h2);have K:Hid _:=N.GU (.slice p.ae p.n.es.length p.ce) p.n.es key val w (DL.nd h hp).e (by omega);have HS:Hid (Sep B w0 w (DL C S d P ((Both (aF qk (.cells #[.string key] 9)) (aF qv (.cells #[.string val] 9)))::l))):=h;clear h h2 hp hl he0;go_enter Tryz.func30,Tryz.ntmps30
 go_wp2_with fail
 refine Calls.mono K.out ?_;rintro e w1 ⟨v,rfl,ho,hb⟩;obtain⟨ao,cc,rfl,s1⟩:=DL.U9 HS.out ho hb;have SF:Hid _:=s1;clear K HS ho hb s1;go_wp2;go_ret;exact⟨ao,cc,rfl,SF.out⟩
theorem RZ:mJ B w0 C 36 (.pointer (some ⟨qk,0,none⟩)) (.pointer (some ⟨qv,0,none⟩)) (fun es=>xP es key) es0 (Both (aF qk (.cells #[.string key] 9)) (aF qv (.cells #[.bool false] 4))) (Both (aF qk (.cells #[.string key] 9)) (aF qv (.cells #[.bool (kP es0 key)] 4))):=by
 intro w S d P l p h hp hl he0;have h2:=Sep.dW (Sep.pk [_,_,_,_,_] (h));obtain⟨ks,k0,_⟩:=Sep.c1 h2;have KG:Hid _:=N.BI (.slice p.ae p.n.es.length p.ce) p.n.es key w (DL.nd h hp).e (by omega);have hg1:kP p.n.es key=kP es0 key:=by rw[he0]
 rw[hg1]at KG;clear hg1;have HP:Hid (p∈P∧p.n.es.length<=500∧p.n.es=es0):=⟨hp,hl,he0⟩;have HS:Hid (Sep B w0 w (DL C S d P ((Both (aF qk (.cells #[.string key] 9)) (aF qv (.cells #[.bool false] 4)))::l))):=h;clear h h2 hp hl he0;generalize kP es0 key=gb at*;generalize pG p.n.es key=gv at*;go_enter Tryz.func36,Tryz.ntmps36
 go_wp2_with fail
 refine Calls.mono KG.out ?_;rintro e w1 ⟨rfl,b1⟩;have h3:=Sep.dW (Sep.pk [_,_,_,_,_] ((HS.out.below b1)));obtain⟨iz,k1,_⟩:=Sep.c1 h3;obtain⟨vs1,v1,f1⟩:=Sep.c1 (Sep.pk [_] h3);have hne:qk≠qv:=Sep.ne h3;have hne':=hne.symm;have S2:Hid (Sep B w0 (w1.setCell ⟨qv,0,none⟩ (.bool gb)) (DL C S d P ((Both (aF qk (.cells #[.string key] 9)) (aF qv (.cells #[.bool gb] 4)))::l))):=by
  have h4:=Sep.gC (x:=.bool gb) (Sep.pk [_] h3) 0;exact Sep.pb [_,_,_,_,_] (Sep.join (Sep.pk [_] h4))
 have h5:=Sep.dW (Sep.pk [_,_,_,_,_] (S2.out));obtain⟨iO,k2,_⟩:=Sep.c1 h5;have KE:Hid _:=N.Al (.slice p.ae p.n.es.length p.ce) p.n.es key _ (DL.nd S2.out HP.out.1).e (by have:=HP.out;omega);clear h3 h5 KG HS b1
 go_wp2_with fail
 refine Calls.mono KE.out ?_;rintro e w3 ⟨v,rfl,ho,hb⟩;obtain⟨ao,cc,rfl,s3⟩:=DL.U9 S2.out ho hb;have SF:Hid _:=s3;clear KE S2 ho hb s3;go_wp2;go_ret;exact⟨ao,cc,rfl,SF.out⟩
def GK (B:Nat)(w0:World)(C:Cx)(S:Dr)(d:Dk)(P:List NV)(l:List aP)(r er:Int)(w':World):Prop:=
 ∃P' d',(∀x∈P,x∈P')∧bp d d'∧((er≠0∧Sep B w0 w' (TL (C.yV er) (aI S.x S.taken) d' P' l))∨(er=0∧∃L,(L.Pairwise (· < ·)∧∀k,k∈L↔(S.nodes k).isSome=true)∧Sep B w0 w' (TL (C.cD r) (cL S.nodes (aI S.x S.spare) L) d' P' l)))
theorem gD (w:World)(q:Nat):Calls Tryz.prog 27 #[ptr q] w fun e w'=>e=.returned (ptr q)∧w=w':=by
 unfold ptr;go_enter Tryz.func27,Tryz.ntmps27;go_wp2;go_ret;exact⟨rfl,rfl⟩
theorem NQ (h:Sep B w0 w (TL C x d1 P l))(h0:C.err=0)(h1:eK key val≠0):Calls Tryz.prog 10 #[ptr C.tq,.string key,.string val] w fun e w'=>e=.returned (.int .i64 (eK key val))∧Sep B w0 w' (TL C x d1 P l):=by
 have SF:Hid (Sep B w0 ((w.alloc (.cells #[.string key] 9)).alloc (.cells #[.string val] 9)) (TL C x d1 P l)):=(h.alloc _).alloc _;have KG:Hid _:=gD ((w.alloc (.cells #[.string key] 9)).alloc (.cells #[.string val] 9)) C.tq;have KK:Hid _:=N.gK key val ((w.alloc (.cells #[.string key] 9)).alloc (.cells #[.string val] 9));obtain⟨ts,⟨t0,t1,t2⟩,_⟩:=Sep.uJ (Sep.pk [_,_] (h));rw[h0]at t2;have hne:(eK key val != 0)=true:=bne_iff_ne.2 h1;generalize eK key val=ec at*;clear h h0 h1;go_enter Tryz.func10,Tryz.ntmps10
 go_wp2_with fail
 refine Calls.mono KG.out ?_;rintro e w1 ⟨rfl,rfl⟩;clear KG
 go_wp2_with fail
 refine Calls.mono KK.out ?_;rintro e w1 ⟨rfl,rfl⟩;clear KK;go_wp2;go_ret;exact⟨rfl,SF.out⟩
theorem R7 (T:cd B w0)(hst:∀C:Cx,aX B w0 C d Nb cm)(dV:∀ {S S':Dr} {n:Nd} {depth i tt:Int} {r:Nd×Int},DI S d.room->cm S n depth i tt=some (r,S')->DI S' d.room)(eN:∀ {S9 S8:Dr} {n9:Nd} {i9 j9 k9:Int} {r9:Nd×Int},cm S9 n9 i9 j9 k9=some (r9,S8)->bZ n9=true)(hel:∀es,((fun es=>Ak es key val) es).length<=es.length+1)(hr:d.room<=16384)(hNb:Nb<=1000000)(hN0:29<=Nb)(hd:bp d d1)(h:Sep B w0 w (TL C x d1 P l))(I:DI (eQ x) d.room)(Le:DI S' d.room)(hF:Fin S')(hlf:th d key es0 30 (eQ x) ⟨false,[],[C.root],[]⟩ (-1))(he:jY cm d.room d key (fun es=>Ak es key val) C.root (eQ x)=some ((r,er),S'))(h0:C.err=0)(h1:eK key val=0):Calls Tryz.prog 10 #[ptr C.tq,.string key,.string val] w fun e w'=>e=.returned (.int .i64 er)∧GK B w0 C S' d P l r er w':=by
 have S1:Hid (Sep B w0 ((w.alloc (.cells #[.string key] 9)).alloc (.cells #[.string val] 9)) (TL C x d1 P ((Both (aF w.heap.size (.cells #[.string key] 9)) (aF (w.heap.size+1) (.cells #[.string val] 9)))::l))):=Sep.pb [_,_,_,_] (Sep.join (Sep.qO (Sep.aU (Sep.aN h _) _ (w.heap.size+1) (by simp))));have KG:Hid _:=gD ((w.alloc (.cells #[.string key] 9)).alloc (.cells #[.string val] 9)) C.tq;have KK:Hid _:=N.gK key val ((w.alloc (.cells #[.string key] 9)).alloc (.cells #[.string val] 9));rw[h1]at KK;have KC:Hid (Calls Tryz.prog 29 #[ptr C.tq,.string key,.func (.func 30) #[] #[.pointer (some ⟨w.heap.size,0,none⟩),.pointer (some ⟨w.heap.size+1,0,none⟩)]] ((w.alloc (.cells #[.string key] 9)).alloc (.cells #[.string val] 9)) (GH B w0 C S' d P l (Both (aF w.heap.size (.cells #[.string key] 9)) (aF (w.heap.size+1) (.cells #[.string val] 9))) (Both (aF w.heap.size (.cells #[.string key] 9)) (aF (w.heap.size+1) (.cells #[.string val] 9))) r er)):=uL.1 T hst (fun h1 h2=>dV h1 h2) (fun h=>eN h) (fun C=>RQ) hlf hel hr hNb hN0 hd S1.out I Le hF he;obtain⟨ts,⟨t0,t1,t2⟩,_⟩:=Sep.uJ (Sep.pk [_,_] (h));rw[h0]at t2;clear h h0 h1 hst dV eN hel hr hNb hN0 hd I Le hF hlf he S1;go_enter Tryz.func10,Tryz.ntmps10
 go_wp2_with fail
 refine Calls.mono KG.out ?_;rintro e w1 ⟨rfl,rfl⟩;clear KG
 go_wp2_with fail
 refine Calls.mono KK.out ?_;rintro e w1 ⟨rfl,rfl⟩;clear KK
 go_wp2_with fail
 refine Calls.mono KC.out ?_;rintro e w2 ⟨rfl,P',d',V,a1,a2,a3,a4,a5⟩;have HG:Hid (GK B w0 C S' d P l r er w2):=by
  refine⟨P',d',a1,a4,?_⟩;rcases a5 with⟨b1,b2⟩| ⟨b1,L,b2,b3⟩
  ·exact .inl ⟨b1,Sep.drop (Sep.pk [_,_,_,_] (b2))⟩
  ·exact .inr ⟨b1,L,b2,Sep.drop (Sep.pk [_,_,_,_] (b3))⟩
 clear KC a1 a2 a3 a4 a5;go_wp2;go_ret;exact⟨rfl,HG.out⟩
end
end
section
section
variable {B:Nat}{w0 w w':World}{l:List aP}{P:List NV}{C:Cx}{x:TX}{d:Dk}{t f b:Nat}{root:Int}
theorem Va (h:Sep B w0 w (Tx t f x::File f b d::l)):Calls Tryz.prog 23 #[ptr t,.int .i64 root] w fun e w'=>∃tq,e=.returned (ptr tq)∧Sep B w0 w' (TL ⟨0,tq,t,f,b,root,0⟩ x d [] l):=by
 have SF:Hid (Sep B w0 (w.alloc (.cells #[ptr t,.int .i64 root,.int .i64 0] 70)) (TL ⟨0,w.heap.size,t,f,b,root,0⟩ x d [] l)):=Sep.pb [_,_,_] (Sep.UO (Sep.pb [_,_] (h.aN _)));clear h;unfold ptr at*;go_enter Tryz.func23,Tryz.ntmps23;go_wp2;go_ret;exact⟨w.heap.size,rfl,SF.out⟩
theorem Pu (h:Sep B w0 w (TL C x d P l)):Calls Tryz.prog 22 #[ptr C.tq] w fun e w'=>e=.returned (.int .i64 C.err)∧w=w':=by
 have KG:Hid _:=gD w C.tq;obtain⟨ts,⟨t0,t1,t2⟩,_⟩:=Sep.uJ (Sep.pk [_,_] h);clear h;go_enter Tryz.func22,Tryz.ntmps22
 go_wp2_with fail
 refine Calls.mono KG.out ?_;rintro e w1 ⟨rfl,rfl⟩;clear KG;go_wp2;go_ret;exact⟨rfl,rfl⟩
end
end
section
structure EN where
 k:Int
 key:ByteArray
 val:ByteArray
def ij:EN:=⟨0,ByteArray.empty,ByteArray.empty⟩
structure ActR13 (w:World)(v:Value)(l:List EN):Prop where
 row:∃ao cap,v=.slice ao l.length cap∧(l≠[]->∃r o,ao=some ⟨r,o,none⟩∧r<w.heap.size∧∀j,j<l.length->
  w.cell? ⟨r,o+j*3,none⟩=some (.int .i64 (l.getD j ij).k)∧w.cell? ⟨r,o+j*3+1,none⟩=some (.string (l.getD j ij).key)∧w.cell? ⟨r,o+j*3+2,none⟩=some (.string (l.getD j ij).val))
 ok:∀a∈l,a.key.size<=maxLen∧a.val.size<=maxLen∧Wf a.k
theorem ActR13.below {w w':World}{v:Value}{l:List EN}{B:Nat}(h:ActR13 w v l)(hb:Below B w w')(hB:w.heap.size<=B):ActR13 w' v l:=by
 obtain⟨⟨ao,cap,e,h1⟩,h2⟩:=h;refine⟨⟨ao,cap,e,fun hne=>?_⟩,h2⟩;obtain⟨r,o,e2,hr,hc⟩:=h1 hne;have k:∀j,w'.cell? ⟨r,j,none⟩=w.cell? ⟨r,j,none⟩:=fun j=>World.cell?_of_block (a:=⟨r,j,none⟩) (hb.block r (by omega));refine⟨r,o,e2,Nat.lt_of_lt_of_le hr hb.size,fun j hj=>?_⟩;rw[k,k,k];exact hc j hj
theorem ActR13.at {w wr:World}{ao:Option Addr}{n cap:Nat}{l:List EN}{B:Nat}(h:ActR13 w (.slice ao n cap) l)(hb:Below B w wr)(hB:w.heap.size<=B){j:Nat}(hj:j<l.length):
  ∃r o,ao=some ⟨r,o,none⟩∧r<wr.heap.size∧wr.cell? ⟨r,o+j*3,none⟩=some (.int .i64 (l.getD j ij).k)∧wr.cell? ⟨r,o+j*3+1,none⟩=some (.string (l.getD j ij).key)∧wr.cell? ⟨r,o+j*3+2,none⟩=some (.string (l.getD j ij).val)∧
  (l.getD j ij).key.size<=maxLen∧(l.getD j ij).val.size<=maxLen∧Wf (l.getD j ij).k:=by
 obtain⟨⟨cW,cap',e,h1⟩,h2⟩:=h.below hb hB;cases e;obtain⟨r,o,e2,hr,hc⟩:=h1 (by intro e;rw[e]at hj;simp at hj);obtain⟨x0,x1,x2⟩:=hc j hj;have hm:l.getD j ij∈l:=by rw[List.getD_eq_getElem?_getD,List.getElem?_eq_getElem hj];exact List.getElem_mem hj
 exact⟨r,o,e2,hr,x0,x1,x2,h2 _ hm⟩
def Pv (a:EN):Bool:=decide (60<a.key.size)||decide (60<a.val.size)
def nS (l:List EN):Bool:=decide (200<l.length)||l.any Pv
theorem NR {l:List EN}(h1:l.length<=200)(h2:∀i,i<l.length->Pv (l.getD i ij)=false):nS l=false:=by
 unfold nS;rw[Bool.or_eq_false_iff];refine⟨by simpa using h1,?_⟩;rw[List.any_eq_false];intro a ha;obtain⟨i,hi,rfl⟩:=List.getElem_of_mem ha;have:=h2 i hi;rw[List.getD_eq_getElem?_getD,List.getElem?_eq_getElem hi]at this;simpa using this
theorem yX {l:List EN}{i:Nat}(hi:i<l.length)(h:Pv (l.getD i ij)=true):nS l=true:=by
 unfold nS;rw[Bool.or_eq_true];refine .inr (List.any_eq_true.2 ⟨l.getD i ij,?_,h⟩);rw[List.getD_eq_getElem?_getD,List.getElem?_eq_getElem hi];exact List.getElem_mem hi
theorem R8 {w:World}{ao:Option Addr}{cap:Nat}{l:List EN}(h:ActR13 w (.slice ao l.length cap) l):Calls Tryz.prog 7 #[.slice ao l.length cap] w fun e w'=>e=.returned (.bool (nS l))∧Below w.heap.size w w':=by
 have HA:Hid (ActR13 w (.slice ao l.length cap) l):=h;clear h;by_cases h2:200<l.length
 ·have h2z:(200:Int)< (l.length:Int):=by omega
  have HO:Hid (nS l=true):=by show _=_;unfold nS;rw[decide_eq_true h2];rfl
  skip
  go_enter Tryz.func7,Tryz.ntmps7;go_wp2;go_ret;exact⟨by rw[HO.out];rfl,Below.refl _ _⟩
 ·have h2z:¬(200:Int)< (l.length:Int):=by omega
  have HL:Hid (l.length<=200):=by show _<=_;omega
  skip
  go_enter Tryz.func7,Tryz.ntmps7;go_wp2
  go_loopg [3] l.length (fun kx s3 wr=>∃(j:Nat),s3=.int .i64 (j:Int)∧j<=l.length∧l.length-j<=kx∧Hid (∀i,i<j->Pv (l.getD i ij)=false)∧Hid (Below w.heap.size w wr))
  case atStart=>exact⟨0,rfl,Nat.zero_le _,Nat.le_refl _,(by intro i hi;omega),Below.refl _ _⟩
  case round=>
   obtain⟨j,rfl,hj,Pw,HJ,HB⟩:=hrel;by_cases hlt:j<l.length
   ·have o0:(j:Int)< (l.length:Int):=by omega
    obtain⟨r,o,e1,hr,x0,x1,x2,z1,z2,_⟩:=HA.out.at HB.out (Nat.le_refl _) hlt;subst e1;unfold maxLen at z1 z2;have NT:IntKind.i64.wrap ((j:Int)+1)=((j+1:Nat):Int):=by rw[bf (by omega) (by have:=HL.out;omega)];rfl
    generalize hy:l.getD j ij=y at*;have HY:Hid (l.getD j ij=y):=hy;clear hy;obtain⟨yk,iV,jZ⟩:=y;simp only at x0 x1 x2 z1 z2;by_cases h60:60<iV.size
    ·have Yh:(60:Int)< (iV.size:Int):=by omega
     have HO:Hid (nS l=true):=yX hlt (by rw[HY.out];simp[Pv,h60])
     skip
     go_wp2;go_ret;exact⟨by rw[HO.out];rfl,HB.out⟩
    ·have Yh:¬(60:Int)< (iV.size:Int):=by omega
     by_cases h61:60<jZ.size
     ·have Yi:(60:Int)< (jZ.size:Int):=by omega
      have HO:Hid (nS l=true):=yX hlt (by rw[HY.out];simp[Pv,h61])
      skip
      go_wp2;go_ret;exact⟨by rw[HO.out];rfl,HB.out⟩
     ·have Yi:¬(60:Int)< (jZ.size:Int):=by omega
      have HJ2:Hid (∀i,i<j+1->Pv (l.getD i ij)=false):=by
       intro i hi;rcases Nat.lt_succ_iff_lt_or_eq.1 hi with h|rfl
       ·exact HJ.out i h
       ·rw[HY.out];simp[Pv];omega
      clear HJ;go_wp2
      go_roundg (l.length- (j+1))
      case measure=>omega
      case rel=>exact⟨j+1,by go_num,by omega,Nat.le_refl _,HJ2.out,HB.out⟩
   ·have o0:¬(j:Int)< (l.length:Int):=by omega
    obtain rfl:j=l.length:=by omega
    have HO:Hid (nS l=false):=NR HL.out HJ.out;clear HJ;go_wp2;go_ret;exact⟨by rw[HO.out];rfl,HB.out⟩
end
end Go.Proofs.YtceoeaemenhbhabGreatDoor
namespace Go.Proofs.YtceoeaemenhbhabGreatDoor
section
open Go.Deep Go.ChangeShapes Go.WideShapes Go.ChangeAt Go.RowKit Go.ChangeMaps
variable {H:Type}{enc:TypeId×Value->H}{W:World}{base:Nat}{spare:Nat->Bool}{held:Bool}{fuel:Nat}{x:DataW H×List MemPlace}
theorem tT {W:World}{b o:Nat}{v:Value}(h:W.cell? ⟨b,o,none⟩=some v):b<W.heap.size:=by
 rcases Nat.lt_or_ge b W.heap.size with hb|hb
 ·exact hb
 ·have e:W.heap[b]? =none:=Array.getElem?_eq_none hb;simp[World.cell?,e]at h
theorem trod_struct3 {P:Program}{w:World}{t:TypeId}{f0 f1 f2:Field}{fuel:Nat}{cs:List Value}{x:DataW H×List MemPlace}(ht:P.underlying t=some (.struct #[f0,f1,f2]))(h:DataW.trod enc P w base spare held fuel t cs=some x):
  ∃y0 y1 y2 n,cs.length=P.cellsOf t∧DataW.trod enc P w base spare held n f0.type ((cs.drop f0.offset).take (P.cellsOf f0.type))=some y0∧
   DataW.trod enc P w base spare held n f1.type ((cs.drop f1.offset).take (P.cellsOf f1.type))=some y1∧DataW.trod enc P w base spare held n f2.type ((cs.drop f2.offset).take (P.cellsOf f2.type))=some y2:=by
 obtain⟨xs,n,_,rfl,hl,hlen,hf⟩:=DataW.trod_struct ht h
 match xs,hlen with
 |[y0,y1,y2],_=>exact⟨y0,y1,y2,n,hl,by simpa using hf 0 f0 rfl,by simpa using hf 1 f1 rfl,by simpa using hf 2 f2 rfl⟩
theorem open_acts13 {a:Option Addr}{len cap:Nat}(h:DataW.trod enc Tryz.prog W base spare held fuel 22 (Value.slice a len cap).cells.toList=some x):∃l:List EN,ActR13 W (.slice a len cap) l:=by
 rcases open_slice Tryz.underlying22 h with⟨hcs,_⟩| ⟨ad,l,c,m,n,D,Pl,hcs,_,hl,_,hm,_,hcell⟩
 ·simp[Value.cells]at hcs;obtain⟨rfl,rfl,rfl⟩:=hcs;exact⟨[],⟨none,0,rfl,fun h=>absurd rfl h⟩,fun a ha=>by cases ha⟩
 ·simp[Value.cells]at hcs;obtain⟨rfl,rfl,rfl⟩:=hcs;have ce:Tryz.prog.cellsOf 29=3:=by kernel_rfl
  have ci:Tryz.prog.cellsOf 3=1:=by kernel_rfl
  have cs:Tryz.prog.cellsOf 9=1:=by kernel_rfl
  have each:∀i,i<len->∃q:EN,W.cell? (ad.add (i*3))=some (.int .i64 q.k)∧W.cell? (ad.add (i*3+1))=some (.string q.key)∧W.cell? (ad.add (i*3+2))=some (.string q.val)∧q.key.size<=maxLen∧q.val.size<=maxLen∧Wf q.k:=by
   intro i hi;obtain⟨cs',h1,h2⟩:=hcell i (by rw[hm];split<;>omega);rw[ce]at h1;obtain⟨_,hlen,hc⟩:=World.cells?_some h1;obtain⟨y0,y1,y2,k,_,g0,g1,g2⟩:=trod_struct3 Tryz.underlying29 h2
   match cs',hlen with
   |[v0,v1,v2],_=>
    simp[ci,cs]at g0 g1 g2;obtain⟨z0,e0,_,wf0⟩:=DataW.trod_int Tryz.underlying3 g0;obtain⟨z1,e1,_,wf1⟩:=DataW.trod_string Tryz.underlying9 g1;obtain⟨z2,e2,_,wf2⟩:=DataW.trod_string Tryz.underlying9 g2;have c0:=hc 0 (by omega);have c1:=hc 1 (by omega);have c2:=hc 2 (by omega);rw[add_add]at c0 c1 c2;simp only[List.cons.injEq,and_true]at e0 e1 e2;subst e0 e1 e2;have b0:Wf z0:=by
     have h1:=of_decide_eq_true (Bool.and_eq_true_iff.1 wf0).1;have h2:=of_decide_eq_true (Bool.and_eq_true_iff.1 wf0).2;rw[show IntKind.min .i64=-9223372036854775808 by decide]at h1;rw[show IntKind.max .i64=9223372036854775807 by decide]at h2;exact⟨h1,h2⟩
    exact⟨⟨z0,z1,z2⟩,by simpa using c0,by simpa using c1,by simpa using c2,wf1,wf2,b0⟩
  haveI:Inhabited EN:=⟨ij⟩
  obtain⟨q,hq⟩:=choose_lt each;have hg:∀j,j<len->((List.range len).map q).getD j ij=q j:=fun j hj=>by simp[List.getD_eq_getElem?_getD,hj]
  refine⟨(List.range len).map q,⟨some ad,cap,by simp,fun hne=>?_⟩,fun a ha=>?_⟩
  ·have hpos:0<len:=by
    rcases Nat.eq_zero_or_pos len with e|e
    ·subst e;exact absurd rfl hne
    ·exact e
   obtain⟨b,off,spot⟩:=ad;have c0:=(hq 0 hpos).1;have hspot:spot=none:=by simpa[Addr.add]using World.cell?_spot c0
   subst hspot;rw[add_plain]at c0;refine⟨b,off,rfl,tT c0,fun j hj=>?_⟩;have hj2:j<len:=by simpa using hj
   rw[hg j hj2];obtain⟨x0,x1,x2,_⟩:=hq j hj2;simp only[add_plain]at x0 x1 x2;exact⟨x0,x1,x2⟩
  ·obtain⟨j,hj,rfl⟩:=List.mem_map.1 ha;exact(hq j (by simpa using hj)).2.2.2
end
namespace P
open N
def BT:Nat->Type
 |0=>List En
 |h+1=>List (Int×BT h)×List ByteArray
abbrev It:=Bool×ByteArray
def iW:List (List It)->List ByteArray->List It
 |x::l,s::ss=>x++(true,s)::iW l ss
 |l,_=>l.flatten
def aV:(h:Nat)->BT h->Nd
 |0,l=>⟨true,l,[],[]⟩
 |_+1,t=>⟨false,[],t.1.map Prod.fst,t.2⟩
def cx:(h:Nat)->BT h->List It
 |0,l=>List.map (fun(x:En)=>(false,x.1)) l
 |h+1,t=>iW (t.1.map fun u=>cx h u.2) t.2
def dM:(h:Nat)->BT h->List En
 |0,l=>l
 |h+1,t=>(t.1.map fun u=>dM h u.2).flatten
def lD:(h:Nat)->BT h->List (Int×Nd)
 |0,_=>[]
 |h+1,t=>(t.1.map fun u=>(u.1,aV h u.2)::lD h u.2).flatten
def bS (h:Nat)(t:BT h):Nat:=dG (aV h t)
def tj:(h:Nat)->BT h->ByteArray->BT h->BT h
 |0,a,_,b=>(show List En from a)++(show List En from b)
 |_+1,a,k,b=>(a.1++b.1,a.2++k::b.2)
abbrev KT (h:Nat):=Int×BT h
def nT {h:Nat}(u:KT h):List (Int×Nd):=(u.1,aV h u.2)::lD h u.2
def hZ {h:Nat}(K:List (KT h)):List (Int×Nd):=(K.map nT).flatten
def dw {h:Nat}(K:List (KT h))(ss:List ByteArray):List It:=iW (K.map fun u=>cx h u.2) ss
def bD {h:Nat}(K:List (KT h)):List En:=(K.map fun u=>dM h u.2).flatten
def KP {h:Nat}(K:List (KT h))(ss:List ByteArray)(i:Nat):Prop:=
 ∀A a b B sA k sB,K=A++a::b::B->ss=sA++k::sB->A.length=sA.length->
  (i=A.length->bS h a.2<80->240<bS h (tj h a.2 k b.2))∧(B=[]->i=A.length+1->bS h b.2<80->240<bS h (tj h a.2 k b.2))
def Wl:(h:Nat)->BT h->Prop
 |0,l=>(show List En from l)≠[]
 |h+1,t=>t.2.length+1=t.1.length∧(∀i,KP t.1 t.2 i)∧∀u∈t.1,Wl h u.2∧bS h u.2<=240
def RI (x y:It):Prop:=if y.1=true then bh x.2 y.2=true else if x.1=true then bh y.2 x.2=false else bh x.2 y.2=true
structure bP (l:List It):Prop where
 up:l.Pairwise RI
 sz:∀x∈l,1<=x.2.size∧x.2.size<=16
theorem bP.sub {l m:List It}(h:bP l)(s:m.Sublist l):bP m:=⟨h.up.sublist s,fun x hx=>h.sz x (s.subset hx)⟩
theorem su (ss:List ByteArray):iW [] ss=[]:=by cases ss<;>rfl
theorem gN (x:List It)(l:List (List It))(s:ByteArray)(ss:List ByteArray):iW (x::l) (s::ss)=x++(true,s)::iW l ss:=rfl
theorem Jt (x:List It)(l:List (List It)):iW (x::l) []=x++l.flatten:=rfl
theorem mO:∀ {A:List (List It)} {sA:List ByteArray} (B:List (List It)) (sB:List ByteArray),A.length=sA.length->iW (A++B) (sA++sB)=iW A sA++iW B sB
 |[],[],B,sB,_=>by simp[su]
 |[],_::_,_,_,h=>by cases h
 |_::_,[],_,_,h=>by cases h
 |x::A,s::sA,B,sB,h=>by
  have:=mO (A:=A) (sA:=sA) B sB (by simpa using h);simp only[List.cons_append,gN,this,List.append_assoc]
def jB (l:List (List It))(ss:List ByteArray):List It:=iW ([]::l) ss
theorem pY (x:List It)(l:List (List It))(ss:List ByteArray):iW (x::l) ss=x++jB l ss:=by
 cases ss<;>simp[jB,gN,Jt]
theorem iX (x:List It)(l:List (List It))(s:ByteArray)(ss:List ByteArray):jB (x::l) (s::ss)=(true,s)::(x++jB l ss):=by
 rw[jB,gN,pY];rfl
theorem eO {h:Nat}{A B:List (KT h)}{u:KT h}{sA sB:List ByteArray}(hA:A.length=sA.length):dw (A++u::B) (sA++sB)=dw A sA++(cx h u.2++jB (B.map fun u=>cx h u.2) sB):=by
 unfold dw;rw[List.map_append,mO _ _ (by simpa using hA),List.map_cons,pY]
theorem p8 {h:Nat}{A B:List (KT h)}{u v:KT h}{sA sB:List ByteArray}{k:ByteArray}(hA:A.length=sA.length):dw (A++u::v::B) (sA++k::sB)=dw A sA++(cx h u.2++(true,k)::(cx h v.2++jB (B.map fun u=>cx h u.2) sB)):=by
 rw[eO hA,List.map_cons,iX]
theorem dg {h:Nat}(A B:List (KT h)):hZ (A++B)=hZ A++hZ B:=by simp[hZ]
theorem dF {h:Nat}(u:KT h)(B:List (KT h)):hZ (u::B)=nT u++hZ B:=by simp[hZ]
theorem bQ {h:Nat}(A B:List (KT h)):bD (A++B)=bD A++bD B:=by simp[bD]
theorem bV {h:Nat}(u:KT h)(B:List (KT h)):bD (u::B)=dM h u.2++bD B:=by simp[bD]
theorem wD (h:Nat)(a b:BT h)(k:ByteArray):aV h (tj h a k b)=je (aV h a) k (aV h b):=by
 cases h with
 |zero=>simp[aV,tj,je]
 |succ h=>simp[aV,tj,je]
theorem yY (h:Nat)(a:BT h):(aV h a).leaf=decide (h=0):=by cases h<;>simp[aV]
theorem nU (h:Nat)(a b:BT h)(k:ByteArray):bS h (tj h a k b)=bS h a+bS h b+(if h=0 then 0 else 1+k.size):=by
 cases h with
 |zero=>
  show cA (_++_)=cA a+cA b+0;rw[jq];rfl
 |succ h=>simp[bS,aV,tj,dG,dD,bO];omega
theorem Ju (h:Nat)(a b:BT h)(k:ByteArray):dM h (tj h a k b)=dM h a++dM h b:=by
 cases h with
 |zero=>rfl
 |succ h=>simp[dM,tj]
theorem A7 (h:Nat)(a b:BT h)(k:ByteArray):lD h (tj h a k b)=lD h a++lD h b:=by
 cases h with
 |zero=>rfl
 |succ h=>simp[lD,tj]
theorem NU (a b:BT 0)(k:ByteArray):cx 0 (tj 0 a k b)=cx 0 a++cx 0 b:=by
 show List.map _ (_++_)=_;rw[List.map_append];rfl
theorem wE {h:Nat}(a b:BT (h+1))(k:ByteArray)(ha:a.2.length+1=a.1.length):cx (h+1) (tj (h+1) a k b)=cx (h+1) a++(true,k)::cx (h+1) b:=by
 obtain⟨aK,aS⟩:=a;obtain⟨bK,bs⟩:=b;show dw (aK++bK) (aS++k::bs)=dw aK aS++(true,k)::dw bK bs;have ha:aS.length+1=aK.length:=ha;have e:∃A u,aK=A++[u]∧A.length=aS.length:=by
  refine⟨aK.dropLast,aK.getLast (fun e=>by rw[e]at ha;simp at ha),(List.dropLast_concat_getLast _).symm,?_⟩;simp at ha⊢;omega
 obtain⟨A,u,rfl,hA⟩:=e;have e1:=eO (A:=A) (u:=u) (B:=[]) (sA:=aS) (sB:=[]) hA;simp only[List.append_nil]at e1;rw[e1,List.append_assoc,List.singleton_append,eO hA];cases bK with
 |nil=>simp[jB,iW,dw,su]
 |cons v B=>
  rw[List.map_cons,iX];have e2:jB (List.map (fun u:KT h=>cx h u.2) []) []=[]:=rfl;have e3:dw (v::B) bs=cx h v.2++jB (B.map fun u=>cx h u.2) bs:=by rw[dw,List.map_cons,pY]
  rw[e2,e3];simp only[List.append_nil,List.append_assoc]
theorem sD (h:Nat)(a b:BT h)(k:ByteArray)(ha:Wl h a):(cx h (tj h a k b)).Sublist (cx h a++(true,k)::cx h b):=by
 cases h with
 |zero=>rw[NU];exact List.Sublist.append (List.Sublist.refl _) (List.sublist_cons_self _ _)
 |succ h=>rw[wE _ _ _ ha.1];exact List.Sublist.refl _
theorem gV:∀(l:List (List It)) (ss:List ByteArray),ss.length<=l.length->(ss.map fun s=>((true,s):It)).Sublist (iW l ss)
 |l,[],_=>by simp
 |[],s::ss,h=>by simp at h
 |x::l,s::ss,h=>by
  rw[gN,List.map_cons];exact List.Sublist.trans (List.Sublist.cons_cons _ (gV l ss (by simpa using h))) (List.sublist_append_right _ _)
theorem bP.keys {ss:List ByteArray}(h:bP (ss.map fun s=>((true,s):It))):uu ss=true:=by
 refine fk ⟨?_,?_⟩
 ·unfold N.Up;rw[List.pairwise_map];have:=h.up;rw[List.pairwise_map]at this;exact this.imp fun {a b} hab=>by simpa[RI,kE]using hab
 ·intro x hx;obtain⟨s,hs,rfl⟩:=List.mem_map.1 hx;have:=h.sz (true,s) (List.mem_map_of_mem hs);exact cj.2 ⟨this.1,this.2,by show(0:Nat)<=40;omega⟩
theorem bP.leaf {l:List En}(h:bP (l.map fun(x:En)=>((false,x.1):It)))(hv:∀x∈l,x.2.size<=40):Rg l:=by
 refine⟨?_,?_⟩
 ·unfold N.Up;have:=h.up;rw[List.pairwise_map]at this;exact this.imp fun {a b} hab=>by simpa[RI]using hab
 ·intro x hx;have:=h.sz (false,x.1) (List.mem_map_of_mem (f:=fun(x:En)=>((false,x.1):It)) hx);exact cj.2 ⟨this.1,this.2,hv x hx⟩
end P
namespace P
open N
def _root_.Go.Proofs.YtceoeaemenhbhabGreatDoor.Dr.vw (S:Dr)(d:Dk)(id:Int):Nd×Int:=S.read d id 0
theorem _root_.Go.Proofs.YtceoeaemenhbhabGreatDoor.Dr.gF (S:Dr)(d:Dk)(id depth:Int)(h:depth<24):S.read d id depth=S.vw d id:=by
 unfold Dr.vw Dr.read dJ;have h1:¬(24:Int)<=depth:=by omega
 simp[h,h1]
structure Us (S:Dr)(p:Int):Prop where
 lo:2<=p
 hi:p<S.x.pages
 fr:¬dh S.x.free p
 sp:p∉S.spare
structure Sd (room:Nat)(S:Dr):Prop where
 x:S.x.Ok room
 sp:∀q∈S.spare,(S.x.fresh q).isSome=true
 nf:∀q,(S.nodes q).isSome=true->(S.x.fresh q).isSome=true∧q∉S.spare
 sn:S.spare.Nodup
 fi:∀q n,S.nodes q=some n->cE n=true
 bz:∀q c,S.x.fresh q=some c->c.body.size<=240
 tk:∀q∈S.taken,(S.x.fresh q).isSome=true
def _root_.Go.Proofs.YtceoeaemenhbhabGreatDoor.TX.cap (x:TX)(room:Nat):Int:=jn x.free+((room:Int)-x.pages)
def oL (S:Dr)(d:Dk)(c:List (Int×Nd)):Prop:=∀x∈c,S.vw d x.1=(x.2,0)
structure Fm (room:Nat)(d:Dk)(c:Nat)(S:Dr)(X:List Int)(S':Dr)(X':List Int):Prop where
 ok:Sd room S'
 us:∀p∈X',Us S' p
 nd:X'.Nodup
 keep:∀p,Us S p->p∉X->Us S' p∧p∉X'∧S'.vw d p=S.vw d p∧(S'.x.fresh p).isSome=(S.x.fresh p).isSome
 tight:∀p,(S'.x.fresh p).isSome=true->p∉S'.spare->p∈X'∨((S.x.fresh p).isSome=true∧p∉S.spare∧p∉X)
 cnt:S'.cnt+X'.length<=S.cnt+X.length+c
 mP:S'.x.cnt+X'.length<=S.x.cnt+X.length+c
 A8:S'.taken.length+X'.length<=S.taken.length+X.length+c
 Db:S'.spare.length+X'.length<=S.spare.length+X.length+c
 bot:S'.bot=S.bot
 cap:S'.x.cap room+S'.taken.length=S.x.cap room+S.taken.length
 mine:(∀p∈X,S.may p=true)->(∀p∈X',S'.may p=true)∧S'.taken.length<=S.taken.length+c∧X'.length+S'.spare.length+S.taken.length=X.length+S.spare.length+S'.taken.length
theorem dK (S:Dr)(p:Int):S.may p=true↔(S.x.fresh p).isSome=true∧p∉S.spare:=by
 simp[Dr.may]
section
variable {room c c':Nat}{d:Dk}{S S1 S2:Dr}{X X1 X2 Y:List Int}
theorem Fm.refl (ok:Sd room S)(us:∀p∈X,Us S p)(nd:X.Nodup):Fm room d 0 S X S X:=
 ⟨ok,us,nd,fun p h hn=>⟨h,hn,rfl,rfl⟩,fun p h1 h2=>by
  by_cases hx:p∈X
  ·exact .inl hx
  ·exact .inr ⟨h1,h2,hx⟩,by omega,by omega,by omega,by omega,rfl,rfl,fun h=>⟨h,by omega,by omega⟩⟩
theorem Fm.trans (h1:Fm room d c S X S1 X1)(h2:Fm room d c' S1 X1 S2 X2):Fm room d (c+c') S X S2 X2:=
 ⟨h2.ok,h2.us,h2.nd,fun p h hn=>by
  obtain⟨a1,a2,a3,a4⟩:=h1.keep p h hn
  obtain⟨b1,b2,b3,b4⟩:=h2.keep p a1 a2
  exact⟨b1,b2,b3.trans a3,b4.trans a4⟩,fun p a b=>by
  rcases h2.tight p a b with h| ⟨h3,h4,h5⟩
  ·exact .inl h
  ·rcases h1.tight p h3 h4 with h|h
   ·exact absurd h h5
   ·exact .inr h,by have:=h1.cnt;have:=h2.cnt;omega,by have:=h1.mP;have:=h2.mP;omega,by have:=h1.A8;have:=h2.A8;omega,by have:=h1.Db;have:=h2.Db;omega,h2.bot.trans h1.bot,h2.cap.trans h1.cap,fun hm=>by
  obtain⟨a1,a2,a3⟩:=h1.mine hm
  obtain⟨b1,b2,b3⟩:=h2.mine a1
  exact⟨b1,by omega,by omega⟩⟩
theorem Fm.ext (h:Fm room d c S X S1 X1)(us:∀p∈Y,Us S p)(nd:(X++Y).Nodup):Fm room d c S (X++Y) S1 (X1++Y):=by
 obtain⟨n1,n2,n3⟩:=List.nodup_append.1 nd;have hk:∀p∈Y,Us S1 p∧p∉X1:=fun p hp=>by
  have:=h.keep p (us p hp) (fun hx=>n3 p hx p hp rfl);exact⟨this.1,this.2.1⟩
 refine⟨h.ok,fun p hp=>?_,?_,fun p hp hn=>?_,fun p a b=>?_,?_,?_,?_,?_,h.bot,h.cap,fun hm=>?_⟩
 ·rcases List.mem_append.1 hp with hp|hp
  ·exact h.us p hp
  ·exact(hk p hp).1
 ·exact List.nodup_append.2 ⟨h.nd,n2,fun a ha b hb e=>(hk b hb).2 (e▸ha)⟩
 ·rw[List.mem_append,not_or]at hn;obtain⟨a1,a2,a3,a4⟩:=h.keep p hp hn.1;exact⟨a1,by rw[List.mem_append,not_or];exact⟨a2,hn.2⟩,a3,a4⟩
 ·rcases h.tight p a b with h1| ⟨h1,h2,h3⟩
  ·exact .inl (List.mem_append_left _ h1)
  ·by_cases hy:p∈Y
   ·exact .inl (List.mem_append_right _ hy)
   ·exact .inr ⟨h1,h2,by rw[List.mem_append,not_or];exact⟨h3,hy⟩⟩
 ·have:=h.cnt;simp only[List.length_append];omega
 ·have:=h.mP;simp only[List.length_append];omega
 ·have:=h.A8;simp only[List.length_append];omega
 ·have:=h.Db;simp only[List.length_append];omega
 ·obtain⟨a1,a2,a3⟩:=h.mine (fun p hp=>hm p (List.mem_append_left _ hp));refine⟨fun p hp=>?_,a2,by simp only[List.length_append];omega⟩;rcases List.mem_append.1 hp with hp|hp
  ·exact a1 p hp
  ·have h1:=(dK S p).1 (hm p (List.mem_append_right _ hp));have h2:=h.keep p (us p hp) (fun hx=>n3 p hx p hp rfl);exact(dK S1 p).2 ⟨by rw[h2.2.2.2];exact h1.1,h2.1.sp⟩
theorem Fm.perm (h:Fm room d c S X S1 X1){Y Y1:List Int}(e:X.Perm Y)(e1:X1.Perm Y1):Fm room d c S Y S1 Y1:=
 ⟨h.ok,fun p hp=>h.us p (e1.mem_iff.2 hp),e1.nodup_iff.1 h.nd,fun p hp hn=>by
  obtain⟨a1,a2,a3,a4⟩:=h.keep p hp (fun hx=>hn (e.mem_iff.1 hx))
  exact⟨a1,fun hx=>a2 (e1.mem_iff.2 hx),a3,a4⟩,fun p a b=>by
  rcases h.tight p a b with h| ⟨h1,h2,h3⟩
  ·exact .inl (e1.mem_iff.1 h)
  ·exact .inr ⟨h1,h2,fun hx=>h3 (e.mem_iff.2 hx)⟩,by have:=h.cnt;have:=e.length_eq;have:=e1.length_eq;omega,by have:=h.mP;have:=e.length_eq;have:=e1.length_eq;omega,by have:=h.A8;have:=e.length_eq;have:=e1.length_eq;omega,by have:=h.Db;have:=e.length_eq;have:=e1.length_eq;omega,h.bot,h.cap,fun hm=>by
  obtain⟨a1,a2,a3⟩:=h.mine (fun p hp=>hm p (e.mem_iff.1 hp))
  have:=e.length_eq
  have:=e1.length_eq
  exact⟨fun p hp=>a1 p (e1.mem_iff.2 hp),a2,by omega⟩⟩
theorem Fm.mono (h:Fm room d c S X S1 X1)(hc:c<=c'):Fm room d c' S X S1 X1:=
 ⟨h.ok,h.us,h.nd,h.keep,h.tight,by have:=h.cnt;omega,by have:=h.mP;omega,by have:=h.A8;omega,by have:=h.Db;omega,h.bot,h.cap,fun hm=>by
  obtain⟨a1,a2,a3⟩:=h.mine hm
  exact⟨a1,by omega,a3⟩⟩
theorem Fm.NY (h:Fm room d c S X S1 X1){C:List (Int×Nd)}(hC:oL S d C)(us:∀p∈C.map Prod.fst,Us S p)(hd:∀p∈C.map Prod.fst,p∉X):oL S1 d C:=fun x hx=>by
 have hm:=List.mem_map_of_mem (f:=Prod.fst) hx;rw[(h.keep x.1 (us _ hm) (hd _ hm)).2.2.1];exact hC x hx
def Ev (room:Nat)(d:Dk)(c:Nat)(S:Dr)(X:List Int)(S':Dr):Prop:=∃Xm,Fm room d c S X S' Xm∧S'.x.free=[]∧room<=S'.x.pages
abbrev Er (room:Nat)(d:Dk)(c:Nat)(S:Dr)(X:List Int)(S':Dr)(e:Int):Prop:=e≠0->e=2∧Ev room d c S X S'
theorem Er.ext {e:Int}(h:Er room d c S X S1 e)(us:∀p∈Y,Us S p)(nd:(X++Y).Nodup):Er room d c S (X++Y) S1 e:=fun he=>by
 obtain⟨h1,Xm,F,h2⟩:=h he;exact⟨h1,_,F.ext us nd,h2⟩
theorem Er.perm {e:Int}(h:Er room d c S X S1 e)(p:X.Perm Y):Er room d c S Y S1 e:=fun he=>by
 obtain⟨h1,Xm,F,h2⟩:=h he;exact⟨h1,_,F.perm p (List.Perm.refl _),h2⟩
theorem Er.mono {e:Int}(h:Er room d c S X S1 e)(hc:c<=c'):Er room d c' S X S1 e:=fun he=>by
 obtain⟨h1,Xm,F,h2⟩:=h he;exact⟨h1,_,F.mono hc,h2⟩
theorem Fm.er {e:Int}(F:Fm room d c S X S1 X1)(h:Er room d c' S1 X1 S2 e):Er room d (c+c') S X S2 e:=fun he=>by
 obtain⟨h1,Xm,F2,h2⟩:=h he;exact⟨h1,_,F.trans F2,h2⟩
theorem Fm.yZ (h:Fm room d c S X S1 X1){p:Int}(hp:Us S p)(hn:p∉X):Us S1 p∧p∉X1:=⟨(h.keep p hp hn).1,(h.keep p hp hn).2.1⟩
end
section
variable {room:Nat}{d:Dk}{S:Dr}
theorem mQ {S S':Dr}{p:Int}(hx:bW S'.x d p 1=bW S.x d p 1)(hy:bW S'.x d p 2=bW S.x d p 2)(hn:S'.nodes p=S.nodes p):S'.vw d p=S.vw d p:=by
 unfold Dr.vw Dr.read dJ;rw[hx,hy,hn]
theorem qg (ok:Sd room S){p:Int}(hp:Us S p):Fm room d 0 S [p] (S.drop p) []:=by
 unfold Dr.drop;split
 ·rename_i hm
  have hm':=(dK S p).1 hm;refine⟨⟨ok.x,fun q hq=>?_,fun q hq=>?_,List.nodup_append.2 ⟨ok.sn,by simp,fun a ha b hb e=>hm'.2 (by rw[List.mem_singleton.1 hb]at e;rw[<-e];exact ha)⟩,fun q n hq=>?_,ok.bz,ok.tk⟩,(fun _ h=>by cases h),List.nodup_nil,fun q hq hn=>?_,fun q a b=>?_,?_,?_,?_,?_,rfl,rfl,fun _=>⟨(fun _ h=>by cases h),Nat.le_refl _,by simp;omega⟩⟩
  ·rcases List.mem_append.1 hq with h|h
   ·exact ok.sp q h
   ·rw[List.mem_singleton.1 h];exact hm'.1
  ·simp only at hq;split at hq
   ·cases hq
   ·rename_i hne
    have:=ok.nf q hq;refine⟨this.1,?_⟩;simp only[List.mem_append,List.mem_singleton,not_or];exact⟨this.2,hne⟩
  ·simp only at hq;split at hq
   ·cases hq
   ·exact ok.fi q n hq
  ·have hne:q≠p:=by simpa using hn
   refine⟨⟨hq.lo,hq.hi,hq.fr,?_⟩,by simp,?_,rfl⟩
   ·simp only[List.mem_append,List.mem_singleton,not_or];exact⟨hq.sp,hne⟩
   ·exact mQ rfl rfl (by simp[hne])
  ·simp only[List.mem_append,List.mem_singleton,not_or]at b;exact .inr ⟨a,b.1,by simpa using b.2⟩
  ·simp
  ·simp
  ·simp
  ·simp
 ·rename_i hm
  have hm':¬((S.x.fresh p).isSome=true∧p∉S.spare):=fun h=>hm ((dK S p).2 h);refine⟨ok,(fun _ h=>by cases h),List.nodup_nil,fun q hq hn=>⟨hq,by simp,rfl,rfl⟩,fun q a b=>?_,?_,?_,?_,?_,rfl,rfl,fun hc=>absurd ((dK S p).1 (hc p (by simp))) hm'⟩
  ·refine .inr ⟨a,b,?_⟩;simp only[List.mem_singleton];rintro rfl;exact hm' ⟨a,b⟩
  ·simp
  ·simp
  ·simp
  ·simp
structure Tk (d:Dk)(room:Nat)(x x':TX)(p:Int):Prop where
 ok:x'.Ok room
 lo:2<=p
 hi:p<x'.pages
 nf:¬dh x'.free p
 was:dh x.free p∨p=x.pages
 fs:x'.fresh=gy x.fresh p c0
 cn:x'.cnt=x.cnt+1
 fr:∀q,dh x'.free q->dh x.free q
 pg:x.pages<=x'.pages
 cp:x'.cap room=x.cap room-1
theorem za {x:TX}(ok:x.Ok room)(h0:(x.alloc room).1.2=0):Tk d room x (x.alloc room).2 (x.alloc room).1.1:=by
 have ok':=TX.ru ok;obtain⟨fr,pg,g,c⟩:=x;unfold TX.alloc at ok' h0⊢;cases fr with
 |cons r s=>
  obtain⟨_,d1,d3,_,d2⟩:=xB ok.cn;have hr:=ok.cn.dQ (Int.le_refl _) (bB.1 ok.cn).1.2.1;have r1:=ok.fr r.1 hr;exact⟨ok',r1.1,r1.2,fun hn=>by have:r.1<r.1:=((d2 _).1 hn).2;omega,.inl hr,rfl,rfl,fun q hq=>((d2 q).1 hq).1,Nat.le_refl _,by unfold TX.cap;simp only;rw[d3];omega⟩
 |nil=>
  simp only at ok' h0⊢;split at h0
  ·cases h0
  ·rename_i hp
   rw[if_neg hp]at ok'⊢;have h2:2<=pg:=ok.p2;refine⟨ok',?_,?_,dx _,.inr rfl,rfl,rfl,fun q hq=>absurd hq (dx q),?_,?_⟩
   ·show(2:Int)<=(pg:Int);omega
   ·show(pg:Int)< ((pg+1:Nat):Int);omega
   ·show pg<=pg+1;omega
   ·unfold TX.cap;simp only;push_cast;omega
theorem sF {x:TX}(h0:(x.alloc room).1.2≠0):(x.alloc room).1.2=2∧(x.alloc room).2=x∧x.free=[]∧room<=x.pages:=by
 obtain⟨fr,pg,g,c⟩:=x;unfold TX.alloc at h0⊢;cases fr with
 |cons r s=>exact absurd rfl h0
 |nil=>
  simp only at h0⊢;split
  ·rename_i hp
   exact⟨rfl,rfl,trivial,hp⟩
  ·rename_i hp
   rw[if_neg hp]at h0;exact absurd rfl h0
theorem Tk.get {x x':TX}{p:Int}(h:Tk d room x x' p){q:Int}(hne:q≠p)(hi:q<x.pages)(hf:¬dh x.free q)(k:UInt8):bW x' d q k=bW x d q k:=by
 have h1:x'.fresh q=x.fresh q:=by rw[h.fs];simp[gy,hne]
 have h2:¬(x'.pages:Int)<=q:=by have:=h.pg;omega
 have h3:¬(x.pages:Int)<=q:=by omega
 unfold bW TX.get;rw[h1,jl hf,jl (fun c=>hf (h.fr q c))];simp[h2,h3]
theorem Tk.ne {x x':TX}{p q:Int}(h:Tk d room x x' p)(hi:q<x.pages)(hf:¬dh x.free q):q≠p:=by
 rintro rfl;rcases h.was with w|w
 ·exact hf w
 ·omega
structure Bd (S:Dr)(m:Nat):Prop where
 cnt:S.cnt+m<100000
 mP:S.x.cnt+m<900000
 A8:S.taken.length+m<100000
 Db:S.spare.length+m<100000
theorem Bd.ok {m:Nat}(h:Bd S m):S.okB=true:=by
 have:=h.cnt;have:=h.mP;have:=h.A8;have:=h.Db;simp only[Dr.okB,Bool.and_eq_true,decide_eq_true_eq];omega
theorem Bd.mono {m m':Nat}(h:Bd S m)(hm:m'<=m):Bd S m':=⟨by have:=h.cnt;omega,by have:=h.mP;omega,by have:=h.A8;omega,by have:=h.Db;omega⟩
theorem Fm.bd {c m m':Nat}{S':Dr}{X X':List Int}(h:Fm room d c S X S' X')(hb:Bd S m)(hm:X.length+c+m'<=m+X'.length):Bd S' m':=by
 have:=hb.cnt;have:=hb.mP;have:=hb.A8;have:=hb.Db;have:=h.cnt;have:=h.mP;have:=h.A8;have:=h.Db;exact⟨by omega,by omega,by omega,by omega⟩
theorem Sg (ok:Sd room S){p:Int}(hp:Us S p)(hm:S.may p=true)(n:Nd)(hf:cE n=true):Fm room d 1 S [p] (S.set p n) [p]∧(S.set p n).vw d p=(n,0):=by
 have hm':=(dK S p).1 hm;refine⟨⟨⟨ok.x,ok.sp,fun q hq=>?_,ok.sn,fun q n' hq=>?_,ok.bz,ok.tk⟩,fun q hq=>?_,by simp,fun q hq hn=>?_,fun q a b=>?_,by simp[Dr.set],by simp[Dr.set],by simp[Dr.set],by simp[Dr.set],rfl,rfl,fun hc=>⟨fun q hq=>by rw[List.mem_singleton.1 hq];exact hm,by simp[Dr.set],by simp[Dr.set]⟩⟩,by simp[Dr.vw,Dr.read,Dr.set]⟩
 ·simp only[Dr.set]at hq⊢;split at hq
  ·rename_i e;rw[e];exact hm'
  ·exact ok.nf q hq
 ·simp only[Dr.set]at hq;split at hq
  ·cases hq;exact hf
  ·exact ok.fi q n' hq
 ·obtain rfl:q=p:=by simpa using hq
  exact⟨hp.lo,hp.hi,hp.fr,hp.sp⟩
 ·have hne:q≠p:=by simpa using hn
  exact⟨⟨hq.lo,hq.hi,hq.fr,hq.sp⟩,hn,mQ rfl rfl (by simp[Dr.set,hne]),rfl⟩
 ·by_cases hq:q∈[p]
  ·exact .inl hq
  ·exact .inr ⟨a,b,hq⟩
theorem NZ (ok:Sd room S)(h0:(S.x.alloc room).1.2=0){X:List Int}(hX:X=[]∨∃id,X=[id]∧S.may id=false)(n:Nd)(hf:cE n=true):
  Fm room d 2 S X ((S.took room).set (S.x.alloc room).1.1 n) [(S.x.alloc room).1.1]∧((S.took room).set (S.x.alloc room).1.1 n).vw d (S.x.alloc room).1.1=(n,0):=by
 have T:Tk d room S.x (S.x.alloc room).2 (S.x.alloc room).1.1:=za ok.x h0;have hsp:∀q∈S.spare,q<S.x.pages∧¬dh S.x.free q:=fun q hq=>by
  have h1:=ok.sp q hq;refine⟨(ok.x.fs q h1).2,fun c=>?_⟩;rw[ok.x.dj q c]at h1;cases h1
 have hs2:∀q∈S.spare,((S.x.alloc room).2.fresh q).isSome=true:=fun q hq=>by
  rw[T.fs,dC,ok.sp q hq,Bool.or_true]
 have hpm:((S.took room).set (S.x.alloc room).1.1 n).may (S.x.alloc room).1.1=true:=by
  rw[dK];refine⟨?_,fun hs=>T.ne (hsp _ hs).1 (hsp _ hs).2 rfl⟩;show((S.x.alloc room).2.fresh _).isSome=true;rw[T.fs,dC];simp
 refine⟨⟨⟨T.ok,hs2,fun q hq=>?_,ok.sn,fun q n' hq=>?_,fun q c hc=>?_,fun q hq=>?_⟩,fun q hq=>?_,by simp,fun q hq hn=>?_,fun q a b=>?_,?_,?_,?_,?_,rfl,?_,fun hc=>?_⟩,by simp[Dr.vw,Dr.read,Dr.set]⟩
 ·simp only[Dr.set,Dr.took]at hq⊢;split at hq
  ·rename_i e
   rw[e];have:=(dK _ _).1 hpm;exact this
  ·have:=ok.nf q hq;exact⟨by rw[T.fs,dC,this.1,Bool.or_true],this.2⟩
 ·simp only[Dr.set,Dr.took]at hq;split at hq
  ·cases hq;exact hf
  ·exact ok.fi q n' hq
 ·have hc:(S.x.alloc room).2.fresh q=some c:=hc;rw[T.fs]at hc;unfold gy at hc;split at hc
  ·cases hc;simp[c0]
  ·exact ok.bz q c hc
 ·show((S.x.alloc room).2.fresh q).isSome=true;rw[T.fs,dC];rcases List.mem_append.1 hq with h1|h1
  ·rw[ok.tk q h1,Bool.or_true]
  ·rw[List.mem_singleton.1 h1];simp
 ·obtain rfl:q=(S.x.alloc room).1.1:=by simpa using hq
  exact⟨T.lo,T.hi,T.nf,fun hs=>T.ne (hsp _ hs).1 (hsp _ hs).2 rfl⟩
 ·have hne:=T.ne hq.hi hq.fr;refine⟨⟨hq.lo,by have:=T.pg;have:=hq.hi;simp only[Dr.set,Dr.took];omega,fun c=>hq.fr (T.fr _ c),hq.sp⟩,by simpa using hne,mQ (T.get hne hq.hi hq.fr 1) (T.get hne hq.hi hq.fr 2) (by simp[Dr.set,Dr.took,hne]),?_⟩;simp only[Dr.set,Dr.took];rw[T.fs,dC];simp[hne]
 ·simp only[Dr.set,Dr.took]at a b;rw[T.fs,dC]at a;by_cases hq:q=(S.x.alloc room).1.1
  ·exact .inl (by simp[hq])
  ·have a':(S.x.fresh q).isSome=true:=by simpa[hq]using a
   refine .inr ⟨a',b,?_⟩;rcases hX with rfl| ⟨id,rfl,hid⟩
   ·simp
   ·simp only[List.mem_singleton];rintro rfl;rw[(dK S q).2 ⟨a',b⟩]at hid;cases hid
 ·rcases hX with rfl| ⟨id,rfl,hid⟩<;>simp[Dr.set,Dr.took]
 ·have:=T.cn;rcases hX with rfl| ⟨id,rfl,hid⟩<;>simp[Dr.set,Dr.took,this]
 ·rcases hX with rfl| ⟨id,rfl,hid⟩<;>simp[Dr.set,Dr.took]
 ·rcases hX with rfl| ⟨id,rfl,hid⟩<;>simp[Dr.set,Dr.took]
 ·show(S.x.alloc room).2.cap room+((S.taken++[(S.x.alloc room).1.1]).length:Int)=_;rw[T.cp,List.length_append];simp;omega
 ·rcases hX with rfl| ⟨id,rfl,hid⟩
  ·exact⟨fun q hq=>by rw[List.mem_singleton.1 hq];exact hpm,by simp[Dr.set,Dr.took],by simp[Dr.set,Dr.took];omega⟩
  ·rw[hc id (by simp)]at hid;cases hid
theorem A9 (ok:Sd room S){id:Int}{X:List Int}(hX:(X=[]∧S.may id=false)∨(X=[id]∧Us S id)){n:Nd}(hf:cE n=true){m:Nat}(hb:Bd S m):
  ∃p e S',S.put room id n=some ((p,e),S')∧Er room d 0 S X S' e∧(e=0->Fm room d 2 S X S' [p]∧S'.vw d p=(n,0)∧(S.may id=true->p=id∧S'=S.set id n)):=by
 unfold Dr.put;rw[hb.ok,hf];simp only[Bool.and_self,Bool.true_eq_false,if_false];by_cases hm:S.may id=true
 ·rw[if_pos hm];rcases hX with⟨rfl,h⟩| ⟨rfl,hu⟩
  ·rw[hm]at h;cases h
  ·have:=Sg (d:=d) ok hu hm n hf;exact⟨id,0,_,rfl,fun h=>absurd rfl h,fun _=>⟨this.1.mono (by omega),this.2,fun _=>⟨rfl,rfl⟩⟩⟩
 ·rw[if_neg hm];have hm':S.may id=false:=by simpa using hm
  by_cases h0:(S.x.alloc room).1.2=0
  ·rw[if_pos h0];have:=NZ (d:=d) ok h0 (X:=X) (by
    rcases hX with⟨rfl,h⟩| ⟨rfl,hu⟩
    ·exact .inl rfl
    ·exact .inr ⟨id,rfl,hm'⟩) n hf
   exact⟨_,0,_,rfl,fun h=>absurd rfl h,fun _=>⟨this.1,this.2,fun c=>absurd c hm⟩⟩
  ·rw[if_neg h0];refine⟨0,_,_,rfl,fun _=>⟨(sF h0).1,?_⟩,fun c=>absurd c h0⟩;have e1:S.held room=S:=by unfold Dr.held;rw[(sF h0).2.1]
   rw[e1];refine⟨X,Fm.refl ok (fun p hp=>?_) ?_,(sF h0).2.2⟩
   ·rcases hX with⟨rfl,_⟩| ⟨rfl,hu⟩
    ·cases hp
    ·rw[List.mem_singleton.1 hp];exact hu
   ·rcases hX with⟨rfl,_⟩| ⟨rfl,hu⟩<;>simp
theorem Ba (ok:Sd room S){a b:Int}(ha:Us S a)(hb':Us S b)(hab:a≠b){n:Nd}(hf:cE n=true){m:Nat}(hb:Bd S (m+1)):
  ∃p e S',S.fF room a b n=some ((p,e),S')∧Er room d 0 S [a,b] S' e∧(e=0->Fm room d 0 S [a,b] S' [p]∧S'.vw d p=(n,0)):=by
 unfold Dr.fF;rw[hb.ok];simp only[Bool.true_eq_false,if_false];by_cases hm:S.may a=true
 ·rw[if_pos hm];have D:Fm room d 0 S [b] (S.drop b) []:=qg ok hb';have D2:Fm room d 0 S [a,b] (S.drop b) [a]:=(D.ext (Y:=[a]) (by simpa using ha) (by simpa using Ne.symm hab)).perm (List.Perm.swap _ _ _) (List.Perm.refl _);have hm2:(S.drop b).may a=true:=by
   have hm':=(dK S a).1 hm;rw[dK];unfold Dr.drop;split
   ·simp only[List.mem_append,List.mem_singleton,not_or];exact⟨hm'.1,hm'.2,hab⟩
   ·exact hm'
  have hb2:Bd (S.drop b) m:=D.bd hb (by simp;omega);obtain⟨p,e,S',h1,h2,h3⟩:=A9 (d:=d) D.ok (id:=a) (X:=[a]) (.inr ⟨rfl,D2.us a (by simp)⟩) hf hb2;refine⟨p,e,S',h1,D2.er h2,fun he=>?_⟩;obtain⟨f1,f2,f3⟩:=h3 he;obtain⟨rfl,rfl⟩:=f3 hm2;have F:=D2.trans f1;refine⟨⟨F.ok,F.us,F.nd,F.keep,F.tight,?_,?_,?_,?_,F.bot,F.cap,fun hc=>⟨(F.mine hc).1,?_,(F.mine hc).2.2⟩⟩,f2⟩
  ·unfold Dr.drop;split<;>simp[Dr.set]
  ·unfold Dr.drop;split<;>simp[Dr.set]
  ·unfold Dr.drop;split<;>simp[Dr.set]
  ·unfold Dr.drop;split<;>simp[Dr.set]
  ·unfold Dr.drop;split<;>simp[Dr.set]
 ·rw[if_neg hm];have hm':S.may a=false:=by simpa using hm
  have e1:S.drop a=S:=by unfold Dr.drop;rw[if_neg hm]
  rw[e1];have D:Fm room d 0 S [a] S []:=by have:=qg (d:=d) ok ha;rwa [e1]at this
  have D2:Fm room d 0 S [a,b] S [b]:=D.ext (Y:=[b]) (by simpa using hb') (by simpa using hab);obtain⟨p,e,S',h1,h2,h3⟩:=A9 (d:=d) ok (id:=b) (X:=[b]) (.inr ⟨rfl,hb'⟩) hf hb;refine⟨p,e,S',h1,D2.er h2,fun he=>?_⟩;obtain⟨f1,f2,f3⟩:=h3 he;have F:=D2.trans f1;have k1:=f1.cnt;have k2:=f1.mP;have k3:=f1.A8;have k4:=f1.Db;unfold Dr.put at h1;rw[hb.ok,hf]at h1;simp only[Bool.and_self,Bool.true_eq_false,if_false]at h1;refine⟨⟨F.ok,F.us,F.nd,F.keep,F.tight,?_,?_,?_,?_,F.bot,F.cap,fun hc=>by rw[hc a (by simp)]at hm';cases hm'⟩,f2⟩<;>
  ·by_cases hmb:S.may b=true
   ·rw[if_pos hmb]at h1;cases h1;simp[Dr.set]
   ·rw[if_neg hmb]at h1;by_cases h0:(S.x.alloc room).1.2=0
    ·have:=(za (d:=d) ok.x h0).cn;rw[if_pos h0]at h1;cases h1;simp[Dr.set,Dr.took,this]
    ·rw[if_neg h0]at h1;cases h1;exact absurd he h0
end
end P
namespace P
open N
theorem nW {α:Type}{A B A' B':List α}{c x y:α}(h:A++c::B=A'++x::y::B'):
  (∃M,A=A'++x::y::M∧B'=M++c::B)∨(A=A'++[x]∧y=c∧B'=B)∨(A'=A∧x=c∧B=y::B')∨(∃M,A'=A++c::M∧B=M++x::y::B'):=by
 rcases List.append_eq_append_iff.1 h with⟨M,h1,h2⟩| ⟨M,h1,h2⟩
 ·cases M with
  |nil=>
   simp only[List.append_nil]at h1;simp only[List.nil_append]at h2;injection h2 with h3 h4;exact .inr (.inr (.inl ⟨h1,h3.symm,h4⟩))
  |cons z M=>
   rw[List.cons_append]at h2;injection h2 with h3 h4;subst h3;exact .inr (.inr (.inr ⟨M,h1,h4⟩))
 ·cases M with
  |nil=>
   simp only[List.append_nil]at h1;simp only[List.nil_append]at h2;injection h2 with h3 h4;exact .inr (.inr (.inl ⟨h1.symm,h3,h4.symm⟩))
  |cons z M=>
   rw[List.cons_append]at h2;injection h2 with h3 h4;subst h3;cases M with
   |nil=>
    simp only[List.nil_append]at h4;injection h4 with h5 h6;exact .inr (.inl ⟨h1,h5,h6⟩)
   |cons z' M=>
    rw[List.cons_append]at h4;injection h4 with h5 h6;subst h5;exact .inl ⟨M,h1,h6⟩
theorem fh {α:Type}{A B C D:List α}(h:A++B=C++D)(hl:A.length<=C.length):∃M,C=A++M∧B=M++D:=by
 rcases List.append_eq_append_iff.1 h with⟨M,h1,h2⟩| ⟨M,h1,h2⟩
 ·exact⟨M,h1,h2⟩
 ·have:M=[]:=by
   have:=congrArg List.length h1;rw[List.length_append]at this;exact List.length_eq_zero_iff.1 (by omega)
  subst this;exact⟨[],by simpa using h1.symm,by simpa using h2.symm⟩
theorem sG {α:Type}{l:List α}(h:l.length=1):∃x,l=[x]:=by
 match l,h with
 |[x],_=>exact⟨x,rfl⟩
theorem eh {α:Type}{l:List α}{n:Nat}(h:l.length=n+1):∃x m,l=x::m∧m.length=n:=by
 match l,h with
 |x::m,h=>exact⟨x,m,rfl,by simpa using h⟩
section
variable {h:Nat}
abbrev jz (a:KT h)(k:ByteArray)(b:KT h):Nat:=bS h (tj h a.2 k b.2)
theorem ik {a a' b b':KT h}{k:ByteArray}(h1:bS h a.2<=bS h a'.2)(h2:bS h b.2<=bS h b'.2):jz a k b<=jz a' k b':=by
 unfold jz;rw[nU,nU];omega
theorem KP.one {A B:List (KT h)}{u v c:KT h}{sA sB:List ByteArray}{k:ByteArray}(hA:A.length=sA.length)(hu:bS h u.2<=bS h c.2)(hv:bS h v.2<=bS h c.2){j:Nat}
  (h1:j<A.length->KP (A++u::v::B) (sA++k::sB) j)(h2:A.length<j->KP (A++u::v::B) (sA++k::sB) (j+1))(h3:j≠A.length):KP (A++c::B) (sA++sB) j:=by
 intro A' x y B' ES k' lF e1 e2 e3;rcases nW e1 with⟨M,r1,r2⟩| ⟨r1,r2,r3⟩| ⟨r1,r2,r3⟩| ⟨M,r1,r2⟩
 ·subst r1 r2;obtain⟨M',s1,s2⟩:=fh e2.symm (by simp at hA;omega);subst s1;obtain⟨k'',M'',rfl,_⟩:=eh (l:=M') (n:=1+M.length) (by simp at hA;omega);simp only[List.cons_append]at s2;injection s2 with s3 s4;subst s3;refine⟨fun hj hs=>?_,fun hB=>by simp at hB⟩;exact(h1 (by simp;omega) A' x y (M++u::v::B) ES k' (M''++k::sB) (by simp) (by simp) e3).1 hj hs
 ·subst r1 r2 r3;obtain⟨M',s1,s2⟩:=fh e2.symm (by simp at hA;omega);subst s1;obtain⟨k'',rfl⟩:=sG (l:=M') (by simp at hA;omega);simp only[List.cons_append,List.nil_append]at s2;injection s2 with s3 s4;subst s3;refine⟨fun hj hs=>?_,fun hB hj=>by simp at h3;omega⟩;exact Nat.lt_of_lt_of_le ((h1 (by simp;omega) A' x u (v::B') ES k' (k::sB) (by simp) (by simp) e3).1 hj hs) (ik (Nat.le_refl _) hu)
 ·subst r1 r2 r3;obtain⟨M',s1,s2⟩:=fh e2 (by omega);have:M'=[]:=by
   have:=congrArg List.length s1;rw[List.length_append]at this;exact List.length_eq_zero_iff.1 (by omega)
  subst this;simp only[List.append_nil,List.nil_append]at s1 s2;subst s1 s2;refine⟨fun hj=>by omega,fun hB hj hs=>?_⟩;exact Nat.lt_of_lt_of_le ((h2 (by omega) (A'++[u]) v y B' (ES++[k]) k' lF (by simp) (by simp) (by simp[e3])).2 hB (by simp;omega) hs) (ik hv (Nat.le_refl _))
 ·subst r1 r2;obtain⟨M',s1,s2⟩:=fh e2 (by simp at e3;omega);subst s1 s2;have hl:M'.length=1+M.length:=by simp at e3;omega
  exact⟨fun hj hs=>(h2 (by rw[hj];simp) (A++u::v::M) x y B' (sA++k::M') k' lF (by simp) (by simp) (by simp;omega)).1 (by rw[hj];simp;omega) hs,fun hB hj hs=>(h2 (by rw[hj];simp;omega) (A++u::v::M) x y B' (sA++k::M') k' lF (by simp) (by simp) (by simp;omega)).2 hB (by rw[hj];simp;omega) hs⟩
theorem KP.glue {A B:List (KT h)}{u v:KT h}{sA sB:List ByteArray}{k:ByteArray}(hA:A.length=sA.length)(ha:∀j,KP (A++[u]) sA j)(hb:∀j,KP (v::B) sB j)
  (hp:(bS h u.2<80->240<jz u k v)∧(B=[]->bS h v.2<80->240<jz u k v))(j:Nat):KP (A++u::v::B) (sA++k::sB) j:=by
 intro A' x y B' ES k' lF e1 e2 e3;rcases nW e1 with⟨M,r1,r2⟩| ⟨r1,r2,r3⟩| ⟨r1,r2,r3⟩| ⟨M,r1,r2⟩
 ·subst r1 r2;obtain⟨M',s1,s2⟩:=fh e2.symm (by simp at hA;omega);subst s1;obtain⟨k'',M'',rfl,_⟩:=eh (l:=M') (n:=1+M.length) (by simp at hA;omega);simp only[List.cons_append]at s2;injection s2 with s3 s4;subst s3;exact⟨fun hj hs=>(ha j A' x y (M++[u]) ES k' M'' (by simp) rfl e3).1 hj hs,fun hB=>by simp at hB⟩
 ·subst r1 r2 r3;obtain⟨M',s1,s2⟩:=fh e2.symm (by simp at hA;omega);subst s1;obtain⟨k'',rfl⟩:=sG (l:=M') (by simp at hA;omega);simp only[List.cons_append,List.nil_append]at s2;injection s2 with s3 s4;subst s3;exact⟨fun hj hs=>(ha j A' x y [] ES k' [] (by simp) rfl e3).1 hj hs,fun hB=>by simp at hB⟩
 ·injection r3 with r4 r5;subst r1 r2 r4 r5;obtain⟨M',s1,s2⟩:=fh e2 (by omega);have:M'=[]:=by
   have:=congrArg List.length s1;rw[List.length_append]at this;exact List.length_eq_zero_iff.1 (by omega)
  subst this;simp only[List.append_nil,List.nil_append]at s1 s2;injection s2 with s3 s4;subst s1 s3 s4;exact⟨fun _ hs=>hp.1 hs,fun hB _ hs=>hp.2 hB hs⟩
 ·subst r1;obtain⟨M',s1,s2⟩:=fh e2 (by simp at e3;omega);subst s1;obtain⟨k'',M'',rfl,hl⟩:=eh (l:=M') (n:=M.length) (by simp at e3;omega);simp only[List.cons_append]at s2;injection s2 with s3 s4;subst s3;exact⟨fun _ hs=>(hb M.length M x y B' M'' k' lF r2 s4 hl.symm).1 rfl hs,fun hB _ hs=>(hb (M.length+1) M x y B' M'' k' lF r2 s4 hl.symm).2 hB rfl hs⟩
theorem KP.meet {A B:List (KT h)}{u v c:KT h}{sA sB:List ByteArray}(hA:A.length=sA.length)(ha:∀j,KP (A++[u]) sA j)(hb:∀j,KP (v::B) sB j)
  (hu:bS h u.2<=bS h c.2)(hv:bS h v.2<=bS h c.2)(j:Nat):KP (A++c::B) (sA++sB) j:=by
 intro A' x y B' ES k' lF e1 e2 e3;rcases nW e1 with⟨M,r1,r2⟩| ⟨r1,r2,r3⟩| ⟨r1,r2,r3⟩| ⟨M,r1,r2⟩
 ·subst r1 r2;obtain⟨M',s1,s2⟩:=fh e2.symm (by simp at hA;omega);subst s1;obtain⟨k'',M'',rfl,_⟩:=eh (l:=M') (n:=1+M.length) (by simp at hA;omega);simp only[List.cons_append]at s2;injection s2 with s3 s4;subst s3;exact⟨fun hj hs=>(ha j A' x y (M++[u]) ES k' M'' (by simp) rfl e3).1 hj hs,fun hB=>by simp at hB⟩
 ·subst r1 r2 r3;obtain⟨M',s1,s2⟩:=fh e2.symm (by simp at hA;omega);subst s1;obtain⟨k'',rfl⟩:=sG (l:=M') (by simp at hA;omega);simp only[List.cons_append,List.nil_append]at s2;injection s2 with s3 s4;subst s3;exact⟨fun hj hs=>Nat.lt_of_lt_of_le ((ha j A' x u [] ES k' [] (by simp) rfl e3).1 hj hs) (ik (Nat.le_refl _) hu),fun hB hj hs=>Nat.lt_of_lt_of_le ((ha j A' x u [] ES k' [] (by simp) rfl e3).2 rfl hj (by omega)) (ik (Nat.le_refl _) hu)⟩
 ·subst r1 r2 r3;obtain⟨M',s1,s2⟩:=fh e2 (by omega);have:M'=[]:=by
   have:=congrArg List.length s1;rw[List.length_append]at this;exact List.length_eq_zero_iff.1 (by omega)
  subst this;simp only[List.append_nil,List.nil_append]at s1 s2;subst s1 s2;exact⟨fun _ hs=>Nat.lt_of_lt_of_le ((hb 0 [] v y B' [] k' lF rfl rfl rfl).1 rfl (by omega)) (ik hv (Nat.le_refl _)),fun hB _ hs=>Nat.lt_of_lt_of_le ((hb 1 [] v y B' [] k' lF rfl rfl rfl).2 hB rfl hs) (ik hv (Nat.le_refl _))⟩
 ·subst r1 r2;obtain⟨M',s1,s2⟩:=fh e2 (by simp at e3;omega);subst s1 s2;have hl:M'.length=1+M.length:=by simp at e3;omega
  exact⟨fun _ hs=>(hb (M.length+1) (v::M) x y B' M' k' lF rfl rfl (by simp;omega)).1 rfl hs,fun hB _ hs=>(hb (M.length+2) (v::M) x y B' M' k' lF rfl rfl (by simp;omega)).2 hB rfl hs⟩
end
end P
namespace P
open N
theorem getD_at {α:Type}(A:List α)(x:α)(B:List α)(z:α):(A++x::B).getD A.length z=x:=by
 simp[List.getD_eq_getElem?_getD]
theorem kt {l:List En}:2*l.length<=cA l:=by
 induction l with
 |nil=>simp
 |cons x l ih=>simp only[cA,kf,List.length_cons];omega
theorem ku {l:List ByteArray}:5*l.length<=bO l:=by
 induction l with
 |nil=>simp
 |cons x l ih=>simp only[bO,List.length_cons];omega
section
variable {room:Nat}{d:Dk}{S:Dr}{h:Nat}
def bI (K:List (KT h))(ss:List ByteArray):BT (h+1):=(K,ss)
theorem bU (K:List (KT h))(ss:List ByteArray):aV (h+1) (bI K ss)=⟨false,[],K.map Prod.fst,ss⟩:=rfl
theorem Px (K:List (KT h))(ss:List ByteArray):lD (h+1) (bI K ss)=hZ K:=rfl
theorem Jv (K:List (KT h))(ss:List ByteArray):cx (h+1) (bI K ss)=dw K ss:=rfl
theorem oM (K:List (KT h))(ss:List ByteArray):dM (h+1) (bI K ss)=bD K:=rfl
theorem sH (K:List (KT h))(ss:List ByteArray):bS (h+1) (bI K ss)=4+bO ss:=rfl
theorem sI (K:List (KT h))(ss:List ByteArray):Wl (h+1) (bI K ss)=(ss.length+1=K.length∧(∀i,KP K ss i)∧∀u∈K,Wl h u.2∧bS h u.2<=240):=rfl
theorem Jw (K:List (KT h))(ss:List ByteArray)(k:ByteArray)(K':List (KT h))(ss':List ByteArray):tj (h+1) (bI K ss) k (bI K' ss')=bI (K++K') (ss++k::ss'):=rfl
theorem eZ (t:BT (h+1)):∃K ss,t=bI K ss:=⟨t.1,t.2,rfl⟩
theorem Yj (l:List En):aV 0 l=⟨true,l,[],[]⟩:=rfl
abbrev dN (u:KT h):List Int:=(nT u).map Prod.fst
abbrev aW (K:List (KT h)):List Int:=(hZ K).map Prod.fst
abbrev bn (h:Nat)(t:BT h):List Int:=(lD h t).map Prod.fst
theorem bY (u:KT h):dN u=u.1::bn h u.2:=rfl
theorem bE (u:KT h)(K:List (KT h)):aW (u::K)=dN u++aW K:=by simp[aW,dF]
theorem bc (A K:List (KT h)):aW (A++K)=aW A++aW K:=by simp[aW,dg]
theorem qh {K:List (KT h)}{u:KT h}(hu:u∈K):u.1∈aW K:=by
 refine List.mem_map.2 ⟨(u.1,aV h u.2),?_,rfl⟩;exact List.mem_flatten.2 ⟨nT u,List.mem_map_of_mem hu,by simp[nT]⟩
theorem kC (l:List En)(ho:bP (cx 0 l))(hv:∀x∈l,x.2.size<=40):cI (aV 0 l)=true:=(fE rfl).2 ⟨rfl,rfl,bP.leaf ho hv⟩
theorem iY (hr:room<=16384)(ok:Sd room S)(K:List (KT h))(ss:List ByteArray)(hl:ss.length+1=K.length)(us:∀p∈aW K,Us S p)(ho:bP (dw K ss)):cI (aV (h+1) (bI K ss))=true:=by
 rw[bU];refine(ft rfl).2 ⟨rfl,?_,?_,?_,?_⟩
 ·simp;omega
 ·simp;omega
 ·refine vF fun k hk=>mv.2 ?_;obtain⟨u,hu,rfl⟩:=List.mem_map.1 hk;have hp:Us S u.1:=us u.1 (qh hu);have h1:=hp.lo;have h2:=hp.hi;have h3:=ok.x.pr;omega
 ·refine bP.keys (ho.sub ?_);rw[dw];exact gV _ _ (by simp;omega)
theorem Dc (hr:room<=16384)(ok:Sd room S)(t:BT h)(hw:Wl h t)(us:∀p∈bn h t,Us S p)(ho:bP (cx h t))(hv:∀x∈dM h t,x.2.size<=40):cI (aV h t)=true:=by
 cases h with
 |zero=>exact kC t ho hv
 |succ h=>
  obtain⟨K,ss,rfl⟩:=eZ t;exact iY hr ok K ss hw.1 us ho
theorem kD (l:List En)(hs:bS 0 l<=1000):bZ (aV 0 l)=true:=by
 have h1:2*l.length<=cA l:=kt;have h2:cA l<=1000:=hs;rw[Yj];simp only[bZ,Bool.and_eq_true,decide_eq_true_eq,bO,List.all_nil,List.length_nil];refine⟨⟨⟨⟨⟨?_,?_⟩,?_⟩,?_⟩,?_⟩,trivial⟩<;>first|omega|rfl
theorem Jx (hr:room<=16384)(ok:Sd room S)(K:List (KT h))(ss:List ByteArray)(hl:K.length<=ss.length+1)(hs:bO ss<=1000)(us:∀p∈aW K,Us S p):bZ (aV (h+1) (bI K ss))=true:=by
 have h1:5*ss.length<=bO ss:=ku;rw[bU];simp only[bZ,Bool.and_eq_true,decide_eq_true_eq,cA,List.all_eq_true,List.length_nil,List.length_map];refine⟨⟨⟨⟨⟨?_,?_⟩,?_⟩,?_⟩,?_⟩,fun k hk=>?_⟩
 iterate 5 (first|omega|rfl)
 obtain⟨u,hu,rfl⟩:=List.mem_map.1 hk;have hp:Us S u.1:=us u.1 (qh hu);have h1:=hp.lo;have h2:=hp.hi;have h3:=ok.x.pr;omega
theorem j4 {K:List (KT h)}(is:oL S d (hZ K)){u:KT h}(hu:u∈K){depth:Int}(hd:depth<24):S.read d u.1 depth=(aV h u.2,0):=by
 rw[S.gF d _ _ hd];exact is (u.1,aV h u.2) (List.mem_flatten.2 ⟨nT u,List.mem_map_of_mem hu,by simp[nT]⟩)
theorem Sh {A B:List (KT h)}{u v:KT h}{sA sB:List ByteArray}{k:ByteArray}(hA:A.length=sA.length)(hB:B.length=sB.length)(p:Int)(c:BT h):
  fT (aV (h+1) (bI (A++u::v::B) (sA++k::sB))) (A.length:Int) ((A.length:Int)+2) [p] []=aV (h+1) (bI (A++(p,c)::B) (sA++sB)):=by
 have e1:((A.length:Int)+2).toNat=A.length+2:=by omega
 have e2:((A.length:Int)).toNat=A.length:=by omega
 rw[bU,bU,fT,if_pos]
 ·rw[e1,e2];have e3:uz A.length [p]=A.length:=by simp[uz]
  have e4:uA A.length (A.length+2) [p]=A.length+1:=by simp[uA]
  rw[e3,e4];have f1:iy ((A++u::v::B).map Prod.fst) A.length (A.length+2) [p]=(A++(p,c)::B).map Prod.fst:=by
   unfold iy;rw[List.map_append,List.map_append,List.take_append_of_le_length (by simp),List.drop_append];simp[List.take_of_length_le]
  have f2:iy (sA++k::sB) A.length (A.length+1) []=sA++sB:=by
   unfold iy;rw[hA,List.take_append_of_le_length (Nat.le_refl _),List.drop_append];simp
  rw[f1,f2]
 ·simp[swB];omega
theorem Vb (hr:room<=16384)(ok:Sd room S)(a b:BT h)(k:ByteArray)(ha:Wl h a)(hb:Wl h b)(us:∀p∈bn h a++bn h b,Us S p)(ho:bP (cx h a++(true,k)::cx h b))(hv:∀x∈dM h a++dM h b,x.2.size<=40):cI (je (aV h a) k (aV h b))=true:=by
 rw[<-wD];have ho':=ho.sub (sD h a b k ha);cases h with
 |zero=>exact kC _ ho' (by rw[<-Ju 0 a b k]at hv;exact hv)
 |succ h=>
  obtain⟨K,ss,rfl⟩:=eZ a;obtain⟨K',ss',rfl⟩:=eZ b;rw[Jw];refine iY hr ok _ _ ?_ ?_ (by rw[Jw]at ho';exact ho')
  ·have h1:=ha.1;have h2:=hb.1;simp only[bI]at h1 h2;simp;omega
  ·rw[bc];exact us
theorem Py (hr:room<=16384)(ok:Sd room S)(a b:BT h)(k:ByteArray)(ha:Wl h a)(hb:Wl h b)(us:∀p∈bn h a++bn h b,Us S p)(ho:bP (cx h a++(true,k)::cx h b))(hv:∀x∈dM h a++dM h b,x.2.size<=40):cE (je (aV h a) k (aV h b))=decide (bS h (tj h a k b)<=240):=by
 unfold cE;rw[Vb hr ok a b k ha hb us ho hv,<-wD,Bool.true_and];rfl
def lG (room:Nat)(d:Dk)(h:Nat):Prop:=
 ∀(S:Dr) (a b:BT h) (k:ByteArray) (depth:Int) (f m:Nat),Sd room S->Wl h a->Wl h b->(∀p∈bn h a++bn h b,Us S p)->(bn h a++bn h b).Nodup->oL S d (lD h a++lD h b)->bP (cx h a++(true,k)::cx h b)->(∀x∈dM h a++dM h b,x.2.size<=40)->bS h (tj h a k b)<=240->depth+h<24->3*(bn h a++bn h b).length+3<=f->Bd S ((bn h a++bn h b).length+1+m)->
  ∃n e S1,aZ room d f S (je (aV h a) k (aV h b)) depth (max (((aV h a).ks.length:Int)-1) 0) (((aV h a).ks.length:Int)+1)=some ((n,e),S1)∧Er room d 0 S (bn h a++bn h b) S1 e∧(e=0->∃c,n=aV h c∧Wl h c∧oL S1 d (lD h c)∧Fm room d 0 S (bn h a++bn h b) S1 (bn h c)∧(cx h c).Sublist (cx h a++(true,k)::cx h b)∧dM h c=dM h a++dM h b∧bS h a<=bS h c∧bS h b<=bS h c∧bS h c<=240∧(bn h c).length<=(bn h a++bn h b).length)
structure Rw (room:Nat)(d:Dk)(S:Dr)(h:Nat)(K:List (KT h))(ss:List ByteArray):Prop where
 sd:Sd room S
 wl:∀u∈K,Wl h u.2∧bS h u.2<=240
 us:∀p∈aW K,Us S p
 nd:(aW K).Nodup
 is:oL S d (hZ K)
 od:bP (dw K ss)
 vl:∀x∈bD K,x.2.size<=40
 sz:bO ss<=1000
 ln:ss.length+1=K.length∨(K=[]∧ss=[])
theorem Rw.pair {A B:List (KT h)}{u v:KT h}{sA sB:List ByteArray}{k:ByteArray}(R:Rw room d S h (A++u::v::B) (sA++k::sB))(hA:A.length=sA.length):
  (∀p∈bn h u.2++bn h v.2,Us S p)∧(bn h u.2++bn h v.2).Nodup∧oL S d (lD h u.2++lD h v.2)∧bP (cx h u.2++(true,k)::cx h v.2)∧(∀x∈dM h u.2++dM h v.2,x.2.size<=40):=by
 have e1:hZ (A++u::v::B)=hZ A++((u.1,aV h u.2)::lD h u.2++((v.1,aV h v.2)::lD h v.2++hZ B)):=by
  rw[dg,dF,dF];rfl
 have hs:(lD h u.2++lD h v.2).Sublist (hZ (A++u::v::B)):=by
  rw[e1];refine List.Sublist.trans ?_ (List.sublist_append_right _ _);refine List.Sublist.append (List.sublist_cons_self _ _) ?_;exact List.Sublist.trans (List.sublist_cons_self _ _) (List.sublist_append_left _ _)
 have hp:(bn h u.2++bn h v.2).Sublist (aW (A++u::v::B)):=by
  have:=hs.map Prod.fst
  rwa [List.map_append]at this
 refine⟨fun p hq=>R.us p (hp.subset hq),R.nd.sublist hp,fun x hx=>R.is x (hs.subset hx),?_,fun x hx=>R.vl x ?_⟩
 ·refine R.od.sub ?_;rw[p8 hA];refine List.Sublist.trans ?_ (List.sublist_append_right _ _);exact List.Sublist.append (List.Sublist.refl _) (List.Sublist.cons_cons _ (List.sublist_append_left _ _))
 ·rw[bQ,bV,bV];simp only[List.mem_append]at hx⊢;rcases hx with hx|hx
  ·exact .inr (.inl hx)
  ·exact .inr (.inr (.inl hx))
theorem Dd (hr:room<=16384){A B:List (KT h)}{u v w:KT h}{sA sB:List ByteArray}{k:ByteArray}(R:Rw room d S h (A++u::v::B) (sA++k::sB))(hA:A.length=sA.length){depth i:Int}(hd:depth+1<24)
  (hw:w=u∨w=v)(N0:((A++u::v::B).map Prod.fst).getD i.toNat 0=w.1)(hk:bS h w.2<80->240<jz u k v)(rec:pQ):
  fL rec room d S (aV (h+1) (bI (A++u::v::B) (sA++k::sB))) depth i (A.length:Int)=some ((aV (h+1) (bI (A++u::v::B) (sA++k::sB)),false,0),S):=by
 obtain⟨p1,p2,p3,p4,p5⟩:=R.pair hA;have wu:=(R.wl u (by simp)).1;have wv:=(R.wl v (by simp)).1;have r0:S.read d w.1 (depth+1)=(aV h w.2,0):=j4 R.is (by rcases hw with rfl|rfl<;>simp) hd;have r1:S.read d u.1 (depth+1)=(aV h u.2,0):=j4 R.is (by simp) hd;have r2:S.read d v.1 (depth+1)=(aV h v.2,0):=j4 R.is (by simp) hd;have g1:((A++u::v::B).map Prod.fst).getD ((A.length:Int)).toNat 0=u.1:=by
  simp[List.getD_eq_getElem?_getD]
 have g2:((A++u::v::B).map Prod.fst).getD (((A.length:Int)).toNat+1) 0=v.1:=by
  simp[List.getD_eq_getElem?_getD]
 have g3:(sA++k::sB).getD ((A.length:Int)).toNat ⟨#[]⟩=k:=by
  have:=getD_at sA k sB ⟨#[]⟩;rw[show((A.length:Int)).toNat=sA.length by omega];exact this
 have hf:=Py hr R.sd u.2 v.2 k wu wv p1 p4 p5;rw[bU];unfold fL;simp only[N0,g1,g2,g3,r0,r1,r2,hf];rw[if_neg (by omega),if_neg (by simp)];by_cases hs:80<=dG (aV h w.2)
 ·rw[if_pos hs]
 ·rw[if_neg hs,if_neg (by simp),if_neg (by simp),if_neg (by simp;omega),if_pos];have:=hk (by unfold bS;omega);unfold jz at this;exact .inr (decide_eq_false (by omega))
theorem sJ (hr:room<=16384)(HJ:lG room d h){A B:List (KT h)}{u v w:KT h}{sA sB:List ByteArray}{k:ByteArray}(R:Rw room d S h (A++u::v::B) (sA++k::sB))(hA:A.length=sA.length)(hB:B.length=sB.length){depth i:Int}(hd:depth+1+h<24)
    (hw:w=u∨w=v)(N0:((A++u::v::B).map Prod.fst).getD i.toNat 0=w.1)(hk:bS h w.2<80)(hj:jz u k v<=240){f m:Nat}(hf:3*(bn h u.2++bn h v.2).length+3<=f)(hb:Bd S ((bn h u.2++bn h v.2).length+2+m)):
    ∃n j e S2,fL (fun S n depth i tt=>aZ room d f S n depth (max i 0) tt) room d S (aV (h+1) (bI (A++u::v::B) (sA++k::sB))) depth i (A.length:Int)=some ((n,j,e),S2)∧Er room d 0 S (dN u++dN v) S2 e∧
      (e=0->j=true∧∃p c,n=aV (h+1) (bI (A++(p,c)::B) (sA++sB))∧Wl h c∧bS h c<=240∧bS h u.2<=bS h c∧bS h v.2<=bS h c∧oL S2 d (nT (p,c))∧Fm room d 0 S (dN u++dN v) S2 (dN (p,c))∧(cx h c).Sublist (cx h u.2++(true,k)::cx h v.2)∧dM h c=dM h u.2++dM h v.2∧(dN (p,c)).length+1<=(dN u++dN v).length):=by
  obtain⟨p1,p2,p3,p4,p5⟩:=R.pair hA;have wu:=(R.wl u (by simp)).1;have wv:=(R.wl v (by simp)).1;have hd':depth+1<24:=by omega
  have r0:S.read d w.1 (depth+1)=(aV h w.2,0):=j4 R.is (by rcases hw with rfl|rfl<;>simp) hd';have r1:S.read d u.1 (depth+1)=(aV h u.2,0):=j4 R.is (by simp) hd';have r2:S.read d v.1 (depth+1)=(aV h v.2,0):=j4 R.is (by simp) hd';have g1:((A++u::v::B).map Prod.fst).getD ((A.length:Int)).toNat 0=u.1:=by
    simp[List.getD_eq_getElem?_getD]
  have g2:((A++u::v::B).map Prod.fst).getD (((A.length:Int)).toNat+1) 0=v.1:=by
    simp[List.getD_eq_getElem?_getD]
  have g3:(sA++k::sB).getD ((A.length:Int)).toNat ⟨#[]⟩=k:=by
    have:=getD_at sA k sB ⟨#[]⟩;rw[show((A.length:Int)).toNat=sA.length by omega];exact this
  have hfi:=Py hr R.sd u.2 v.2 k wu wv p1 p4 p5;have hlf:(aV h u.2).leaf=(aV h v.2).leaf:=by rw[yY,yY]
  have Yk:cE (je (aV h u.2) k (aV h v.2))=true:=by rw[hfi];exact decide_eq_true hj
  have hs:¬80<=dG (aV h w.2):=by unfold bS at hk;omega
  obtain⟨n,e,S1,h1,h2,h3⟩:=HJ S u.2 v.2 k (depth+1) f (m+1) R.sd wu wv p1 p2 p3 p4 p5 hj hd hf (hb.mono (by omega));have hsub:(dN u++dN v).Sublist (aW (A++u::v::B)):=by
    rw[bc,bE,bE];refine List.Sublist.trans ?_ (List.sublist_append_right _ _);exact List.Sublist.append (List.Sublist.refl _) (List.sublist_append_left _ _)
  have hnd:=R.nd.sublist hsub;have Pz:∀p∈dN u++dN v,Us S p:=fun p hp=>R.us p (hsub.subset hp);have hperm:((bn h u.2++bn h v.2)++[u.1,v.1]).Perm (dN u++dN v):=by
    rw[bY,bY];refine List.perm_append_comm.trans ?_;show(u.1::(v.1::(bn h u.2++bn h v.2))).Perm (u.1::(bn h u.2++v.1::bn h v.2));exact List.Perm.cons _ List.perm_middle.symm
  have hnd':=hperm.nodup_iff.2 hnd;obtain⟨n1,n2,n3⟩:=List.nodup_append.1 hnd';have Wm:Us S u.1:=Pz u.1 (hperm.mem_iff.1 (by simp));have huv:Us S v.1:=Pz v.1 (hperm.mem_iff.1 (by simp));have Yl:u.1≠v.1:=by simpa using n2
  rw[bU];unfold fL;simp only[N0,g1,g2,g3,r0,r1,r2,Yk,hlf];rw[if_neg (by omega),if_neg (by simp),if_neg hs,if_neg (by simp),if_neg (by simp),if_neg (by simp;omega),if_neg (by simp),h1];simp only;by_cases he:e=0
  · subst he;obtain⟨c,rfl,wc,ic,F1,sc,ec,z1,z2,z3,z4⟩:=h3 rfl;rw[if_neg (by simp)];have u1:=F1.yZ Wm (fun hx=>n3 _ hx u.1 (by simp) rfl);have u2:=F1.yZ huv (fun hx=>n3 _ hx v.1 (by simp) rfl);have hv:∀x∈dM h c,x.2.size<=40:=by rw[ec];exact p5
    have hfc:cE (aV h c)=true:=by
      unfold cE;rw[Dc hr F1.ok c wc F1.us (p4.sub sc) hv,Bool.true_and];exact decide_eq_true z3
    obtain⟨p,e2,S2,k1,k2,k3⟩:=Ba (d:=d) F1.ok u1.1 u2.1 Yl hfc (m:=m) (F1.bd hb (by simp only[List.length_append]at*;omega));rw[k1];have E1:=F1.ext (Y:=[u.1,v.1]) (by simp[Wm,huv]) hnd';have ndc:([u.1,v.1]++bn h c).Nodup:=(List.perm_append_comm.nodup_iff).1 E1.nd;refine⟨_,_,_,_,rfl,((E1.perm hperm List.perm_append_comm).er (k2.ext F1.us ndc)).mono (by omega),fun he2=>⟨rfl,p,c,?_,wc,z3,z1,z2,?_,?_,sc,ec,?_⟩⟩
    · rw[<-bU];exact Sh hA hB p c
    · obtain⟨F2,v2⟩:=k3 he2;intro x hx;rcases List.mem_cons.1 hx with rfl|hx
      · exact v2
      · exact F2.NY ic F1.us (fun q hq=>by
          have hm:q∈bn h c:=hq
          intro hc
          rcases List.mem_cons.1 hc with rfl|hc
          · exact u1.2 hm
          · rw[List.mem_singleton.1 hc]at hm
            exact u2.2 hm) x hx
    · obtain⟨F2,v2⟩:=k3 he2;have E1:=F1.ext (Y:=[u.1,v.1]) (by simp[Wm,huv]) hnd';have E2:=F2.ext (Y:=bn h c) F1.us (by
        have:=E1.nd
        exact(List.perm_append_comm.nodup_iff).1 this)
      exact(E1.trans (E2.perm List.perm_append_comm (List.Perm.refl _))).perm hperm (List.Perm.refl _)
    · have:=hperm.length_eq;rw[bY];simp only[List.length_append,List.length_cons,List.length_nil]at this z4⊢;omega
  · rw[if_pos he];exact⟨_,_,_,_,rfl,(h2.ext (Y:=[u.1,v.1]) (by simp[Wm,huv]) hnd').perm hperm,fun h0=>absurd h0 he⟩
end
end P
namespace P
open N
section
variable {room:Nat}{d:Dk}{S:Dr}{h:Nat}
theorem Rw.sm (hr:room<=16384){K:List (KT h)}{ss:List ByteArray}(R:Rw room d S h K ss):bZ (aV (h+1) (bI K ss))=true:=
 Jx hr R.sd K ss (by rcases R.ln with e| ⟨e1,e2⟩<;>simp[*]<;>omega) R.sz R.us
theorem jw {f:Nat}{n:Nd}{depth i tt:Int}(hs:bZ n=true)(hi:0<=i)(he:¬i<min tt (n.ks.length:Int)):aZ room d (f+1) S n depth i tt=some ((n,0),S):=by
 rw[aZ,if_neg (by simp[hs];omega),if_neg he]
theorem nX {f:Nat}{n:Nd}{depth i tt:Int}(hs:bZ n=true)(hi:0<=i)(he:i<min tt (n.ks.length:Int))
  (hj:fL (fun S n depth i tt=>aZ room d f S n depth (max i 0) tt) room d S n depth i (min i ((n.ks.length:Int)-2))=some ((n,false,0),S)):aZ room d (f+1) S n depth i tt=aZ room d f S n depth (i+1) tt:=by
 rw[aZ,if_neg (by simp[hs];omega),if_pos he,hj];simp
theorem lH {f:Nat}{n m:Nd}{S2:Dr}{depth i tt:Int}(hs:bZ n=true)(hi:0<=i)(he:i<min tt (n.ks.length:Int))
  (hj:fL (fun S n depth i tt=>aZ room d f S n depth (max i 0) tt) room d S n depth i (min i ((n.ks.length:Int)-2))=some ((m,true,0),S2)):aZ room d (f+1) S n depth i tt=aZ room d f S2 m depth (min i ((n.ks.length:Int)-2)) tt:=by
 rw[aZ,if_neg (by simp[hs];omega),if_pos he,hj];simp
theorem lI {f:Nat}{n m:Nd}{S2:Dr}{j:Bool}{e depth i tt:Int}(hs:bZ n=true)(hi:0<=i)(he:i<min tt (n.ks.length:Int))(h0:e≠0)
  (hj:fL (fun S n depth i tt=>aZ room d f S n depth (max i 0) tt) room d S n depth i (min i ((n.ks.length:Int)-2))=some ((m,j,e),S2)):aZ room d (f+1) S n depth i tt=some ((nd0,e),S2):=by
 rw[aZ,if_neg (by simp[hs];omega),if_pos he,hj];simp[h0]
theorem De {K:List (KT h)}{ss:List ByteArray}(hl:ss.length+1=K.length)(h2:2<=K.length){i:Nat}(hi:i<K.length):
  ∃A u v B sA k sB,K=A++u::v::B∧ss=sA++k::sB∧A.length=sA.length∧B.length=sB.length∧min (i:Int) ((K.length:Int)-2)=(A.length:Int)∧(i=A.length∨(i=A.length+1∧B=[])):=by
 obtain⟨q,hq⟩:∃q,q=min i (K.length-2):=⟨_,rfl⟩;have e1:K=K.take q++K.drop q:=(List.take_append_drop q K).symm;have e2:ss=ss.take q++ss.drop q:=(List.take_append_drop q ss).symm;obtain⟨u,K1,r1,l1⟩:=eh (l:=K.drop q) (n:=K.length-q-1) (by rw[List.length_drop];omega);obtain⟨v,B,r2,l2⟩:=eh (l:=K1) (n:=K.length-q-2) (by omega);obtain⟨k,sB,r3,l3⟩:=eh (l:=ss.drop q) (n:=ss.length-q-1) (by rw[List.length_drop];omega);rw[r1,r2]at e1;rw[r3]at e2;have lA:(K.take q).length=q:=by rw[List.length_take];omega
 refine⟨K.take q,u,v,B,ss.take q,k,sB,e1,e2,?_,by omega,by omega,?_⟩
 ·rw[lA,List.length_take];omega
 ·rw[lA];by_cases hc:i<=K.length-2
  ·exact .inl (by omega)
  ·exact .inr ⟨by omega,List.length_eq_zero_iff.1 (by omega)⟩
theorem Vc {A B:List (KT h)}{u v:KT h}{sA sB:List ByteArray}{k:ByteArray}(hA:A.length=sA.length){i:Nat}
    (hp:(i=A.length∧(bS h u.2<80->240<jz u k v))∨(i=A.length+1∧B=[]∧(bS h v.2<80->240<jz u k v))):KP (A++u::v::B) (sA++k::sB) i:=by
  intro A' x y B' ES k' lF e1 e2 e3;have hlen:=congrArg List.length e1;simp only[List.length_append,List.length_cons]at hlen;have key:A.length=A'.length->x=u∧y=v∧k'=k:=fun hq=>by
    obtain⟨r1,r2⟩:=List.append_inj e1 hq;obtain⟨s1,s2⟩:=List.append_inj e2 (by omega);injection r2 with r3 r4;injection r4 with r5 r6;injection s2 with s3 s4;exact⟨r3.symm,r5.symm,s3.symm⟩
  rcases hp with⟨rfl,hp⟩| ⟨rfl,rfl,hp⟩
  · refine⟨fun hj hs=>?_,fun hB hj=>?_⟩
    · obtain⟨rfl,rfl,rfl⟩:=key hj;exact hp hs
    · subst hB;simp at hlen;omega
  · refine⟨fun hj hs=>?_,fun hB hj hs=>?_⟩
    · simp at hlen;omega
    · obtain⟨rfl,rfl,rfl⟩:=key (by omega);exact hp hs
theorem Jy {A B:List (KT h)}{u v:KT h}{i:Nat}(hi:i=A.length∨(i=A.length+1∧B=[])):∃w,(w=u∨w=v)∧((A++u::v::B).map Prod.fst).getD ((i:Int)).toNat 0=w.1∧((i=A.length∧w=u)∨(i=A.length+1∧B=[]∧w=v)):=by
 rcases hi with rfl| ⟨rfl,rfl⟩
 ·exact⟨u,.inl rfl,by simp[List.getD_eq_getElem?_getD],.inl ⟨rfl,rfl⟩⟩
 ·exact⟨v,.inr rfl,by rw[show((A.length+1:Nat):Int).toNat=A.length+1 by omega];simp[List.getD_eq_getElem?_getD],.inr ⟨rfl,rfl,rfl⟩⟩
theorem Df (hr:room<=16384){K:List (KT h)}{ss:List ByteArray}(R:Rw room d S h K ss){i:Nat}(hi:i<K.length)(hk:KP K ss i){depth:Int}(hd:depth+1<24)(rec:pQ):
  fL rec room d S (aV (h+1) (bI K ss)) depth (i:Int) (min (i:Int) ((K.length:Int)-2))=some ((aV (h+1) (bI K ss),false,0),S):=by
 have hl:ss.length+1=K.length:=by rcases R.ln with e| ⟨e1,e2⟩;exact e;rw[e1]at hi;simp at hi
 by_cases h2:2<=K.length
 ·obtain⟨A,u,v,B,sA,k,sB,rfl,rfl,hA,hB,hm,hi'⟩:=De hl h2 hi;obtain⟨w,hw,N0,Ym⟩:=Jy (A:=A) (B:=B) (u:=u) (v:=v) hi';rw[hm];refine Dd hr R hA hd hw N0 (fun hs=>?_) rec;have:=hk A u v B sA k sB rfl rfl hA;rcases Ym with⟨e1,rfl⟩| ⟨e1,e2,rfl⟩
  ·exact this.1 e1 hs
  ·exact this.2 e2 e1 hs
 ·unfold fL;rw[if_pos (by omega)]
theorem il (hr:room<=16384){K:List (KT h)}{ss:List ByteArray}(R:Rw room d S h K ss)(hk:∀j,KP K ss j){depth:Int}(hd:depth+1<24):∀(f i:Nat) (tt:Int),(tt-i).toNat+1<=f->aZ room d f S (aV (h+1) (bI K ss)) depth (i:Int) tt=some ((aV (h+1) (bI K ss),0),S)
 |0,_,_,hf=>by omega
 |f+1,i,tt,hf=>by
  by_cases hlt:(i:Int)<min tt (((aV (h+1) (bI K ss)).ks.length:Nat):Int)
  ·have hlen:(aV (h+1) (bI K ss)).ks.length=K.length:=by rw[bU];simp
   have hj:=Df (S:=S) hr R (i:=i) (by rw[hlen]at hlt;omega) (hk i) hd (fun S n depth i tt=>aZ room d f S n depth (max i 0) tt);rw[nX (R.sm hr) (by omega) hlt (by rw[hlen];exact hj)];have:=il hr R hk hd f (i+1) tt (by omega);rw[show((i+1:Nat):Int)=(i:Int)+1 by omega]at this;exact this
  ·exact jw (R.sm hr) (by omega) hlt
theorem Rw.one {A B:List (KT h)}{u v:KT h}{sA sB:List ByteArray}{k:ByteArray}{S2:Dr}{p:Int}{c:BT h}(R:Rw room d S h (A++u::v::B) (sA++k::sB))(hA:A.length=sA.length)(hB:B.length=sB.length)
    (wc:Wl h c)(zc:bS h c<=240)(ic:oL S2 d (nT (p,c)))(F:Fm room d 0 S (dN u++dN v) S2 (dN (p,c)))(sc:(cx h c).Sublist (cx h u.2++(true,k)::cx h v.2))(ec:dM h c=dM h u.2++dM h v.2):
    Rw room d S2 h (A++(p,c)::B) (sA++sB)∧Fm room d 0 S (aW (A++u::v::B)) S2 (aW (A++(p,c)::B))∧(dw (A++(p,c)::B) (sA++sB)).Sublist (dw (A++u::v::B) (sA++k::sB))∧bD (A++(p,c)::B)=bD (A++u::v::B)∧bO (sA++sB)<=bO (sA++k::sB):=by
  have q1:((dN u++dN v)++(aW A++aW B)).Perm (aW (A++u::v::B)):=by
    rw[bc,bE,bE,<-List.append_assoc (dN u),<-List.append_assoc (aW A),<-List.append_assoc (dN u++dN v)];exact List.Perm.append_right _ List.perm_append_comm
  have q2:(dN (p,c)++(aW A++aW B)).Perm (aW (A++(p,c)::B)):=by
    rw[bc,bE,<-List.append_assoc,<-List.append_assoc];exact List.Perm.append_right _ List.perm_append_comm
  have N5:=q1.nodup_iff.2 R.nd;have us1:∀q∈aW A++aW B,Us S q:=fun q hq=>R.us q (q1.mem_iff.1 (List.mem_append_right _ hq));have E:=(F.ext us1 N5).perm q1 q2;have hne:∀q∈aW A++aW B,q∉dN u++dN v:=fun q hq hc=>(List.nodup_append.1 N5).2.2 q hc q hq rfl;have sf:(dw (A++(p,c)::B) (sA++sB)).Sublist (dw (A++u::v::B) (sA++k::sB)):=by
    rw[eO hA,p8 hA];refine List.Sublist.append (List.Sublist.refl _) ?_;have:=List.Sublist.append sc (List.Sublist.refl (jB (B.map fun u=>cx h u.2) sB));simpa using this
  have se:bD (A++(p,c)::B)=bD (A++u::v::B):=by
    rw[bQ,bQ,bV,bV,bV,ec,List.append_assoc]
  have sz:bO (sA++sB)<=bO (sA++k::sB):=by
    rw[dD,dD,bO];omega
  refine⟨⟨F.ok,fun w hw=>?_,E.us,E.nd,?_,R.od.sub sf,by rw[se];exact R.vl,Nat.le_trans sz R.sz,.inl (by simp;omega)⟩,E,sf,se,sz⟩
  · rcases List.mem_append.1 hw with hw|hw
    · exact R.wl w (by simp[hw])
    · rcases List.mem_cons.1 hw with rfl|hw
      · exact⟨wc,zc⟩
      · exact R.wl w (by simp[hw])
  · have Vd:oL S2 d (hZ A++hZ B):=F.NY (fun x hx=>R.is x (by
        rw[dg,dF,dF]
        simp only[List.mem_append]at hx⊢
        rcases hx with hx|hx
        · exact .inl hx
        · exact .inr (.inr (.inr hx)))) (by rw[List.map_append];exact us1) (by rw[List.map_append];exact hne)
    intro x hx;rw[dg,dF]at hx;simp only[List.mem_append]at hx;rcases hx with hx|hx|hx
    · exact Vd x (List.mem_append_left _ hx)
    · exact ic x hx
    · exact Vd x (List.mem_append_right _ hx)
theorem Rw.wF {A B:List (KT h)}{u v:KT h}{ss:List ByteArray}{S2:Dr}{e:Int}(R:Rw room d S h (A++u::v::B) ss)(E:Er room d 0 S (dN u++dN v) S2 e):Er room d 0 S (aW (A++u::v::B)) S2 e:=by
 have q1:((dN u++dN v)++(aW A++aW B)).Perm (aW (A++u::v::B)):=by
  rw[bc,bE,bE,<-List.append_assoc (dN u),<-List.append_assoc (aW A),<-List.append_assoc (dN u++dN v)];exact List.Perm.append_right _ List.perm_append_comm
 exact(E.ext (fun q hq=>R.us q (q1.mem_iff.1 (List.mem_append_right _ hq))) (q1.nodup_iff.2 R.nd)).perm q1
theorem gM (hr:room<=16384)(HJ:lG room d h){depth:Int}(hd:depth+1+h<24){m:Nat}:∀(f:Nat) (S:Dr) (K:List (KT h)) (ss:List ByteArray) (i tt:Nat),Rw room d S h K ss->(∀j,j<i->KP K ss j)->(∀j,tt<=j->KP K ss j)->3*(aW K).length+(tt-i)+1<=f->Bd S ((aW K).length+2+m)->
  ∃n e S1,aZ room d f S (aV (h+1) (bI K ss)) depth (i:Int) (tt:Int)=some ((n,e),S1)∧Er room d 0 S (aW K) S1 e∧(e=0->∃K' ss',n=aV (h+1) (bI K' ss')∧Rw room d S1 h K' ss'∧(∀j,KP K' ss' j)∧Fm room d 0 S (aW K) S1 (aW K')∧(dw K' ss').Sublist (dw K ss)∧bD K'=bD K∧bO ss'<=bO ss∧(K'=[]->K=[])∧(aW K').length<=(aW K).length)
 |0,_,_,_,_,_,_,_,_,hf,_=>by omega
 |f+1,S,K,ss,i,tt,R,k1,k2,hf,hb=>by
  have hlen:(aV (h+1) (bI K ss)).ks.length=K.length:=by rw[bU];simp
  by_cases hlt:(i:Int)<min (tt:Int) (((aV (h+1) (bI K ss)).ks.length:Nat):Int)
  ·have hi:i<K.length∧i<tt:=by rw[hlen]at hlt;omega
   by_cases hkp:KP K ss i
   ·have hj:=Df (S:=S) hr R hi.1 hkp (by omega:depth+1<24) (fun S n depth i tt=>aZ room d f S n depth (max i 0) tt);rw[nX (R.sm hr) (by omega) hlt (by rw[hlen];exact hj)];have:=gM hr HJ hd f S K ss (i+1) tt R (fun j hj=>if e:j=i then e▸hkp else k1 j (by omega)) k2 (by omega) hb;rw[show((i+1:Nat):Int)=(i:Int)+1 by omega]at this;exact this
   ·have hl:ss.length+1=K.length:=by rcases R.ln with e| ⟨e1,e2⟩;exact e;rw[e1]at hi;simp at hi
    have h2:2<=K.length:=by
     by_cases h2:2<=K.length
     ·exact h2
     ·exfalso;apply hkp;intro A' x y B' ES k' lF e1 e2 e3;have:=congrArg List.length e1;simp at this;omega
    obtain⟨A,u,v,B,sA,k,sB,rfl,rfl,hA,hB,hm,hi'⟩:=De hl h2 hi.1;obtain⟨w,hw,N0,Ym⟩:=Jy (A:=A) (B:=B) (u:=u) (v:=v) hi';have hiA:A.length<=i∧i<=A.length+1:=by rcases hi' with e| ⟨e,_⟩<;>omega
    have hsm:bS h w.2<80∧jz u k v<=240:=by
     by_cases hc:bS h w.2<80∧jz u k v<=240
     ·exact hc
     ·exfalso;apply hkp;apply Vc hA;rcases Ym with⟨e1,rfl⟩| ⟨e1,e2,rfl⟩
      ·exact .inl ⟨e1,fun hs=>by omega⟩
      ·exact .inr ⟨e1,e2,fun hs=>by omega⟩
    have hpl:(aW (A++u::v::B)).length=(aW A).length+(bn h u.2++bn h v.2).length+2+(aW B).length:=by
     rw[bc,bE,bE,bY,bY];simp only[List.length_append,List.length_cons];omega
    obtain⟨n,j,e,S2,j1,j2,j3⟩:=sJ (S:=S) (f:=f) (m:=m) hr HJ R hA hB hd hw N0 hsm.1 hsm.2 (by omega) (hb.mono (by omega));rw[<-hm]at j1;by_cases he:e=0
    ·subst he;obtain⟨rfl,p,c,rfl,wc,zc,zu,zv,ic,F,sc,ec,lc⟩:=j3 rfl;obtain⟨R2,E,sf,se,sz⟩:=R.one hA hB wc zc ic F sc ec;rw[lH (R.sm hr) (by omega) hlt (by rw[hlen];exact j1),hlen,hm];have aax:(aW (A++(p,c)::B)).length+1<=(aW (A++u::v::B)).length:=by
      rw[hpl,bc,bE];rw[bY,bY,bY]at lc;rw[bY];simp only[List.length_append,List.length_cons]at lc⊢;omega
     obtain⟨n',e',S',t1,t2,t3⟩:=gM (m:=m) hr HJ hd f S2 (A++(p,c)::B) (sA++sB) A.length tt R2 (fun j hj=>KP.one (c:=(p,c)) (k:=k) hA zu zv (fun _=>k1 j (by omega)) (fun hc=>by omega) (by omega)) (fun j hj=>KP.one (c:=(p,c)) (k:=k) hA zu zv (fun hc=>by omega) (fun _=>k2 (j+1) (by omega)) (by omega)) (by omega) (E.bd hb (by omega));refine⟨n',e',S',t1,E.er t2,fun h0=>?_⟩;obtain⟨K',ss',r1,r2,r3,r4,r5,r6,r7,r8,r9⟩:=t3 h0;exact⟨K',ss',r1,r2,r3,E.trans r4,r5.trans sf,r6.trans se,Nat.le_trans r7 sz,fun hc=>by have:=r8 hc;simp at this,by omega⟩
    ·rw[lI (R.sm hr) (by omega) hlt he (by rw[hlen];exact j1)];exact⟨_,_,_,rfl,R.wF j2,fun h0=>absurd h0 he⟩
  ·rw[jw (R.sm hr) (by omega) hlt];refine⟨_,0,_,rfl,fun h0=>absurd rfl h0,fun _=>⟨K,ss,rfl,R,fun j=>?_,Fm.refl R.sd R.us R.nd,List.Sublist.refl _,rfl,Nat.le_refl _,id,Nat.le_refl _⟩⟩;rw[hlen]at hlt;by_cases hj:j<i
   ·exact k1 j hj
   ·by_cases hj2:tt<=j
    ·exact k2 j hj2
    ·intro A' x y B' ES k' lF e1 e2 e3;have:=congrArg List.length e1;simp at this;exact⟨fun hc=>by omega,fun hB hc=>by omega⟩
end
end P
namespace P
open N
section
variable {room:Nat}{d:Dk}
theorem N6 (hr:room<=16384):lG room d 0:=by
 intro S a b k depth f m sd wa wb us nd is od vl hj hd hf hb;obtain⟨f,rfl⟩:∃f',f=f'+1:=⟨f-1,by omega⟩;rw[<-wD];refine⟨_,0,S,jw (kD _ (Nat.le_trans hj (by omega))) (by simp[aV];omega) (by simp[aV,tj];omega),fun h0=>absurd rfl h0,fun _=>⟨tj 0 a k b,rfl,?_,?_,?_,sD 0 a b k wa,Ju 0 a b k,?_,?_,hj,?_⟩⟩
 ·intro hc;exact wa (List.append_eq_nil_iff.1 hc).1
 ·rw[A7];exact is
 ·have e:bn 0 (tj 0 a k b)=bn 0 a++bn 0 b:=by simp[bn,A7]
  rw[e];exact Fm.refl sd us nd
 ·rw[nU];omega
 ·rw[nU];omega
 ·simp[bn,A7]
theorem wG {α:Type}{l:List α}{n:Nat}(h:n+1=l.length):∃A u,l=A++[u]∧A.length=n:=by
 refine⟨l.dropLast,l.getLast (fun e=>by rw[e]at h;simp at h),(List.dropLast_concat_getLast _).symm,?_⟩;simp;omega
theorem N7 (hr:room<=16384){h:Nat}(HJ:lG room d h):lG room d (h+1):=by
 intro S a b k depth f m sd wa wb us nd is od vl hj hd hf hb;obtain⟨Ka,sa,rfl⟩:=eZ a;obtain⟨Kb,sb,rfl⟩:=eZ b;rw[sI]at wa wb;obtain⟨A,u,rfl,hA⟩:=wG wa.1;obtain⟨v,B,rfl,hB⟩:=eh wb.1.symm;have Ve:∀x:List (KT h),(A++[u])++v::B=A++u::v::B:=fun _=>by simp
 have eJ:tj (h+1) (bI (A++[u]) sa) k (bI (v::B) sb)=bI (A++u::v::B) (sa++k::sb):=by rw[Jw,Ve []]
 have ePg:bn (h+1) (bI (A++[u]) sa)++bn (h+1) (bI (v::B) sb)=aW (A++u::v::B):=by
  show aW (A++[u])++aW (v::B)=_;rw[<-bc,Ve []]
 have eCl:lD (h+1) (bI (A++[u]) sa)++lD (h+1) (bI (v::B) sb)=hZ (A++u::v::B):=by
  rw[Px,Px,<-dg,Ve []]
 have eEn:dM (h+1) (bI (A++[u]) sa)++dM (h+1) (bI (v::B) sb)=bD (A++u::v::B):=by
  rw[oM,oM,<-bQ,Ve []]
 have eFl:cx (h+1) (bI (A++[u]) sa)++(true,k)::cx (h+1) (bI (v::B) sb)=dw (A++u::v::B) (sa++k::sb):=by
  rw[<-wE _ _ k wa.1,eJ,Jv]
 rw[eJ,sH]at hj;have e0:((aV (h+1) (bI (A++[u]) sa)).ks.length:Int)=(A.length:Int)+1:=by rw[bU];simp
 rw[<-wD,eJ,e0];rw[ePg]at us nd hf hb⊢;rw[eCl]at is;rw[eEn]at vl⊢;rw[eFl]at od⊢;have R:Rw room d S h (A++u::v::B) (sa++k::sb):=⟨sd,fun w hw=>by
  rw[<-Ve []]at hw
  rcases List.mem_append.1 hw with hw|hw
  ·exact wa.2.2 w hw
  ·exact wb.2.2 w hw,us,nd,is,od,vl,by omega,.inl (by simp;omega)⟩
 have hd':depth+1<24:=by omega
 have hd2:depth+1+h<24:=by omega
 have hlen:(aV (h+1) (bI (A++u::v::B) (sa++k::sb))).ks.length=A.length+B.length+2:=by rw[bU];simp;omega
 have hsz:bS (h+1) (bI (A++[u]) sa)=4+bO sa∧bS (h+1) (bI (v::B) sb)=4+bO sb:=⟨rfl,rfl⟩;have hsk:bO (sa++k::sb)=bO sa+(5+k.size+bO sb):=by rw[dD,bO]
 have hpl:(aW (A++u::v::B)).length=(aW A).length+(bn h u.2++bn h v.2).length+2+(aW B).length:=by
  rw[bc,bE,bE,bY,bY];simp only[List.length_append,List.length_cons];omega
 rw[show max ((A.length:Int)+1-1) 0=((A.length:Nat):Int) by omega,show(A.length:Int)+1+1=((A.length+2:Nat):Int) by omega];have fin:∀(f' i:Nat) (S2:Dr) (p:Int) (c:BT h) (w:KT h),f'+2>=f->Wl h c->bS h c<=240->bS h u.2<=bS h c->bS h v.2<=bS h c->oL S2 d (nT (p,c))->Fm room d 0 S (dN u++dN v) S2 (dN (p,c))->(cx h c).Sublist (cx h u.2++(true,k)::cx h v.2)->dM h c=dM h u.2++dM h v.2->(dN (p,c)).length+1<=(dN u++dN v).length->
   ∃n e S1,aZ room d f' S2 (aV (h+1) (bI (A++(p,c)::B) (sa++sb))) depth (A.length:Int) ((A.length+2:Nat):Int)=some ((n,e),S1)∧Er room d 0 S (aW (A++u::v::B)) S1 e∧(e=0->∃c,n=aV (h+1) c∧Wl (h+1) c∧oL S1 d (lD (h+1) c)∧Fm room d 0 S (aW (A++u::v::B)) S1 (bn (h+1) c)∧(cx (h+1) c).Sublist (dw (A++u::v::B) (sa++k::sb))∧dM (h+1) c=bD (A++u::v::B)∧bS (h+1) (bI (A++[u]) sa)<=bS (h+1) c∧bS (h+1) (bI (v::B) sb)<=bS (h+1) c∧bS (h+1) c<=240∧(bn (h+1) c).length<=(aW (A++u::v::B)).length):=by
  intro f' i S2 p c w hf' wc zc zu zv ic F sc ec lc;obtain⟨R2,E,sf,se,sz⟩:=R.one hA hB wc zc ic F sc ec;have hk:∀j,KP (A++(p,c)::B) (sa++sb) j:=KP.meet (c:=(p,c)) hA wa.2.1 wb.2.1 zu zv;rw[il hr R2 hk hd' f' A.length _ (by omega)];have z1:bS (h+1) (bI (A++(p,c)::B) (sa++sb))=4+(bO sa+bO sb):=by rw[sH,dD]
  refine⟨_,0,S2,rfl,fun h0=>absurd rfl h0,fun _=>⟨bI (A++(p,c)::B) (sa++sb),rfl,?_,R2.is,E,sf,se,?_,?_,?_,?_⟩⟩
  ·rw[sI];exact⟨by simp;omega,hk,R2.wl⟩
  ·rw[z1,hsz.1];omega
  ·rw[z1,hsz.2];omega
  ·rw[z1];omega
  ·have:bn (h+1) (bI (A++(p,c)::B) (sa++sb))=aW (A++(p,c)::B):=rfl;rw[this,hpl,bc,bE];rw[bY,bY,bY]at lc;rw[bY];simp only[List.length_append,List.length_cons]at lc⊢;omega
 by_cases c1:bS h u.2<80∧jz u k v<=240
 ·obtain⟨f,rfl⟩:∃f',f=f'+1:=⟨f-1,by omega⟩;have hlt:((A.length:Nat):Int)<min ((A.length+2:Nat):Int) (((aV (h+1) (bI (A++u::v::B) (sa++k::sb))).ks.length:Nat):Int):=by rw[hlen];omega
  have hm:min ((A.length:Nat):Int) ((((aV (h+1) (bI (A++u::v::B) (sa++k::sb))).ks.length:Nat):Int)-2)=(A.length:Int):=by rw[hlen];omega
  obtain⟨n,j,e,S2,j1,j2,j3⟩:=sJ (S:=S) (f:=f) (m:=m) (i:=(A.length:Int)) hr HJ R hA hB hd2 (.inl rfl) (by simp[List.getD_eq_getElem?_getD]) c1.1 c1.2 (by omega) (hb.mono (by omega));by_cases he:e=0
  ·subst he;obtain⟨rfl,p,c,rfl,wc,zc,zu,zv,ic,F,sc,ec,lc⟩:=j3 rfl;rw[lH (R.sm hr) (by omega) hlt (by rw[hm];exact j1),hm];exact fin f 0 S2 p c u (by omega) wc zc zu zv ic F sc ec lc
  ·rw[lI (R.sm hr) (by omega) hlt he (by rw[hm];exact j1)];exact⟨_,_,_,rfl,R.wF j2,fun h0=>absurd h0 he⟩
 ·by_cases c2:B=[]∧bS h v.2<80∧jz u k v<=240
  ·obtain⟨f,rfl⟩:∃f',f=f'+2:=⟨f-2,by omega⟩;obtain⟨rfl,c2,c3⟩:=c2;have hlen:(aV (h+1) (bI (A++[u,v]) (sa++k::sb))).ks.length=A.length+2:=by rw[hlen];simp
   have hlt:((A.length:Nat):Int)<min ((A.length+2:Nat):Int) (((aV (h+1) (bI (A++[u,v]) (sa++k::sb))).ks.length:Nat):Int):=by rw[hlen];omega
   have hm:min ((A.length:Nat):Int) ((((aV (h+1) (bI (A++[u,v]) (sa++k::sb))).ks.length:Nat):Int)-2)=(A.length:Int):=by rw[hlen];omega
   have hlt2:((A.length:Nat):Int)+1<min ((A.length+2:Nat):Int) (((aV (h+1) (bI (A++[u,v]) (sa++k::sb))).ks.length:Nat):Int):=by rw[hlen];omega
   have hm2:min (((A.length:Nat):Int)+1) ((((aV (h+1) (bI (A++[u,v]) (sa++k::sb))).ks.length:Nat):Int)-2)=(A.length:Int):=by rw[hlen];omega
   have hj0:=Dd (S:=S) hr R hA hd' (w:=u) (i:=(A.length:Int)) (.inl rfl) (by simp[List.getD_eq_getElem?_getD]) (fun hs=>by omega) (fun S n depth i tt=>aZ room d (f+1) S n depth (max i 0) tt);rw[nX (R.sm hr) (by omega) hlt (by rw[hm];exact hj0)];obtain⟨n,j,e,S2,j1,j2,j3⟩:=sJ (S:=S) (f:=f) (m:=m) (i:=(A.length:Int)+1) (w:=v) hr HJ R hA hB hd2 (.inr rfl) (by rw[show((A.length:Int)+1).toNat=A.length+1 by omega];simp[List.getD_eq_getElem?_getD]) c2 c3 (by omega) (hb.mono (by omega));by_cases he:e=0
   ·subst he;obtain⟨rfl,p,c,rfl,wc,zc,zu,zv,ic,F,sc,ec,lc⟩:=j3 rfl;rw[lH (R.sm hr) (by omega) hlt2 (by rw[hm2];exact j1),hm2];exact fin f 0 S2 p c u (by omega) wc zc zu zv ic F sc ec lc
   ·rw[lI (R.sm hr) (by omega) hlt2 he (by rw[hm2];exact j1)];exact⟨_,_,_,rfl,R.wF j2,fun h0=>absurd h0 he⟩
  ·have hk:∀j,KP (A++u::v::B) (sa++k::sb) j:=KP.glue hA wa.2.1 wb.2.1 ⟨fun hs=>by omega,fun hB0 hs=>by
    by_cases hc:jz u k v<=240
    ·exact absurd ⟨hB0,hs,hc⟩ c2
    ·omega⟩
   rw[il hr R hk hd' f A.length _ (by omega)];refine⟨_,0,S,rfl,fun h0=>absurd rfl h0,fun _=>⟨bI (A++u::v::B) (sa++k::sb),rfl,?_,R.is,Fm.refl R.sd R.us R.nd,List.Sublist.refl _,rfl,?_,?_,?_,Nat.le_refl _⟩⟩
   ·rw[sI];exact⟨by simp;omega,hk,R.wl⟩
   ·rw[sH,sH,hsk];omega
   ·rw[sH,sH,hsk];omega
   ·rw[sH];omega
theorem Jz (hr:room<=16384):∀h,lG room d h
 |0=>N6 hr
 |h+1=>N7 hr (Jz hr h)
end
end P
namespace P
open N
section
variable {room:Nat}{d:Dk}{S:Dr}{h:Nat}
theorem Bb {α:Type}{l:List α}{i:Nat}{x:α}(hx:l[i]? =some x):∃A B,l=A++x::B∧A.length=i:=by
 obtain⟨hi,rfl⟩:=List.getElem?_eq_some_iff.1 hx;refine⟨l.take i,l.drop (i+1),?_,by rw[List.length_take];omega⟩;rw[List.getElem_cons_drop,List.take_append_drop]
theorem Dg {α:Type}{l:List α}{i:Nat}{x y:α}(hx:l[i]? =some x)(hy:l[i+1]? =some y):∃A B,l=A++x::y::B∧A.length=i:=by
 obtain⟨A,B,rfl,hA⟩:=Bb hx;refine⟨A,B.drop 1,?_,hA⟩;subst hA;rw[List.getElem?_append_right (by omega),show A.length+1-A.length=1 by omega]at hy;cases B with
 |nil=>simp at hy
 |cons z B=>simp at hy;subst hy;simp
theorem nY {K:List (KT h)}{ss:List ByteArray}{j:Nat}:KP K ss j↔(∀a b k,K[j]? =some a->K[j+1]? =some b->ss[j]? =some k->bS h a.2<80->240<jz a k b)∧(∀i a b k,j=i+1->K.length=j+1->K[i]? =some a->K[i+1]? =some b->ss[i]? =some k->bS h b.2<80->240<jz a k b):=by
 constructor
 ·intro H;refine⟨fun a b k h1 h2 h3 hs=>?_,fun i a b k e1 e2 h1 h2 h3 hs=>?_⟩
  ·obtain⟨A,B,rfl,hA⟩:=Dg h1 h2;obtain⟨sA,sB,rfl,hS⟩:=Bb h3;exact(H A a b B sA k sB rfl rfl (by omega)).1 hA.symm hs
  ·obtain⟨A,B,rfl,hA⟩:=Dg h1 h2;obtain⟨sA,sB,rfl,hS⟩:=Bb h3;refine(H A a b B sA k sB rfl rfl (by omega)).2 ?_ (by omega) hs;simp at e2;exact List.length_eq_zero_iff.1 (by omega)
 ·rintro⟨H1,H2⟩ A a b B sA k sB rfl rfl hA;refine⟨fun hj hs=>?_,fun hB hj hs=>?_⟩
  ·subst hj;exact H1 a b k (by simp) (by simp) (by rw[hA];simp) hs
  ·subst hj hB;exact H2 A.length a b k rfl (by simp) (by simp) (by simp) (by rw[hA];simp) hs
theorem KP.same {K K':List (KT h)}{ss ss':List ByteArray}{i j:Nat}(H:KP K ss i)(e1:K'[j]? =K[i]?)(e2:K'[j+1]? =K[i+1]?)(e3:ss'[j]? =ss[i]?)
  (e4:K'.length=j+1->∀j',j=j'+1->∃i',i=i'+1∧K.length=i+1∧K'[j']? =K[i']? ∧ss'[j']? =ss[i']?):KP K' ss' j:=by
 rw[nY]at H⊢;refine⟨fun a b k h1 h2 h3 hs=>H.1 a b k (by rw[<-e1];exact h1) (by rw[<-e2];exact h2) (by rw[<-e3];exact h3) hs,fun j' a b k r1 r2 h1 h2 h3 hs=>?_⟩;obtain⟨i',f1,f2,f3,f4⟩:=e4 r2 j' r1;subst r1 f1;exact H.2 i' a b k rfl f2 (by rw[<-f3];exact h1) (by rw[<-e1];exact h2) (by rw[<-f4];exact h3) hs
theorem KP.ahead {A R R':List (KT h)}{s t t':List ByteArray}{j:Nat}(H:KP (A++R) (s++t) j)(hj:j+1<A.length)(hs:j<s.length):KP (A++R') (s++t') j:=by
 refine KP.same H ?_ ?_ ?_ (fun hl=>?_)
 ·rw[List.getElem?_append_left (by omega),List.getElem?_append_left (by omega)]
 ·rw[List.getElem?_append_left (by omega),List.getElem?_append_left (by omega)]
 ·rw[List.getElem?_append_left (by omega),List.getElem?_append_left (by omega)]
 ·simp at hl;omega
theorem KP.behind {L L' B:List (KT h)}{t t' sB:List ByteArray}{b:Nat}(H:KP (L++B) (t++sB) (L.length+b))(hb:1<=b)(hL:t.length=L.length∨(sB=[]∧B.length<=1))(hL':t'.length=L'.length∨(sB=[]∧B.length<=1)):KP (L'++B) (t'++sB) (L'.length+b):=by
 by_cases hB:b<B.length
 ·have h1:t.length=L.length:=by rcases hL with e| ⟨_,e⟩;exact e;omega
  have h2:t'.length=L'.length:=by rcases hL' with e| ⟨_,e⟩;exact e;omega
  have g:∀c,(L'++B)[L'.length+c]? =(L++B)[L.length+c]? :=fun c=>by
   rw[List.getElem?_append_right (by omega),List.getElem?_append_right (by omega)];congr 1;omega
  have g2:∀c,(t'++sB)[L'.length+c]? =(t++sB)[L.length+c]? :=fun c=>by
   rw[List.getElem?_append_right (by omega),List.getElem?_append_right (by omega)];congr 1;omega
  refine KP.same H (g b) (g (b+1)) (g2 b) (fun hl j' e=>?_);refine⟨L.length+(b-1),by omega,by simp at hl⊢;omega,?_,?_⟩
  ·rw[<-g,show j'=L'.length+(b-1) by omega]
  ·rw[<-g2,show j'=L'.length+(b-1) by omega]
 ·rw[nY];refine⟨fun a c k h1 _ _=>?_,fun i a c k e1 e2 h1 h2=>?_⟩
  ·rw[List.getElem?_append_right (by omega),List.getElem?_eq_none (by omega)]at h1;cases h1
  ·rw[List.getElem?_append_right (by omega),List.getElem?_eq_none (by omega)]at h2;cases h2
theorem KP.grow {A B:List (KT h)}{w c:KT h}{ss:List ByteArray}{j:Nat}(H:KP (A++w::B) ss j)(hj:j≠A.length)(hz:bS h w.2<=bS h c.2):KP (A++c::B) ss j:=by
 have g:∀i,i≠A.length->(A++c::B)[i]? =(A++w::B)[i]? :=fun i hi=>by
  by_cases hlt:i<A.length
  ·rw[List.getElem?_append_left hlt,List.getElem?_append_left hlt]
  ·rw[List.getElem?_append_right (by omega),List.getElem?_append_right (by omega)];obtain⟨q,hq⟩:∃q,i-A.length=q+1:=⟨i-A.length-1,by omega⟩;rw[hq];simp
 have gw:(A++w::B)[A.length]? =some w:=by simp
 have gc:(A++c::B)[A.length]? =some c:=by simp
 rw[nY]at H⊢;refine⟨fun a b k h1 h2 h3 hs=>?_,fun i a b k e1 e2 h1 h2 h3 hs=>?_⟩
 ·rw[g j hj]at h1;by_cases hq:j+1=A.length
  ·rw[hq,gc]at h2;cases h2;exact Nat.lt_of_lt_of_le (H.1 a w k h1 (by rw[hq];exact gw) h3 hs) (ik (Nat.le_refl _) hz)
  ·rw[g _ hq]at h2;exact H.1 a b k h1 h2 h3 hs
 ·rw[g (i+1) (by omega)]at h2;have el:(A++w::B).length=j+1:=by simp at e2⊢;omega
  by_cases hq:i=A.length
  ·rw[hq,gc]at h1;cases h1;exact Nat.lt_of_lt_of_le (H.2 i w b k e1 el (by rw[hq];exact gw) h2 h3 hs) (ik hz (Nat.le_refl _))
  ·rw[g _ hq]at h1;exact H.2 i a b k e1 el h1 h2 h3 hs
end
end P
namespace P
open N
def OI (F G:List It):Prop:=∀X Y,bP (X++(F++Y))->bP (X++(G++Y))
theorem OI.refl (F:List It):OI F F:=fun _ _ h=>h
theorem OI.trans {F G H:List It}(h1:OI F G)(h2:OI G H):OI F H:=fun X Y h=>h2 X Y (h1 X Y h)
theorem OI.sub {F G:List It}(s:G.Sublist F):OI F G:=fun X Y h=>h.sub (List.Sublist.append (List.Sublist.refl _) (List.Sublist.append s (List.Sublist.refl _)))
theorem OI.ctx {F G:List It}(h:OI F G)(U V:List It):OI (U++(F++V)) (U++(G++V)):=fun X Y hx=>by
 have:=h (X++U) (V++Y) (by simpa using hx);simpa using this
theorem N8 {F1 F2:List It}{e k:ByteArray}(hF:∀x∈F1,x.1=false):OI ((false,e)::(F1++(false,k)::F2)) ((false,e)::(F1++(true,k)::(false,k)::F2)):=fun X Y ho=>by
 have hek:bh e k=true:=by
  have h1:=(List.pairwise_append.1 ho.up).2.1;rw[List.cons_append,List.pairwise_cons]at h1;have:=h1.1 (false,k) (by simp);simpa[RI]using this
 have e1:X++((false,e)::(F1++(false,k)::F2)++Y)=(X++(false,e)::F1)++((false,k)::(F2++Y)):=by simp
 have e2:X++((false,e)::(F1++(true,k)::(false,k)::F2)++Y)=(X++(false,e)::F1)++((true,k)::(false,k)::(F2++Y)):=by simp
 rw[e1]at ho;rw[e2];obtain⟨p1,p2,p3⟩:=List.pairwise_append.1 ho.up;obtain⟨p4,p5⟩:=List.pairwise_cons.1 p2;have hlt:∀x∈X++(false,e)::F1,bh x.2 k=true:=fun x hx=>by
  have h0:=p3 x hx (false,k) (by simp);by_cases hb:x.1=true
  ·rcases List.mem_append.1 hx with hx|hx
   ·have h1:=(List.pairwise_append.1 p1).2.2 x hx (false,e) (by simp);have h2:bh e x.2=false:=by simpa[RI,hb]using h1
    by_cases he:e=x.2
    ·rw[<-he];exact hek
    ·exact cT (fN h2 he) hek
   ·rcases List.mem_cons.1 hx with rfl|hx
    ·cases hb
    ·rw[hF x hx]at hb;cases hb
  ·simpa[RI,hb]using h0
 refine⟨List.pairwise_append.2 ⟨p1,List.pairwise_cons.2 ⟨fun y hy=>?_,p2⟩,fun x hx y hy=>?_⟩,fun x hx=>?_⟩
 ·rcases List.mem_cons.1 hy with rfl|hy
  ·simp[RI,dt]
  ·have:=p4 y hy;unfold RI at this⊢;by_cases hb:y.1=true
   ·simpa[hb]using this
   ·simp[hb]at this⊢;exact fq this
 ·rcases List.mem_cons.1 hy with rfl|hy
  ·simpa[RI]using hlt x hx
  ·exact p3 x hx y hy
 ·rcases List.mem_append.1 hx with hx|hx
  ·exact ho.sz x (List.mem_append_left _ hx)
  ·rcases List.mem_cons.1 hx with rfl|hx
   ·exact ho.sz (false,k) (by simp)
   ·exact ho.sz x (List.mem_append_right _ hx)
section
variable {room:Nat}{d:Dk}{S:Dr}{h:Nat}
def Ob (room:Nat)(d:Dk)(S:Dr):(h:Nat)->BT h->Prop
 |0,l=>Sd room S∧bP (cx 0 l)∧(∀x∈(show List En from l),x.2.size<=40)∧cA l<=298
 |h+1,t=>Rw room d S h t.1 t.2∧(∀j,KP t.1 t.2 j)∧bO t.2<=257
def Si (room:Nat)(d:Dk)(S:Dr)(h:Nat)(t:BT h)(parts:List Nd)(keys:List ByteArray)(S1:Dr):Prop:=
 (parts=[]∧keys=[]∧S1=S∧bn h t=[]∧dM h t=[]∧cx h t=[])∨
 (parts=[aV h t]∧keys=[]∧S1=S∧Wl h t∧bS h t<=240∧cE (aV h t)=true)∨
 (∃c1 c2 k,parts=[aV h c1,aV h c2]∧keys=[k]∧Wl h c1∧Wl h c2∧bS h c1<=240∧bS h c2<=240∧cE (aV h c1)=true∧cE (aV h c2)=true∧oL S1 d (lD h c1++lD h c2)∧Fm room d 0 S (bn h t) S1 (bn h c1++bn h c2)∧OI (cx h t) (cx h c1++(true,k)::cx h c2)∧dM h t=dM h c1++dM h c2∧(bn h c1++bn h c2).length<=(bn h t).length)
theorem k7 {x:En}(h1:x.1.size<=16)(h2:x.2.size<=40):kf x<=58:=by unfold kf;omega
theorem N9 {l:List En}(hx:∀x∈l,kf x<=58)(h1:240<cA l)(h2:cA l<=298):2<=l.length∧cA (l.take (ei l))<=240∧cA (l.drop (ei l))<=240:=by
 have hl:5<=l.length:=by
  have:=kg hx;omega
 obtain⟨q1,q2,q3,q4⟩:=Ag (l:=l) (by omega);have hsum:cA (l.take (ei l))+cA (l.drop (ei l))=cA l:=by rw[<-jq,List.take_append_drop]
 have hstep:cA (l.take (ei l))=cA (l.take (ei l-1))+kf l[ei l-1]! :=by
  have:=jP (l:=l) (i:=ei l-1) (by omega)
  rwa [show ei l-1+1=ei l by omega]at this
 have he:kf l[ei l-1]! <=58:=by
  rw[getElem!_pos l (ei l-1) (by omega)];exact hx _ (List.getElem_mem _)
 refine⟨by omega,?_,?_⟩
 ·rcases q4 with q4|q4
  ·have h0:l.take (ei l-1)=[]:=by rw[q4];rfl
   rw[h0]at hstep;have h1:cA ([]:List En)=0:=rfl;omega
  ·omega
 ·rcases q3 with q3|q3
  ·omega
  ·have:(l.drop (ei l)).length=1:=by rw[List.length_drop];omega
   have:=kg (l:=l.drop (ei l)) (b:=58) (fun x hx'=>hx x (List.mem_of_mem_drop hx'));omega
theorem JA (hr:room<=16384)(l:List En)(ho:Ob room d S 0 l)(depth:Int){f:Nat}(hf:1<=f):
  ∃parts keys,bX (bu room d f) S (aV 0 l) depth=some ((parts,keys,0),S)∧Si room d S 0 l parts keys S:=by
 obtain⟨sd,od,vl,sz⟩:=ho;have od':bP (l.map fun(x:En)=>((false,x.1):It)):=od;have hrt:=kC l od vl;unfold bX;by_cases h0:l=[]
 ·subst h0;exact⟨[],[],by simp[aV],.inl ⟨rfl,rfl,rfl,rfl,rfl,rfl⟩⟩
 ·rw[if_neg (by simp[aV,h0]),if_neg (by rw[kD l (Nat.le_trans (show bS 0 l<=298 from sz) (by omega))];simp),if_neg (by rw[hrt];simp)];by_cases hfi:cE (aV 0 l)=true
  ·rw[if_pos hfi];refine⟨_,_,rfl,.inr (.inl ⟨rfl,rfl,rfl,h0,?_,hfi⟩)⟩;unfold cE at hfi;rw[Bool.and_eq_true,decide_eq_true_eq]at hfi;exact hfi.2
  ·rw[if_neg hfi];have hbig:240<cA l:=by
    by_cases hc:cA l<=240
    ·exfalso;apply hfi;unfold cE;rw[hrt,Bool.true_and];exact decide_eq_true hc
    ·omega
   have hx:∀x∈l,kf x<=58:=fun x hx=>k7 (od'.sz (false,x.1) (List.mem_map_of_mem (f:=fun(x:En)=>((false,x.1):It)) hx)).2 (vl x hx);obtain⟨g1,g2,g3⟩:=N9 hx hbig sz;obtain⟨q1,q2,_,_⟩:=Ag g1;have hen:vJ (aV 0 l)=true:=by
    unfold vJ;rw[hrt,Bool.true_and,Bool.or_eq_true];exact .inl (decide_eq_true g1)
   have eA:sA (aV 0 l)=aV 0 (l.take (ei l)):=by unfold sA;rw[if_pos hen];rfl
   have eB:sB (aV 0 l)=aV 0 (l.drop (ei l)):=by unfold sB;rw[if_pos hen];rfl
   have eM:sM (aV 0 l)=l[ei l]!.1:=by unfold sM;rw[if_pos hen];rfl
   have oA:bP (cx 0 (l.take (ei l))):=od.sub (by
    show(List.map _ (l.take (ei l))).Sublist (List.map _ l)
    exact(List.take_sublist _ _).map _)
   have oB:bP (cx 0 (l.drop (ei l))):=od.sub (by
    show(List.map _ (l.drop (ei l))).Sublist (List.map _ l)
    exact(List.drop_sublist _ _).map _)
   have fA:cE (aV 0 (l.take (ei l)))=true:=by
    unfold cE;rw[kC _ oA (fun x hx=>vl x (List.mem_of_mem_take hx)),Bool.true_and];exact decide_eq_true g2
   have fB:cE (aV 0 (l.drop (ei l)))=true:=by
    unfold cE;rw[kC _ oB (fun x hx=>vl x (List.mem_of_mem_drop hx)),Bool.true_and];exact decide_eq_true g3
   obtain⟨f,rfl⟩:∃f',f=f'+1:=⟨f-1,by omega⟩;have hst:bu room d (f+1) S (aV 0 (l.take (ei l))) depth (((aV 0 (l.take (ei l))).ks.length:Int)-1) ((aV 0 (l.take (ei l))).ks.length:Int)=some ((aV 0 (l.take (ei l)),0),S):=
    jw (kD _ (Nat.le_trans (show bS 0 _<=240 from g2) (by omega))) (by simp[aV];omega) (by simp[aV];omega)
   rw[eA,eB,eM,hst];simp only[fA,fB];refine⟨_,_,by simp,.inr (.inr ⟨l.take (ei l),l.drop (ei l),l[ei l]!.1,rfl,rfl,?_,?_,g2,g3,fA,fB,?_,?_,?_,?_,Nat.le_refl _⟩)⟩
   ·show l.take (ei l)≠[];intro hc;have:=congrArg List.length hc;rw[List.length_take,List.length_nil]at this;omega
   ·show l.drop (ei l)≠[];intro hc;have:=congrArg List.length hc;rw[List.length_drop,List.length_nil]at this;omega
   ·intro x hx;cases hx
   ·exact Fm.refl sd (fun p hp=>by cases hp) List.nodup_nil
   ·obtain⟨e,l1,r1,_⟩:=eh (l:=l.take (ei l)) (n:=ei l-1) (by rw[List.length_take];omega);have r2:l.drop (ei l)=l[ei l]! ::l.drop (ei l+1):=by
     rw[getElem!_pos l (ei l) q2,List.getElem_cons_drop]
    have r3:l=e::(l1++l[ei l]! ::l.drop (ei l+1)):=by
     rw[<-r2,<-List.cons_append,<-r1,List.take_append_drop]
    have k1:cx 0 l=(false,e.1)::(l1.map (fun(x:En)=>((false,x.1):It))++(false,l[ei l]!.1)::(l.drop (ei l+1)).map (fun(x:En)=>((false,x.1):It))):=by
     show List.map (fun(x:En)=>((false,x.1):It)) l=_
     conv=>lhs;rw[r3]
     simp
    have k2:cx 0 (l.take (ei l))=(false,e.1)::l1.map (fun(x:En)=>((false,x.1):It)):=by
     show List.map (fun(x:En)=>((false,x.1):It)) (l.take (ei l))=_;rw[r1];simp
    have k3:cx 0 (l.drop (ei l))=(false,l[ei l]!.1)::(l.drop (ei l+1)).map (fun(x:En)=>((false,x.1):It)):=by
     show List.map (fun(x:En)=>((false,x.1):It)) (l.drop (ei l))=_;rw[r2];simp
    rw[k1,k2,k3];have:=N8 (F1:=l1.map (fun(x:En)=>((false,x.1):It))) (F2:=(l.drop (ei l+1)).map (fun(x:En)=>((false,x.1):It))) (e:=e.1) (k:=l[ei l]!.1) (fun x hx=>by
     obtain⟨y,_,rfl⟩:=List.mem_map.1 hx
     rfl)
    simpa using this
   ·show l=l.take (ei l)++l.drop (ei l);rw[List.take_append_drop]
theorem Dh {l:List ByteArray}(hlt:∀s∈l,1<=s.size):6*l.length<=bO l:=by
 induction l with
 |nil=>simp
 |cons x l ih=>
  have h1:=hlt x (List.mem_cons_self ..);have h2:=ih fun y hy=>hlt y (List.mem_cons_of_mem _ hy);simp only[bO,List.length_cons];omega
theorem Rw.part {A B:List (KT h)}{sA sB:List ByteArray}{k:ByteArray}(R:Rw room d S h (A++B) (sA++k::sB))(hA:sA.length+1=A.length)(hB:sB.length+1=B.length):
  Rw room d S h A sA∧Rw room d S h B sB∧dw (A++B) (sA++k::sB)=dw A sA++(true,k)::dw B sB:=by
 have eF:dw (A++B) (sA++k::sB)=dw A sA++(true,k)::dw B sB:=wE (bI A sA) (bI B sB) k hA;have od:=R.od;rw[eF]at od;have hsz:bO (sA++k::sB)=bO sA+(5+k.size+bO sB):=by rw[dD,bO]
 have:=R.sz;refine⟨⟨R.sd,fun u hu=>R.wl u (by simp[hu]),fun p hp=>R.us p (by rw[bc];simp[hp]),?_,fun x hx=>R.is x (by rw[dg];simp[hx]),od.sub (List.sublist_append_left _ _),fun x hx=>R.vl x (by rw[bQ];simp[hx]),by omega,.inl hA⟩,
  ⟨R.sd,fun u hu=>R.wl u (by simp[hu]),fun p hp=>R.us p (by rw[bc];simp[hp]),?_,fun x hx=>R.is x (by rw[dg];simp[hx]),od.sub (List.Sublist.trans (List.sublist_cons_self _ _) (List.sublist_append_right _ _)),fun x hx=>R.vl x (by rw[bQ];simp[hx]),by omega,.inl hB⟩,eF⟩
 ·have:=R.nd;rw[bc]at this;exact(List.nodup_append.1 this).1
 ·have:=R.nd;rw[bc]at this;exact(List.nodup_append.1 this).2.1
theorem ET (hr:room<=16384)(HJ:lG room d h)(K:List (KT h))(ss:List ByteArray)(ho:Ob room d S (h+1) (bI K ss)){depth:Int}(hd:depth+1+h<24){f m:Nat}(hf:3*(aW K).length+2<=f)(hb:Bd S ((aW K).length+2+m)):
  ∃parts keys e S1,bX (bu room d f) S (aV (h+1) (bI K ss)) depth=some ((parts,keys,e),S1)∧Er room d 0 S (aW K) S1 e∧(e=0->Si room d S (h+1) (bI K ss) parts keys S1):=by
 obtain⟨R,hk,hz⟩:=ho;have R:Rw room d S h K ss:=R;have hk:∀j,KP K ss j:=hk;have hz:bO ss<=257:=hz;unfold bX;by_cases h0:K=[]
 ·subst h0;have hs:ss=[]:=by
   rcases R.ln with e| ⟨_,e⟩
   ·simp at e
   ·exact e
  subst hs;exact⟨[],[],0,S,by simp[bU],fun hc=>absurd rfl hc,fun _=>.inl ⟨rfl,rfl,rfl,rfl,rfl,rfl⟩⟩
 ·have hl:ss.length+1=K.length:=by
   rcases R.ln with e| ⟨e,_⟩
   ·exact e
   ·exact absurd e h0
  have hrt:=iY hr R.sd K ss hl R.us R.od;rw[if_neg (by simp[bU,h0]),if_neg (by rw[R.sm hr];simp),if_neg (by rw[hrt];simp)];by_cases hfi:cE (aV (h+1) (bI K ss))=true
  ·rw[if_pos hfi];refine⟨_,_,0,_,rfl,fun hc=>absurd rfl hc,fun _=>.inr (.inl ⟨rfl,rfl,rfl,?_,?_,hfi⟩)⟩
   ·rw[sI];exact⟨hl,hk,R.wl⟩
   ·unfold cE at hfi;rw[Bool.and_eq_true,decide_eq_true_eq]at hfi;exact hfi.2
  ·rw[if_neg hfi];have hbig:240<4+bO ss:=by
    by_cases hc:4+bO ss<=240
    ·exfalso;apply hfi;unfold cE;rw[hrt,Bool.true_and];exact decide_eq_true hc
    ·omega
   have QY:∀s∈ss,1<=s.size∧s.size<=16:=fun s hs=>vE ((ft (n:=aV (h+1) (bI K ss)) rfl).1 hrt).2.2.2.2 hs;have hn:12<=ss.length:=by
    have:=uv (l:=ss) (b:=16) (fun s hs=>(QY s hs).2);omega
   obtain⟨q,hq⟩:∃q,q=K.length/2:=⟨_,rfl⟩;obtain⟨k,sb,r3,l3⟩:=eh (l:=ss.drop (q-1)) (n:=ss.length-q) (by rw[List.length_drop];omega);have hss:ss=ss.take (q-1)++k::sb:=by rw[<-r3,List.take_append_drop]
   have hK:K=K.take q++K.drop q:=(List.take_append_drop q K).symm;have lA:(K.take q).length=q:=by rw[List.length_take];omega
   have lB:(K.drop q).length=K.length-q:=List.length_drop ..;have la:(ss.take (q-1)).length=q-1:=by rw[List.length_take];omega
   have hM:ss[q-1]! =k:=by
    conv=>lhs;rw[hss]
    rw[getElem!_pos _ _ (by simp;omega),List.getElem_append_right (by omega)];simp[la]
   have hD:ss.drop q=sb:=by
    have:=congrArg (List.drop 1) r3;rw[List.drop_drop,show q-1+1=q by omega]at this;simpa using this
   have hen:vJ (aV (h+1) (bI K ss))=true:=by
    unfold vJ;rw[hrt,Bool.true_and,Bool.or_eq_true];refine .inr (decide_eq_true ?_);rw[bU];simp;omega
   have hsp:G8 (aV (h+1) (bI K ss))=q:=by rw[bU];simp[G8,hq]
   have eA:sA (aV (h+1) (bI K ss))=aV (h+1) (bI (K.take q) (ss.take (q-1))):=by
    unfold sA;rw[if_pos hen];unfold VV;rw[hsp];simp[bU,List.map_take]
   have eB:sB (aV (h+1) (bI K ss))=aV (h+1) (bI (K.drop q) sb):=by
    unfold sB;rw[if_pos hen];unfold W5;rw[hsp];simp[bU,List.map_drop,hD]
   have eM:sM (aV (h+1) (bI K ss))=k:=by
    unfold sM;rw[if_pos hen];have:W6 (aV (h+1) (bI K ss))=ss[G8 (aV (h+1) (bI K ss))-1]! :=rfl;rw[this,hsp];exact hM
   rw[eA,eB,eM];generalize K.take q=A at*;generalize K.drop q=B at*;generalize ss.take (q-1)=sa at*;subst hss hK;simp only[List.length_append,List.length_cons]at*;have Yn:sb.length+1=B.length:=by omega
   obtain⟨RA,RB,eF⟩:=R.part (by omega) Yn;have aay:bO (sa++k::sb)=bO sa+(5+k.size+bO sb):=by rw[dD,bO]
   have z1:=Dh (l:=sa) (fun s hs=>(QY s (by simp[hs])).1);have z2:=Dh (l:=sb) (fun s hs=>(QY s (by simp[hs])).1);have z3:=(QY k (by simp)).1;have Yo:(aW (A++B)).length=(aW A).length+(aW B).length:=by rw[bc,List.length_append]
   have e0:((aV (h+1) (bI A sa)).ks.length:Int)=(A.length:Int):=by rw[bU];simp
   obtain⟨n,e,S1,t1,t2,t3⟩:=gM (m:=m) hr HJ hd f S A sa (A.length-1) A.length RA (fun j hj=>by
     have:=KP.ahead (R':=[]) (t':=[]) (hk j) (A:=A) (s:=sa) (by omega) (by omega)
     simpa using this) (fun j hj=>by
     rw[nY]
     refine⟨fun a b k h1=>?_,fun i a b k e1 e2=>by omega⟩
     rw[List.getElem?_eq_none (by omega)]at h1
     cases h1) (by omega) (hb.mono (by omega))
   have t1':bu room d f S (aV (h+1) (bI A sa)) depth (((aV (h+1) (bI A sa)).ks.length:Int)-1) ((aV (h+1) (bI A sa)).ks.length:Int)=some ((n,e),S1):=by
    rw[e0];unfold bu;rw[show max ((A.length:Int)-1) 0=((A.length-1:Nat):Int) by omega];exact t1
   rw[t1'];simp only;by_cases he:e=0
   ·subst he;obtain⟨K',ss',rfl,R2,k2,F2,sf,se,sz,hne,hlp⟩:=t3 rfl;have EU:=R.nd;rw[bc]at EU;have E:=F2.ext (Y:=aW B) RB.us EU;have lk:ss'.length+1=K'.length:=by
     rcases R2.ln with e| ⟨e,_⟩
     ·exact e
     ·have:=hne e;rw[this]at lA;simp at lA;omega
    have fA:cE (aV (h+1) (bI K' ss'))=true:=by
     unfold cE;rw[iY hr R2.sd K' ss' lk R2.us R2.od,Bool.true_and];exact decide_eq_true (show 4+bO ss'<=240 by omega)
    have fB:cE (aV (h+1) (bI B sb))=true:=by
     unfold cE;rw[iY hr RB.sd B sb Yn RB.us RB.od,Bool.true_and];exact decide_eq_true (show 4+bO sb<=240 by omega)
    rw[if_neg (by simp),fA,fB,if_pos (by simp)];refine⟨_,_,0,S1,rfl,fun hc=>absurd rfl hc,fun _=>.inr (.inr ⟨bI K' ss',bI B sb,k,rfl,rfl,?_,?_,?_,?_,fA,fB,?_,?_,?_,?_,?_⟩)⟩
    ·rw[sI];exact⟨lk,k2,R2.wl⟩
    ·rw[sI];refine⟨Yn,fun j=>?_,RB.wl⟩;by_cases hj:j=0
     ·subst hj;refine KP.same (hk A.length) ?_ ?_ ?_ (fun _ j' e=>by omega)
      ·rw[List.getElem?_append_right (by omega)];simp
      ·rw[List.getElem?_append_right (by omega)];simp
      ·rw[show A.length=sa.length+1 by omega,List.getElem?_append_right (by omega)];simp
     ·have:=KP.behind (L':=[]) (t':=[]) (L:=A) (t:=sa++[k]) (B:=B) (sB:=sb) (b:=j) (by simpa using hk (A.length+j)) (by omega) (.inl (by simp;omega)) (.inl rfl);simpa using this
    ·show 4+bO ss'<=240;omega
    ·show 4+bO sb<=240;omega
    ·intro x hx;rcases List.mem_append.1 hx with hx|hx
     ·exact R2.is x hx
     ·exact F2.NY RB.is RB.us (fun p hp hc=>(List.nodup_append.1 EU).2.2 p hc p hp rfl) x hx
    ·show Fm room d 0 S (aW (A++B)) S1 (aW K'++aW B);rw[bc];exact E
    ·show OI (dw (A++B) (sa++k::sb)) (dw K' ss'++(true,k)::dw B sb);rw[eF];exact OI.sub (List.Sublist.append sf (List.Sublist.refl _))
    ·show bD (A++B)=bD K'++bD B;rw[bQ,se]
    ·show(aW K'++aW B).length<=(aW (A++B)).length;rw[Yo,List.length_append];omega
   ·rw[if_pos he];refine⟨_,_,e,_,rfl,?_,fun hc=>absurd hc he⟩;have EU:=R.nd;rw[bc]at EU⊢;exact t2.ext RB.us EU
end
end P
namespace P
open N
section
variable {room:Nat}{d:Dk}{S S2:Dr}{h:Nat}{A B M:List (KT h)}{sA sB fx:List ByteArray}{w:KT h}
theorem Sk (hr:room<=16384)(HJ:∀h,lG room d h)(t:BT h)(ho:Ob room d S h t){depth:Int}(hd:depth+h<24){f m:Nat}(hf:3*(bn h t).length+2<=f)(hb:Bd S ((bn h t).length+2+m)):
  ∃parts keys e S1,bX (bu room d f) S (aV h t) depth=some ((parts,keys,e),S1)∧Er room d 0 S (bn h t) S1 e∧(e=0->Si room d S h t parts keys S1):=by
 cases h with
 |zero=>
  obtain⟨parts,keys,h1,h2⟩:=JA hr t ho depth (f:=f) (by omega);exact⟨parts,keys,0,S,h1,fun hc=>absurd rfl hc,fun _=>h2⟩
 |succ h=>
  obtain⟨K,ss,rfl⟩:=eZ t;exact ET hr (HJ h) K ss ho (by omega) hf hb
structure Ctx (room:Nat)(d:Dk)(S:Dr)(h:Nat)(A:List (KT h))(sA:List ByteArray)(B:List (KT h))(sB:List ByteArray):Prop where
 hA:A.length=sA.length
 hB:B.length=sB.length
 wl:∀u∈A++B,Wl h u.2∧bS h u.2<=240
 us:∀q∈aW A++aW B,Us S q
 is:oL S d (hZ A++hZ B)
 vl:∀x∈bD A++bD B,x.2.size<=40
theorem Ctx.row (C:Ctx room d S h A sA B sB){c:Nat}{X:List Int}(F:Fm room d c S X S2 (aW M))(nd:(X++(aW A++aW B)).Nodup)(is:oL S2 d (hZ M))(wl:∀u∈M,Wl h u.2∧bS h u.2<=240)(od:bP (dw (A++(M++B)) fx))(vl:∀x∈bD M,x.2.size<=40)(sz:bO fx<=1000)(ln:fx.length+1=(A++(M++B)).length∨(A++(M++B)=[]∧fx=[])):
  Rw room d S2 h (A++(M++B)) fx∧Fm room d c S (X++(aW A++aW B)) S2 (aW (A++(M++B))):=by
 have q:(aW M++(aW A++aW B)).Perm (aW (A++(M++B))):=by
  rw[bc,bc,<-List.append_assoc,<-List.append_assoc];exact List.Perm.append_right _ List.perm_append_comm
 have E:=(F.ext C.us nd).perm (List.Perm.refl _) q;have hne:∀q∈aW A++aW B,q∉X:=fun q hq hc=>(List.nodup_append.1 nd).2.2 q hc q hq rfl;have Vd:oL S2 d (hZ A++hZ B):=F.NY C.is (by rw[List.map_append];exact C.us) (by rw[List.map_append];exact hne);refine⟨⟨F.ok,fun u hu=>?_,E.us,E.nd,fun x hx=>?_,od,fun x hx=>?_,sz,ln⟩,E⟩
 ·simp only[List.mem_append]at hu;rcases hu with hu|hu|hu
  ·exact C.wl u (by simp[hu])
  ·exact wl u hu
  ·exact C.wl u (by simp[hu])
 ·rw[dg,dg]at hx;simp only[List.mem_append]at hx;rcases hx with hx|hx|hx
  ·exact Vd x (by simp[hx])
  ·exact is x hx
  ·exact Vd x (by simp[hx])
 ·rw[bQ,bQ]at hx;simp only[List.mem_append]at hx;rcases hx with hx|hx|hx
  ·exact C.vl x (by simp[hx])
  ·exact vl x hx
  ·exact C.vl x (by simp[hx])
theorem Sl (hA:A.length=sA.length)(hk:∀j,KP (A++w::B) (sA++sB) j)(R':List (KT h))(t':List ByteArray){j:Nat}(hj:j+1<A.length):KP (A++R') (sA.take (A.length-1)++t') j:=by
 have e:sA++sB=sA.take (A.length-1)++(sA.drop (A.length-1)++sB):=by rw[<-List.append_assoc,List.take_append_drop]
 have:=hk j;rw[e]at this;exact this.ahead hj (by rw[List.length_take];omega)
theorem Sn (hA:A.length=sA.length){y:KT h}{B':List (KT h)}{s1:ByteArray}{lF:List ByteArray}(hk:∀j,KP (A++w::y::B') (sA++s1::lF) j)(L':List (KT h))(t':List ByteArray)(hl:t'.length=L'.length){b:Nat}(hb:1<=b):KP (L'++y::B') (t'++lF) (L'.length+b):=by
 have:=hk ((A++[w]).length+b);rw[show A++w::y::B'=(A++[w])++y::B' by simp,show sA++s1::lF=(sA++[s1])++lF by simp]at this;exact this.behind hb (.inl (by simp;omega)) (.inl hl)
theorem Oa {K:List (KT h)}{ss:List ByteArray}{j:Nat}(hj:K.length<=j):KP K ss j:=by
 rw[nY];refine⟨fun a b k h1=>?_,fun i a b k e1 e2=>by omega⟩;rw[List.getElem?_eq_none hj]at h1;cases h1
theorem wH (hA:A.length=sA.length)(hB:B.length=sB.length)(ks:List Int)(keys:List ByteArray)(hl:(keys.length:Int)=max ((ks.length:Int)-1) 0):
  fT (aV (h+1) (bI (A++w::B) (sA++sB))) (A.length:Int) ((A.length:Int)+1) ks keys=⟨false,[],A.map Prod.fst++ks++B.map Prod.fst,iy (sA++sB) (uz A.length ks) (uA A.length (A.length+1) ks) keys⟩:=by
 have e1:((A.length:Int)+1).toNat=A.length+1:=by omega
 have e2:((A.length:Int)).toNat=A.length:=by omega
 rw[bU,fT,if_pos]
 ·rw[e1,e2];have f1:iy ((A++w::B).map Prod.fst) A.length (A.length+1) ks=A.map Prod.fst++ks++B.map Prod.fst:=by
   unfold iy;rw[List.map_append,List.take_append_of_le_length (by simp),List.drop_append];simp[List.take_of_length_le]
  rw[f1]
 ·simp only[swB,Bool.and_eq_true,decide_eq_true_eq,Bool.not_eq_true',List.length_map,List.length_append,List.length_cons];exact⟨by omega,by omega,by omega,hl,trivial⟩
theorem Sp (hA:A.length=sA.length)(p:Int):iy (sA++sB) (uz A.length [p]) (uA A.length (A.length+1) [p]) []=sA++sB:=by
 simp[iy,uz,uA]
theorem Sq (hA:A.length=sA.length)(p q:Int)(k:ByteArray):iy (sA++sB) (uz A.length [p,q]) (uA A.length (A.length+1) [p,q]) [k]=sA++k::sB:=by
 simp[iy,uz,uA,hA]
theorem Sr (hA:A.length=sA.length)(h0:A≠[]):iy (sA++sB) (uz A.length []) (uA A.length (A.length+1) []) []=sA.take (A.length-1)++sB:=by
 have h1:0<A.length:=List.length_pos_iff.2 h0;have e1:uz A.length []=A.length-1:=by simp[uz]
 have e2:uA A.length (A.length+1) []=A.length:=by unfold uA;rw[if_neg (by simp),if_pos h1];omega
 rw[e1,e2,iy,List.append_nil,List.take_append_of_le_length (by omega),hA,List.drop_left]
theorem Oc:iy ([]++sB) (uz 0 []) (uA 0 (0+1) []) []=sB.drop 1:=by
 simp[iy,uz,uA]
end
end P
namespace P
open N
def pX (p:Int):List Int:=if p=0 then []else [p]
def P0 (S:Dr)(p:Int):Prop:=p=0∨Us S p
section
variable {room:Nat}{d:Dk}{S S2:Dr}{h:Nat}{A B M:List (KT h)}{sA sB fx:List ByteArray}{w:KT h}
theorem Vf (ok:Sd room S):S.may 0=false:=by
 cases hm:S.may 0 with
 |false=>rfl
 |true=>
  have:=ok.x.fs 0 ((dK S 0).1 hm).1;omega
theorem zb {p:Int}(hp:P0 S p):∀q∈pX p,Us S q:=fun q hq=>by
 unfold pX at hq;split at hq
 ·cases hq
 ·rename_i h0
  rw[List.mem_singleton.1 hq];rcases hp with e|e
  ·exact absurd e h0
  ·exact e
theorem wI (ok:Sd room S){p:Int}(hp:P0 S p){n:Nd}(hf:cE n=true){m:Nat}(hb:Bd S m):
  ∃q e S',S.put room p n=some ((q,e),S')∧Er room d 0 S (pX p) S' e∧(e=0->Fm room d 2 S (pX p) S' [q]∧S'.vw d q=(n,0)):=by
 obtain⟨q,e,S',h1,h2,h3⟩:=A9 (d:=d) ok (id:=p) (X:=pX p) (by
  unfold pX
  by_cases h0:p=0
  ·subst h0
   exact .inl ⟨by simp,Vf ok⟩
  ·rw[if_neg h0]
   rcases hp with e|e
   ·exact absurd e h0
   ·exact .inr ⟨rfl,e⟩) hf hb
 exact⟨q,e,S',h1,h2,fun he=>⟨(h3 he).1,(h3 he).2.1⟩⟩
theorem Od (ok:Sd room S){p:Int}(hp:P0 S p):Fm room d 0 S (pX p) (S.drop p) []:=by
 unfold pX;by_cases h0:p=0
 ·subst h0;have e:S.drop 0=S:=by unfold Dr.drop;rw[if_neg (by rw[Vf ok];simp)]
  rw[e];simp only[if_true];exact Fm.refl ok (fun _ hc=>by cases hc) List.nodup_nil
 ·rw[if_neg h0];rcases hp with e|e
  ·exact absurd e h0
  ·exact qg ok e
theorem Ob.facts {t:BT h}(ho:Ob room d S h t):Sd room S∧(∀p∈bn h t,Us S p)∧(bn h t).Nodup∧oL S d (lD h t)∧(∀x∈dM h t,x.2.size<=40):=by
 cases h with
 |zero=>exact⟨ho.1,(fun _ hc=>by cases hc),List.nodup_nil,(fun _ hc=>by cases hc),ho.2.2.1⟩
 |succ h=>exact⟨ho.1.sd,ho.1.us,ho.1.nd,ho.1.is,ho.1.vl⟩
structure PlR (room:Nat)(d:Dk)(c:Nat)(S:Dr)(X:List Int)(F:List It)(E:List En)(z:Nat)(n:Nd)(S':Dr)(h:Nat)(K':List (KT h))(ss':List ByteArray):Prop where
 n:n=aV (h+1) (bI K' ss')
 rw:Rw room d S' h K' ss'
 kp:∀j,KP K' ss' j
 fm:Fm room d c S X S' (aW K')
 oi:OI F (dw K' ss')
 en:bD K'=E
 sz:bO ss'<=z
 ln:(aW K').length<=X.length+2
theorem iZ (hr:room<=16384)(HJ:lG room d h){depth:Int}(hd:depth+1+h<24){f m c:Nat}{K:List (KT h)}{ss:List ByteArray}(R:Rw room d S2 h K ss){i tt:Int}{a b:Nat}(ha:max i 0=(a:Int))(hb':tt=(b:Int))
  (k1:∀j,j<a->KP K ss j)(k2:∀j,b<=j->KP K ss j){X:List Int}(F:Fm room d c S X S2 (aW K))(hc:c<=4){G:List It}(oi:OI G (dw K ss)){E:List En}(en:bD K=E){z:Nat}(hz:bO ss<=z)(hl:(aW K).length<=X.length+2)(hab:b<=a+4)(hf:3*(X.length+2)+5<=f)(hb:Bd S (X.length+6+m)):
  ∃n e S',bu room d f S2 (aV (h+1) (bI K ss)) depth i tt=some ((n,e),S')∧Er room d 4 S X S' e∧(e=0->∃K' ss',PlR room d 4 S X G E z n S' h K' ss'):=by
 obtain⟨n,e,S',t1,t2,t3⟩:=gM (m:=m) hr HJ hd f S2 K ss a b R k1 k2 (by omega) (F.bd hb (by omega));refine⟨n,e,S',?_,(F.er t2).mono (by omega),fun he=>?_⟩
 ·unfold bu;rw[ha,hb'];exact t1
 ·obtain⟨K',ss',r1,r2,r3,r4,r5,r6,r7,r8,r9⟩:=t3 he;exact⟨K',ss',r1,r2,r3,(F.trans r4).mono (by omega),oi.trans (OI.sub r5),r6.trans en,Nat.le_trans r7 hz,Nat.le_trans r9 hl⟩
theorem Bc (hr:room<=16384)(ok:Sd room S)(K:List (KT h))(ss:List ByteArray)(hl:K.length<=ss.length+1)(hs:bO ss<=1000)(us:∀u∈K,P0 S u.1):bZ (aV (h+1) (bI K ss))=true:=by
 have h1:5*ss.length<=bO ss:=ku;rw[bU];simp only[bZ,Bool.and_eq_true,decide_eq_true_eq,cA,List.all_eq_true,List.length_nil,List.length_map];refine⟨⟨⟨⟨⟨?_,?_⟩,?_⟩,?_⟩,?_⟩,fun k hk=>?_⟩
 iterate 5 (first|omega|rfl)
 obtain⟨u,hu,rfl⟩:=List.mem_map.1 hk;rcases us u hu with e|hp
 ·omega
 ·have h1:=hp.lo;have h2:=hp.hi;have h3:=ok.x.pr;omega
theorem uM (C:Ctx room d S h A sA B sB)(hp:P0 S w.1)(t:BT h)(ho:Ob room d S h t)(hnd:(pX w.1++bn h t++(aW A++aW B)).Nodup)(hod:bP (dw A sA++(cx h t++jB (B.map fun u=>cx h u.2) sB)))(hsz:bO (sA++sB)<=1000)(wt:Wl h t)(zt:bS h t<=240){q:Int}(F:Fm room d 2 S (pX w.1) S2 [q])(hv:S2.vw d q=(aV h t,0)):
  Rw room d S2 h (A++([(q,t)]++B)) (sA++sB)∧Fm room d 2 S (pX w.1++bn h t++(aW A++aW B)) S2 (aW (A++([(q,t)]++B))):=by
 obtain⟨sd,us,nd,is,vl⟩:=ho.facts;obtain⟨n1,n2,n3⟩:=List.nodup_append.1 hnd;obtain⟨n4,n5,n6⟩:=List.nodup_append.1 n1;have F2:Fm room d 2 S (pX w.1++bn h t) S2 (aW [(q,t)]):=by
  have:=F.ext us n1;have e:aW [(q,t)]=[q]++bn h t:=by rw[bE,bY];simp[aW,hZ]
  rw[e];exact this
 refine C.row F2 hnd ?_ (fun u hu=>by rw[List.mem_singleton.1 hu];exact⟨wt,zt⟩) ?_ (fun x hx=>vl x (by simpa[bD]using hx)) hsz (.inl (by have:=C.hA;have:=C.hB;simp;omega))
 ·intro x hx;have hx':x∈nT (q,t):=by simpa[hZ]using hx
  rcases List.mem_cons.1 hx' with rfl|hx'
  ·exact hv
  ·exact F.NY is us (fun p hp hc=>n6 p hc p hp rfl) x hx'
 ·show bP (dw (A++(q,t)::B) (sA++sB));rw[eO C.hA];exact hod
end
end P
namespace P
open N
section
variable {room:Nat}{d:Dk}{S S1 S2 S3:Dr}{h:Nat}{A B M:List (KT h)}{sA sB fx:List ByteArray}{w:KT h}
theorem EW (C:Ctx room d S h A sA B sB)(hp:P0 S w.1)(t c1 c2:BT h){k:ByteArray}(hnd:(pX w.1++bn h t++(aW A++aW B)).Nodup)(hod:bP (dw A sA++((cx h c1++(true,k)::cx h c2)++jB (B.map fun u=>cx h u.2) sB)))(hsz:bO (sA++k::sB)<=1000)
    (w1:Wl h c1∧bS h c1<=240)(w2:Wl h c2∧bS h c2<=240)(vl:∀x∈dM h c1++dM h c2,x.2.size<=40)(is:oL S1 d (lD h c1++lD h c2))(F0:Fm room d 0 S (bn h t) S1 (bn h c1++bn h c2)){q1 q2:Int}(F1:Fm room d 2 S1 (pX w.1) S2 [q1])(v1:S2.vw d q1=(aV h c1,0))(F2:Fm room d 2 S2 [] S3 [q2])(v2:S3.vw d q2=(aV h c2,0)):
    Rw room d S3 h (A++([(q1,c1),(q2,c2)]++B)) (sA++k::sB)∧Fm room d 4 S (pX w.1++bn h t++(aW A++aW B)) S3 (aW (A++([(q1,c1),(q2,c2)]++B))):=by
  obtain⟨n1,n2,n3⟩:=List.nodup_append.1 hnd;have G0:=F0.ext (Y:=pX w.1) (zb hp) (List.perm_append_comm.nodup_iff.1 n1);have N5:(pX w.1++(bn h c1++bn h c2)).Nodup:=List.perm_append_comm.nodup_iff.1 G0.nd;have G1:=F1.ext (Y:=bn h c1++bn h c2) F0.us N5;have G2:=F2.ext (Y:=[q1]++(bn h c1++bn h c2)) G1.us G1.nd;have eM:aW [(q1,c1),(q2,c2)]=q1::(bn h c1++q2::bn h c2):=by rw[bE,bE,bY,bY];simp[aW,hZ]
  have pM:([q2]++([q1]++(bn h c1++bn h c2))).Perm (aW [(q1,c1),(q2,c2)]):=by
    rw[eM];show(q2::q1::(bn h c1++bn h c2)).Perm (q1::(bn h c1++q2::bn h c2));exact(List.Perm.swap q1 q2 _).trans (List.Perm.cons _ List.perm_middle.symm)
  have F:Fm room d 4 S (pX w.1++bn h t) S3 (aW [(q1,c1),(q2,c2)]):=
    (((G0.perm List.perm_append_comm List.perm_append_comm).trans G1).trans G2).perm (List.Perm.refl _) pM
  have i2:oL S2 d (lD h c1++lD h c2):=F1.NY is (by rw[List.map_append];exact F0.us) (by
    rw[List.map_append]
    exact fun p hp hc=>(List.nodup_append.1 N5).2.2 p hc p hp rfl)
  have i3:oL S3 d (lD h c1++lD h c2):=F2.NY i2 (by rw[List.map_append];exact fun p hp=>G1.us p (by simp only[List.mem_append]at hp⊢;exact .inr hp)) (fun p hp hc=>by cases hc);have hq:S3.vw d q1=(aV h c1,0):=by
    rw[(F2.keep q1 (F1.us q1 (by simp)) (by simp)).2.2.1];exact v1
  refine C.row F hnd ?_ (fun u hu=>?_) ?_ (fun x hx=>vl x (by simpa[bD]using hx)) hsz (.inl (by have:=C.hA;have:=C.hB;simp;omega))
  · intro x hx;have hx':x∈nT (q1,c1)++nT (q2,c2):=by simpa[hZ]using hx
    rcases List.mem_append.1 hx' with hx'|hx'
    · rcases List.mem_cons.1 hx' with rfl|hx'
      · exact hq
      · exact i3 x (List.mem_append_left _ hx')
    · rcases List.mem_cons.1 hx' with rfl|hx'
      · exact v2
      · exact i3 x (List.mem_append_right _ hx')
  · rcases List.mem_cons.1 hu with rfl|hu
    · exact w1
    · rw[List.mem_singleton.1 hu];exact w2
  · show bP (dw (A++(q1,c1)::(q2,c2)::B) (sA++k::sB));rw[p8 C.hA];simpa using hod
theorem Di (hA:A.length=sA.length)(hB:B.length=sB.length):(A≠[]->(dw (A++B) (sA.take (A.length-1)++sB)).Sublist (dw A sA++jB (B.map fun u=>cx h u.2) sB))∧(A=[]->(dw B (sB.drop 1)).Sublist (jB (B.map fun u=>cx h u.2) sB)):=by
 constructor
 ·intro h0;obtain⟨A0,x,rfl,hl⟩:=wG (l:=A) (n:=A.length-1) (by have:=List.length_pos_iff.2 h0;omega);obtain⟨s0,s,rfl,hl2⟩:=wG (l:=sA) (n:=A0.length) (by simp at hA;omega);have e1:(s0++[s]).take ((A0++[x]).length-1)=s0:=by
   rw[show(A0++[x]).length-1=s0.length by simp;omega];simp
  rw[e1,List.append_assoc,List.singleton_append,eO (by omega),eO (sB:=[s]) (by omega)];have e2:jB (List.map (fun u:KT h=>cx h u.2) []) [s]=[(true,s)]:=by simp[jB,iW]
  rw[e2];simp only[List.append_assoc];exact List.Sublist.append (List.Sublist.refl _) (List.Sublist.append (List.Sublist.refl _) (List.sublist_append_right _ _))
 ·intro h0;cases B with
  |nil=>
   cases sB with
   |nil=>exact List.Sublist.refl _
   |cons s sB=>simp at hB
  |cons y B=>
   cases sB with
   |nil=>simp at hB
   |cons s sB=>
    rw[List.map_cons,iX,List.drop_one,List.tail_cons,dw,List.map_cons,pY];exact List.sublist_cons_self _ _
theorem sK (C:Ctx room d S h A sA B sB)(t:BT h)(hnd:(pX w.1++bn h t++(aW A++aW B)).Nodup)(Wn:bn h t=[])(hod:bP (dw A sA++jB (B.map fun u=>cx h u.2) sB))(hsz:bO (sA++sB)<=1000)(F:Fm room d 0 S (pX w.1) S2 [])(hs1:(A≠[]∧fx=sA.take (A.length-1)++sB)∨(A=[]∧fx=sB.drop 1)):
  Rw room d S2 h (A++([]++B)) fx∧Fm room d 0 S (pX w.1++bn h t++(aW A++aW B)) S2 (aW (A++([]++B)))∧(dw (A++B) fx).Sublist (dw A sA++jB (B.map fun u=>cx h u.2) sB)∧bO fx<=bO (sA++sB):=by
 have hA:=C.hA;have hB:=C.hB;have sf:(dw (A++B) fx).Sublist (dw A sA++jB (B.map fun u=>cx h u.2) sB):=by
  rcases hs1 with⟨h0,rfl⟩| ⟨rfl,rfl⟩
  ·exact(Di hA hB).1 h0
  ·have e:dw ([]:List (KT h)) sA=[]:=by cases sA<;>rfl
   rw[e];exact(Di (A:=[]) (sA:=sA) hA hB).2 rfl
 have hz:bO fx<=bO (sA++sB):=by
  rcases hs1 with⟨h0,rfl⟩| ⟨rfl,rfl⟩
  ·rw[dD,dD];have:=jS sA (A.length-1);omega
  ·have e1:=dD (sB.take 1) (sB.drop 1);rw[List.take_append_drop]at e1;rw[dD];omega
 rw[Wn,List.append_nil]at hnd⊢;have:=C.row (M:=[]) (fx:=fx) F hnd (fun x hx=>by cases hx) (fun u hu=>by cases hu) (hod.sub sf) (fun x hx=>by cases hx) (Nat.le_trans hz hsz) (by
  rcases hs1 with⟨h0,rfl⟩| ⟨rfl,rfl⟩
  ·have:=List.length_pos_iff.2 h0
   refine .inl ?_
   simp
   omega
  ·by_cases hb:B=[]
   ·subst hb
    refine .inr ⟨rfl,?_⟩
    have:sB=[]:=List.length_eq_zero_iff.1 (by simpa using hB.symm)
    rw[this];rfl
   ·have:=List.length_pos_iff.2 hb
    refine .inl ?_
    simp
    omega)
 exact⟨this.1,this.2,sf,hz⟩
end
end P
end Go.Proofs.YtceoeaemenhbhabGreatDoor
