/- Walks of the package cowtree and of what it stands on: lemmas, made short. -/
import Derived.Test.YtceoeaemenhbhaaGreatDoorR12
import Derived.Deep.Slices
import Derived.ProofKit
import Derived.OpenShut
import Derived.ChangeOld
import Derived.Below
import Derived.ChangeSlices
import Derived.Test.YtceoeaemenhbhaaGreatDoorR4
import Derived.Deep.SlicePairs
import Derived.Test.YtceoeaemenhbhaaGreatDoorR2
import Derived.Maps.AppendAt
import Derived.Deep.RegionLaw
import Derived.Test.YtceoeaemenhbhaaGreatDoorR6
set_option maxHeartbeats 16000000
set_option maxRecDepth 100000
set_option linter.unusedVariables false
set_option linter.unusedSimpArgs false
namespace Go.Proofs.YtceoeaemenhbhaaGreatDoor
open Go.Shelf Go.RowKit Go.Lib Go.Sort
section
open N (Nd nd0 cA cQ dM iR fQ Sm cY En zG xj j8 nZ fk)
section
variable {B:Nat}{w0 w w':World}{l:List aO}{P:List NV}{C:Cx}{S S':Dr}{x:TX}{d d1:Dk}{r er Nb:Int}{bZ:pC}{key val:ByteArray}{es0:List En}{qk qv:Nat}
theorem Sep.dV {q1 q2:Nat}{o1 o2:Obj}(h:Sep B w0 w (Both (aF q1 o1) (aF q2 o2)::l)):Sep B w0 w (aF q1 o1::aF q2 o2::l):=h.map fun _=>Hp.part (aZ _ _) (aZ _ _)
theorem Sep.c1 {q:Nat}{a:Value}{ty:TypeId}(h:Sep B w0 w (aF q (.cells #[a] ty)::l)):q<w.heap.size∧w.cell? ⟨q,0,none⟩=some a∧w.frozen? ⟨q,0,none⟩=false:=by
 have hb:=h.blk;exact⟨(Array.getElem?_eq_some_iff.1 hb).1,by simp[World.cell?,hb],by simp[World.frozen?,hb]⟩
theorem DL.Ue {v:Value}{es:List En}(h:Sep B w0 w (DL C S d P l))(ho:N.Own N.ax 2 w.heap.size w' v es)(hb:Below w.heap.size w w'):∃ao cc,v=.slice ao es.length cc∧Sep B w0 w' (DL C S d ((⟨ao,cc,none,0,none,0,⟨true,es,[],[]⟩⟩:NV)::P) l):=by
 obtain⟨ao,cc,rfl,hr⟩:=id ho;exact⟨ao,cc,rfl,DL.add (p:=⟨ao,cc,none,0,none,0,⟨true,es,[],[]⟩⟩) h hb ⟨ho,N.Own.nil,N.Own.nil⟩⟩
theorem QN:mn B w0 C 44 (.pointer (some ⟨qk,0,none⟩)) (.pointer (some ⟨qv,0,none⟩)) (fun es=>zG es key val) es0 (Both (aF qk (.cells #[.string key] 9)) (aF qv (.cells #[.string val] 9))) (Both (aF qk (.cells #[.string key] 9)) (aF qv (.cells #[.string val] 9))):=by
 intro w S d P l p h hp hl he0;have h2:=Sep.dV (Sep.pk [_,_,_,_,_] (h));obtain⟨ks,k0,_⟩:=Sep.c1 h2;obtain⟨vs,v0,_⟩:=Sep.c1 (Sep.pk [_] h2);have K:Hid _:=N.F9 (.slice p.ae p.n.es.length p.ce) p.n.es key val w (DL.nd h hp).e (by omega);have HS:Hid (Sep B w0 w (DL C S d P ((Both (aF qk (.cells #[.string key] 9)) (aF qv (.cells #[.string val] 9)))::l))):=h;clear h h2 hp hl he0;go_enter Tryz.func44,Tryz.ntmps44
 go_wp2_with fail
 refine Calls.mono K.out ?_;rintro e w1 ⟨v,rfl,ho,hb⟩;obtain⟨ao,cc,rfl,s1⟩:=DL.Ue HS.out ho hb;have SF:Hid _:=s1;clear K HS ho hb s1;go_wp2;go_ret;exact⟨ao,cc,rfl,SF.out⟩
theorem QO:mn B w0 C 46 (.pointer (some ⟨qk,0,none⟩)) (.pointer (some ⟨qv,0,none⟩)) (fun es=>xj es key) es0 (Both (aF qk (.cells #[.string key] 9)) (aF qv (.cells #[.bool false] 4))) (Both (aF qk (.cells #[.string key] 9)) (aF qv (.cells #[.bool (j8 es0 key)] 4))):=by
 intro w S d P l p h hp hl he0;have h2:=Sep.dV (Sep.pk [_,_,_,_,_] (h));obtain⟨ks,k0,_⟩:=Sep.c1 h2;have KG:Hid _:=N.Bf (.slice p.ae p.n.es.length p.ce) p.n.es key w (DL.nd h hp).e (by omega);have hg1:j8 p.n.es key=j8 es0 key:=by rw[he0]
 rw[hg1]at KG;clear hg1;have HP:Hid (p∈P∧p.n.es.length<=500∧p.n.es=es0):=⟨hp,hl,he0⟩;have HS:Hid (Sep B w0 w (DL C S d P ((Both (aF qk (.cells #[.string key] 9)) (aF qv (.cells #[.bool false] 4)))::l))):=h;clear h h2 hp hl he0;generalize j8 es0 key=gb at*;generalize nZ p.n.es key=gv at*;go_enter Tryz.func46,Tryz.ntmps46
 go_wp2_with fail
 refine Calls.mono KG.out ?_;rintro e w1 ⟨rfl,b1⟩;have h3:=Sep.dV (Sep.pk [_,_,_,_,_] ((HS.out.below b1)));obtain⟨iq,k1,_⟩:=Sep.c1 h3;obtain⟨vs1,v1,f1⟩:=Sep.c1 (Sep.pk [_] h3);have hne:qk≠qv:=Sep.ne h3;have hne':=hne.symm;have S2:Hid (Sep B w0 (w1.setCell ⟨qv,0,none⟩ (.bool gb)) (DL C S d P ((Both (aF qk (.cells #[.string key] 9)) (aF qv (.cells #[.bool gb] 4)))::l))):=by
  have h4:=Sep.kZ (x:=.bool gb) (Sep.pk [_] h3) 0;exact Sep.pb [_,_,_,_,_] (Sep.join (Sep.pk [_] h4))
 have h5:=Sep.dV (Sep.pk [_,_,_,_,_] (S2.out));obtain⟨iD,k2,_⟩:=Sep.c1 h5;have KE:Hid _:=N.zH (.slice p.ae p.n.es.length p.ce) p.n.es key _ (DL.nd S2.out HP.out.1).e (by have:=HP.out;omega);clear h3 h5 KG HS b1
 go_wp2_with fail
 refine Calls.mono KE.out ?_;rintro e w3 ⟨v,rfl,ho,hb⟩;obtain⟨ao,cc,rfl,s3⟩:=DL.Ue S2.out ho hb;have SF:Hid _:=s3;clear KE S2 ho hb s3;go_wp2;go_ret;exact⟨ao,cc,rfl,SF.out⟩
def GK (B:Nat)(w0:World)(C:Cx)(S:Dr)(d:Dk)(P:List NV)(l:List aO)(r er:Int)(w':World):Prop:=
 ∃P' d',(∀x∈P,x∈P')∧bf d d'∧((er≠0∧Sep B w0 w' (TL (C.yi er) (aH S.x S.taken) d' P' l))∨(er=0∧∃L,(L.Pairwise (· < ·)∧∀k,k∈L↔(S.nodes k).isSome=true)∧Sep B w0 w' (TL (C.eI r) (cH S.nodes (aH S.x S.spare) L) d' P' l)))
theorem ib (w:World)(q:Nat):Calls Tryz.prog 42 #[ptr q] w fun e w'=>e=.returned (ptr q)∧w=w':=by
 unfold ptr;go_enter Tryz.func42,Tryz.ntmps42;go_wp2;go_ret;exact⟨rfl,rfl⟩
theorem MD (h:Sep B w0 w (TL C x d1 P l))(h0:C.err=0)(h1:fk key val≠0):Calls Tryz.prog 12 #[ptr C.tq,.string key,.string val] w fun e w'=>e=.returned (.int .i64 (fk key val))∧Sep B w0 w' (TL C x d1 P l):=by
 have SF:Hid (Sep B w0 ((w.alloc (.cells #[.string key] 9)).alloc (.cells #[.string val] 9)) (TL C x d1 P l)):=(h.alloc _).alloc _;have KG:Hid _:=ib ((w.alloc (.cells #[.string key] 9)).alloc (.cells #[.string val] 9)) C.tq;have KK:Hid _:=N.fL key val ((w.alloc (.cells #[.string key] 9)).alloc (.cells #[.string val] 9));obtain⟨ts,⟨t0,t1,t2⟩,_⟩:=Sep.vx (Sep.pk [_,_] (h));rw[h0]at t2;have hne:(fk key val != 0)=true:=bne_iff_ne.2 h1;generalize fk key val=ec at*;clear h h0 h1;go_enter Tryz.func12,Tryz.ntmps12
 go_wp2_with fail
 refine Calls.mono KG.out ?_;rintro e w1 ⟨rfl,rfl⟩;clear KG
 go_wp2_with fail
 refine Calls.mono KK.out ?_;rintro e w1 ⟨rfl,rfl⟩;clear KK;go_wp2;go_ret;exact⟨rfl,SF.out⟩
theorem QP (T:bW B w0)(hst:∀C:Cx,aV B w0 C d Nb bZ)(dU:∀ {S S':Dr} {n:Nd} {depth i tt:Int} {r:Nd×Int},DI S d.room->bZ S n depth i tt=some (r,S')->DI S' d.room)(eN:∀ {S9 S8:Dr} {n9:Nd} {i9 j9 k9:Int} {r9:Nd×Int},bZ S9 n9 i9 j9 k9=some (r9,S8)->bS n9=true)(hel:∀es,((fun es=>zG es key val) es).length<=es.length+1)(hr:d.room<=16384)(hNb:Nb<=1000000)(hN0:29<=Nb)(hd:bf d d1)(h:Sep B w0 w (TL C x d1 P l))(I:DI (eR x) d.room)(JK:DI S' d.room)(hF:Fin S')(hlf:sF d key es0 30 (eR x) ⟨false,[],[C.root],[]⟩ (-1))(he:jT bZ d.room d key (fun es=>zG es key val) C.root (eR x)=some ((r,er),S'))(h0:C.err=0)(h1:fk key val=0):Calls Tryz.prog 12 #[ptr C.tq,.string key,.string val] w fun e w'=>e=.returned (.int .i64 er)∧GK B w0 C S' d P l r er w':=by
 have S1:Hid (Sep B w0 ((w.alloc (.cells #[.string key] 9)).alloc (.cells #[.string val] 9)) (TL C x d1 P ((Both (aF w.heap.size (.cells #[.string key] 9)) (aF (w.heap.size+1) (.cells #[.string val] 9)))::l))):=Sep.pb [_,_,_,_] (Sep.join (Sep.ql (Sep.aR (Sep.aP h _) _ (w.heap.size+1) (by simp))));have KG:Hid _:=ib ((w.alloc (.cells #[.string key] 9)).alloc (.cells #[.string val] 9)) C.tq;have KK:Hid _:=N.fL key val ((w.alloc (.cells #[.string key] 9)).alloc (.cells #[.string val] 9));rw[h1]at KK;have KC:Hid (Calls Tryz.prog 43 #[ptr C.tq,.string key,.func (.func 44) #[] #[.pointer (some ⟨w.heap.size,0,none⟩),.pointer (some ⟨w.heap.size+1,0,none⟩)]] ((w.alloc (.cells #[.string key] 9)).alloc (.cells #[.string val] 9)) (GH B w0 C S' d P l (Both (aF w.heap.size (.cells #[.string key] 9)) (aF (w.heap.size+1) (.cells #[.string val] 9))) (Both (aF w.heap.size (.cells #[.string key] 9)) (aF (w.heap.size+1) (.cells #[.string val] 9))) r er)):=uh.1 T hst (fun h1 h2=>dU h1 h2) (fun h=>eN h) (fun C=>QN) hlf hel hr hNb hN0 hd S1.out I JK hF he;obtain⟨ts,⟨t0,t1,t2⟩,_⟩:=Sep.vx (Sep.pk [_,_] (h));rw[h0]at t2;clear h h0 h1 hst dU eN hel hr hNb hN0 hd I JK hF hlf he S1;go_enter Tryz.func12,Tryz.ntmps12
 go_wp2_with fail
 refine Calls.mono KG.out ?_;rintro e w1 ⟨rfl,rfl⟩;clear KG
 go_wp2_with fail
 refine Calls.mono KK.out ?_;rintro e w1 ⟨rfl,rfl⟩;clear KK
 go_wp2_with fail
 refine Calls.mono KC.out ?_;rintro e w2 ⟨rfl,P',d',V,a1,a2,a3,a4,a5⟩;have HG:Hid (GK B w0 C S' d P l r er w2):=by
  refine⟨P',d',a1,a4,?_⟩;rcases a5 with⟨b1,b2⟩| ⟨b1,L,b2,b3⟩
  ·exact .inl ⟨b1,Sep.drop (Sep.pk [_,_,_,_] (b2))⟩
  ·exact .inr ⟨b1,L,b2,Sep.drop (Sep.pk [_,_,_,_] (b3))⟩
 clear KC a1 a2 a3 a4 a5;go_wp2;go_ret;exact⟨rfl,HG.out⟩
end
end
section
section
variable {B:Nat}{w0 w w':World}{l:List aO}{P:List NV}{C:Cx}{x:TX}{d:Dk}{t f b:Nat}{root:Int}
theorem Og (h:Sep B w0 w (Tx t f x::File f b d::l)):Calls Tryz.prog 28 #[ptr t,.int .i64 root] w fun e w'=>∃tq,e=.returned (ptr tq)∧Sep B w0 w' (TL ⟨0,tq,t,f,b,root,0⟩ x d [] l):=by
 have SF:Hid (Sep B w0 (w.alloc (.cells #[ptr t,.int .i64 root,.int .i64 0] 88)) (TL ⟨0,w.heap.size,t,f,b,root,0⟩ x d [] l)):=Sep.pb [_,_,_] (Sep.TP (Sep.pb [_,_] (h.aP _)));clear h;unfold ptr at*;go_enter Tryz.func28,Tryz.ntmps28;go_wp2;go_ret;exact⟨w.heap.size,rfl,SF.out⟩
theorem Uf (h:Sep B w0 w (TL C x d P l)):Calls Tryz.prog 24 #[ptr C.tq] w fun e w'=>e=.returned (.int .i64 C.err)∧w=w':=by
 have KG:Hid _:=ib w C.tq;obtain⟨ts,⟨t0,t1,t2⟩,_⟩:=Sep.vx (Sep.pk [_,_] h);clear h;go_enter Tryz.func24,Tryz.ntmps24
 go_wp2_with fail
 refine Calls.mono KG.out ?_;rintro e w1 ⟨rfl,rfl⟩;clear KG;go_wp2;go_ret;exact⟨rfl,rfl⟩
end
end
section
structure EJ where
 k:Int
 key:ByteArray
 val:ByteArray
def iC:EJ:=⟨0,ByteArray.empty,ByteArray.empty⟩
structure jU (w:World)(v:Value)(l:List EJ):Prop where
 row:∃ao cap,v=.slice ao l.length cap∧(l≠[]->∃r o,ao=some ⟨r,o,none⟩∧r<w.heap.size∧∀j,j<l.length->
  w.cell? ⟨r,o+j*3,none⟩=some (.int .i64 (l.getD j iC).k)∧w.cell? ⟨r,o+j*3+1,none⟩=some (.string (l.getD j iC).key)∧w.cell? ⟨r,o+j*3+2,none⟩=some (.string (l.getD j iC).val))
 ok:∀a∈l,a.key.size<=maxLen∧a.val.size<=maxLen∧Wf a.k
theorem jU.below {w w':World}{v:Value}{l:List EJ}{B:Nat}(h:jU w v l)(hb:Below B w w')(hB:w.heap.size<=B):jU w' v l:=by
 obtain⟨⟨ao,cap,e,h1⟩,h2⟩:=h;refine⟨⟨ao,cap,e,fun hne=>?_⟩,h2⟩;obtain⟨r,o,e2,hr,hc⟩:=h1 hne;have k:∀j,w'.cell? ⟨r,j,none⟩=w.cell? ⟨r,j,none⟩:=fun j=>World.cell?_of_block (a:=⟨r,j,none⟩) (hb.block r (by omega));refine⟨r,o,e2,Nat.lt_of_lt_of_le hr hb.size,fun j hj=>?_⟩;rw[k,k,k];exact hc j hj
theorem jU.at {w wr:World}{ao:Option Addr}{n cap:Nat}{l:List EJ}{B:Nat}(h:jU w (.slice ao n cap) l)(hb:Below B w wr)(hB:w.heap.size<=B){j:Nat}(hj:j<l.length):
  ∃r o,ao=some ⟨r,o,none⟩∧r<wr.heap.size∧wr.cell? ⟨r,o+j*3,none⟩=some (.int .i64 (l.getD j iC).k)∧wr.cell? ⟨r,o+j*3+1,none⟩=some (.string (l.getD j iC).key)∧wr.cell? ⟨r,o+j*3+2,none⟩=some (.string (l.getD j iC).val)∧
  (l.getD j iC).key.size<=maxLen∧(l.getD j iC).val.size<=maxLen∧Wf (l.getD j iC).k:=by
 obtain⟨⟨dG,cap',e,h1⟩,h2⟩:=h.below hb hB;cases e;obtain⟨r,o,e2,hr,hc⟩:=h1 (by intro e;rw[e]at hj;simp at hj);obtain⟨x0,x1,x2⟩:=hc j hj;have hm:l.getD j iC∈l:=by rw[List.getD_eq_getElem?_getD,List.getElem?_eq_getElem hj];exact List.getElem_mem hj
 exact⟨r,o,e2,hr,x0,x1,x2,h2 _ hm⟩
def Oh (a:EJ):Bool:=decide (60<a.key.size)||decide (60<a.val.size)
def td (l:List EJ):Bool:=decide (200<l.length)||l.any Oh
theorem ME {l:List EJ}(h1:l.length<=200)(h2:∀i,i<l.length->Oh (l.getD i iC)=false):td l=false:=by
 unfold td;rw[Bool.or_eq_false_iff];refine⟨by simpa using h1,?_⟩;rw[List.any_eq_false];intro a ha;obtain⟨i,hi,rfl⟩:=List.getElem_of_mem ha;have:=h2 i hi;rw[List.getD_eq_getElem?_getD,List.getElem?_eq_getElem hi]at this;simpa using this
theorem yj {l:List EJ}{i:Nat}(hi:i<l.length)(h:Oh (l.getD i iC)=true):td l=true:=by
 unfold td;rw[Bool.or_eq_true];refine .inr (List.any_eq_true.2 ⟨l.getD i iC,?_,h⟩);rw[List.getD_eq_getElem?_getD,List.getElem?_eq_getElem hi];exact List.getElem_mem hi
theorem Xj {w:World}{ao:Option Addr}{cap:Nat}{l:List EJ}(h:jU w (.slice ao l.length cap) l):Calls Tryz.prog 10 #[.slice ao l.length cap] w fun e w'=>e=.returned (.bool (td l))∧Below w.heap.size w w':=by
 have HA:Hid (jU w (.slice ao l.length cap) l):=h;clear h;by_cases h2:200<l.length
 ·have h2z:(200:Int)< (l.length:Int):=by omega
  have HO:Hid (td l=true):=by show _=_;unfold td;rw[decide_eq_true h2];rfl
  skip
  go_enter Tryz.func10,Tryz.ntmps10;go_wp2;go_ret;exact⟨by rw[HO.out];rfl,Below.refl _ _⟩
 ·have h2z:¬(200:Int)< (l.length:Int):=by omega
  have HL:Hid (l.length<=200):=by show _<=_;omega
  skip
  go_enter Tryz.func10,Tryz.ntmps10;go_wp2
  go_loopg [3] l.length (fun kx s3 wr=>∃(j:Nat),s3=.int .i64 (j:Int)∧j<=l.length∧l.length-j<=kx∧Hid (∀i,i<j->Oh (l.getD i iC)=false)∧Hid (Below w.heap.size w wr))
  case atStart=>exact⟨0,rfl,Nat.zero_le _,Nat.le_refl _,(by intro i hi;omega),Below.refl _ _⟩
  case round=>
   obtain⟨j,rfl,hj,Xk,HJ,HB⟩:=hrel;by_cases hlt:j<l.length
   ·have vF:(j:Int)< (l.length:Int):=by omega
    obtain⟨r,o,e1,hr,x0,x1,x2,z1,z2,_⟩:=HA.out.at HB.out (Nat.le_refl _) hlt;subst e1;unfold maxLen at z1 z2;have Xl:IntKind.i64.wrap ((j:Int)+1)=((j+1:Nat):Int):=by rw[bE (by omega) (by have:=HL.out;omega)];rfl
    generalize hy:l.getD j iC=y at*;have HY:Hid (l.getD j iC=y):=hy;clear hy;obtain⟨yk,QQ,QR⟩:=y;simp only at x0 x1 x2 z1 z2;by_cases Xn:60<QQ.size
    ·have QS:(60:Int)< (QQ.size:Int):=by omega
     have HO:Hid (td l=true):=yj hlt (by rw[HY.out];simp[Oh,Xn])
     skip
     go_wp2;go_ret;exact⟨by rw[HO.out];rfl,HB.out⟩
    ·have QS:¬(60:Int)< (QQ.size:Int):=by omega
     by_cases h61:60<QR.size
     ·have Xo:(60:Int)< (QR.size:Int):=by omega
      have HO:Hid (td l=true):=yj hlt (by rw[HY.out];simp[Oh,h61])
      skip
      go_wp2;go_ret;exact⟨by rw[HO.out];rfl,HB.out⟩
     ·have Xo:¬(60:Int)< (QR.size:Int):=by omega
      have HJ2:Hid (∀i,i<j+1->Oh (l.getD i iC)=false):=by
       intro i hi;rcases Nat.lt_succ_iff_lt_or_eq.1 hi with h|rfl
       ·exact HJ.out i h
       ·rw[HY.out];simp[Oh];omega
      clear HJ;go_wp2
      go_roundg (l.length- (j+1))
      case measure=>omega
      case rel=>exact⟨j+1,by go_num,by omega,Nat.le_refl _,HJ2.out,HB.out⟩
   ·have vF:¬(j:Int)< (l.length:Int):=by omega
    obtain rfl:j=l.length:=by omega
    have HO:Hid (td l=false):=ME HL.out HJ.out;clear HJ;go_wp2;go_ret;exact⟨by rw[HO.out];rfl,HB.out⟩
end
end Go.Proofs.YtceoeaemenhbhaaGreatDoor
namespace Go.Proofs.YtceoeaemenhbhaaGreatDoor
section
open Go.Deep Go.ChangeShapes Go.WideShapes Go.ChangeAt Go.RowKit Go.ChangeMaps
variable {H:Type}{enc:TypeId×Value->H}{W:World}{base:Nat}{spare:Nat->Bool}{held:Bool}{fuel:Nat}{x:DataW H×List MemPlace}
theorem fS {W:World}{b o:Nat}{v:Value}(h:W.cell? ⟨b,o,none⟩=some v):b<W.heap.size:=by
 rcases Nat.lt_or_ge b W.heap.size with hb|hb
 ·exact hb
 ·have e:W.heap[b]? =none:=Array.getElem?_eq_none hb;simp[World.cell?,e]at h
theorem trod_struct3 {P:Program}{w:World}{t:TypeId}{f0 f1 f2:Field}{fuel:Nat}{cs:List Value}{x:DataW H×List MemPlace}(ht:P.underlying t=some (.struct #[f0,f1,f2]))(h:DataW.trod enc P w base spare held fuel t cs=some x):
  ∃y0 y1 y2 n,cs.length=P.cellsOf t∧DataW.trod enc P w base spare held n f0.type ((cs.drop f0.offset).take (P.cellsOf f0.type))=some y0∧
   DataW.trod enc P w base spare held n f1.type ((cs.drop f1.offset).take (P.cellsOf f1.type))=some y1∧DataW.trod enc P w base spare held n f2.type ((cs.drop f2.offset).take (P.cellsOf f2.type))=some y2:=by
 obtain⟨xs,n,_,rfl,hl,hlen,hf⟩:=DataW.trod_struct ht h
 match xs,hlen with
 |[y0,y1,y2],_=>exact⟨y0,y1,y2,n,hl,by simpa using hf 0 f0 rfl,by simpa using hf 1 f1 rfl,by simpa using hf 2 f2 rfl⟩
theorem Oi {a:Option Addr}{len cap:Nat}(h:DataW.trod enc Tryz.prog W base spare held fuel 22 (Value.slice a len cap).cells.toList=some x):∃l:List EJ,jU W (.slice a len cap) l:=by
 rcases open_slice Tryz.underlying22 h with⟨hcs,_⟩| ⟨ad,l,c,m,n,D,Pl,hcs,_,hl,_,hm,_,hcell⟩
 ·simp[Value.cells]at hcs;obtain⟨rfl,rfl,rfl⟩:=hcs;exact⟨[],⟨none,0,rfl,fun h=>absurd rfl h⟩,fun a ha=>by cases ha⟩
 ·simp[Value.cells]at hcs;obtain⟨rfl,rfl,rfl⟩:=hcs;have ce:Tryz.prog.cellsOf 29=3:=by kernel_rfl
  have ci:Tryz.prog.cellsOf 3=1:=by kernel_rfl
  have cs:Tryz.prog.cellsOf 9=1:=by kernel_rfl
  have each:∀i,i<len->∃q:EJ,W.cell? (ad.add (i*3))=some (.int .i64 q.k)∧W.cell? (ad.add (i*3+1))=some (.string q.key)∧W.cell? (ad.add (i*3+2))=some (.string q.val)∧q.key.size<=maxLen∧q.val.size<=maxLen∧Wf q.k:=by
   intro i hi;obtain⟨cs',h1,h2⟩:=hcell i (by rw[hm];split<;>omega);rw[ce]at h1;obtain⟨_,hlen,hc⟩:=World.cells?_some h1;obtain⟨y0,y1,y2,k,_,g0,g1,g2⟩:=trod_struct3 Tryz.underlying29 h2
   match cs',hlen with
   |[v0,v1,v2],_=>
    simp[ci,cs]at g0 g1 g2;obtain⟨z0,e0,_,Y5⟩:=DataW.trod_int Tryz.underlying3 g0;obtain⟨z1,e1,_,wf1⟩:=DataW.trod_string Tryz.underlying9 g1;obtain⟨z2,e2,_,wf2⟩:=DataW.trod_string Tryz.underlying9 g2;have c0:=hc 0 (by omega);have c1:=hc 1 (by omega);have c2:=hc 2 (by omega);rw[add_add]at c0 c1 c2;simp only[List.cons.injEq,and_true]at e0 e1 e2;subst e0 e1 e2;have b0:Wf z0:=by
     have h1:=of_decide_eq_true (Bool.and_eq_true_iff.1 Y5).1;have h2:=of_decide_eq_true (Bool.and_eq_true_iff.1 Y5).2;rw[show IntKind.min .i64=-9223372036854775808 by decide]at h1;rw[show IntKind.max .i64=9223372036854775807 by decide]at h2;exact⟨h1,h2⟩
    exact⟨⟨z0,z1,z2⟩,by simpa using c0,by simpa using c1,by simpa using c2,wf1,wf2,b0⟩
  haveI:Inhabited EJ:=⟨iC⟩
  obtain⟨q,hq⟩:=choose_lt each;have hg:∀j,j<len->((List.range len).map q).getD j iC=q j:=fun j hj=>by simp[List.getD_eq_getElem?_getD,hj]
  refine⟨(List.range len).map q,⟨some ad,cap,by simp,fun hne=>?_⟩,fun a ha=>?_⟩
  ·have hpos:0<len:=by
    rcases Nat.eq_zero_or_pos len with e|e
    ·subst e;exact absurd rfl hne
    ·exact e
   obtain⟨b,off,spot⟩:=ad;have c0:=(hq 0 hpos).1;have hspot:spot=none:=by simpa[Addr.add]using World.cell?_spot c0
   subst hspot;rw[add_plain]at c0;refine⟨b,off,rfl,fS c0,fun j hj=>?_⟩;have hj2:j<len:=by simpa using hj
   rw[hg j hj2];obtain⟨x0,x1,x2,_⟩:=hq j hj2;simp only[add_plain]at x0 x1 x2;exact⟨x0,x1,x2⟩
  ·obtain⟨j,hj,rfl⟩:=List.mem_map.1 ha;exact(hq j (by simpa using hj)).2.2.2
end
namespace N
open Go.Deep Go.ChangeShapes Go.WideShapes Go.ChangeAt Go.RowKit Go.ChangeMaps Go.Shelf Go.Lib Go.Sort
theorem mz {α:Type}[Inhabited α]{enc:α->List Value}{f:α->Value}(he:∀x,enc x=[f x]){W:World}{a:Addr}{len cap:Nat}{q:Nat->α}(hl:len<=cap)(hc:∀i,i<len->W.cell? (a.add i)=some (f (q i))):
  Row enc 1 W (.slice (some a) len cap) ((List.range len).map q):=by
 refine⟨some a,cap,by simp,by simpa using hl,(fun h=>by cases h),fun hne=>?_⟩;have hpos:0<len:=by
  rcases Nat.eq_zero_or_pos len with h|h
  ·subst h;exact absurd rfl hne
  ·exact h
 obtain⟨b,off,spot⟩:=a;have hspot:spot=none:=by simpa[Addr.add]using World.cell?_spot (hc 0 hpos)
 subst hspot;have c00:=hc 0 hpos;rw[add_plain]at c00;refine⟨b,off,rfl,fS c00,fun t ht=>?_⟩;have ht':t<len:=by simpa using ht
 have h0:=hc t ht';rw[add_plain]at h0;rw[h0,get_flatK _ _ _ _ (by simpa using ht'),Nat.div_one,Nat.mod_one,getElem!_pos _ t (by simpa using ht')];simp[he]
theorem Eh {W:World}{a:Addr}{len cap:Nat}{q:Nat->En}(hl:len<=cap)(hc:∀i,i<len->W.cell? (a.add (i*2))=some (.string (q i).1)∧W.cell? (a.add (i*2+1))=some (.string (q i).2)):
  Row ax 2 W (.slice (some a) len cap) ((List.range len).map q):=by
 refine⟨some a,cap,by simp,by simpa using hl,(fun h=>by cases h),fun hne=>?_⟩;have hpos:0<len:=by
  rcases Nat.eq_zero_or_pos len with h|h
  ·subst h;exact absurd rfl hne
  ·exact h
 obtain⟨b,off,spot⟩:=a;have hspot:spot=none:=by simpa[Addr.add]using World.cell?_spot (hc 0 hpos).1
 subst hspot;have c00:=(hc 0 hpos).1;rw[add_plain]at c00;refine⟨b,off,rfl,fS c00,fun t ht=>?_⟩;have ht':t<len*2:=by simpa using ht
 rw[get_flatK _ _ _ _ (by simpa using ht)];obtain⟨h0,h1⟩:=hc (t/2) (by omega);rw[add_plain]at h0 h1;have eg:((List.range len).map q).toArray[t/2]! =q (t/2):=by
  rw[getElem!_pos _ _ (by simp;omega)];simp
 rw[eg];rcases Nat.mod_two_eq_zero_or_one t with hm|hm
 ·rw[hm,show t=t/2*2 by omega,h0];simp[ax]
 ·rw[hm,show t=t/2*2+1 by omega,h1,show(t/2*2+1)/2=t/2 by omega];simp[ax]
variable {H:Type}{enc:TypeId×Value->H}{W:World}{base:Nat}{spare:Nat->Bool}{held:Bool}{fuel:Nat}{x:DataW H×List MemPlace}
theorem Ao {cs:List Value}(h:DataW.trod enc Tryz.prog W base spare held fuel 56 cs=some x):∃v l,cs=[v]∧Row encI 1 W v l:=by
 rcases open_slice Tryz.underlying56 h with⟨rfl,_⟩| ⟨ad,len,cap,m,n,D,Pl,rfl,_,hl,_,hm,_,hcell⟩
 ·exact⟨_,[],rfl,nw⟩
 ·have cs:Tryz.prog.cellsOf 3=1:=by kernel_rfl
  have each:∀i,i<len->∃q:Int,W.cell? (ad.add i)=some (.int .i64 q):=by
   intro i hi;obtain⟨cs',h1,h2⟩:=hcell i (by rw[hm];split<;>omega);rw[cs]at h1;obtain⟨_,hlen,hc⟩:=World.cells?_some h1
   match cs',hlen with
   |[v0],_=>
    obtain⟨z3,e3,_⟩:=DataW.trod_int Tryz.underlying3 h2;have c0:=hc 0 (by omega);rw[add_add]at c0;simp only[List.cons.injEq,and_true]at e3;subst e3;exact⟨z3,by simpa using c0⟩
  obtain⟨q,hq⟩:=choose_lt each;exact⟨_,_,rfl,mz (f:=fun s=>.int .i64 s) (fun _=>rfl) (q:=q) hl hq⟩
theorem Ap {cs:List Value}(h:DataW.trod enc Tryz.prog W base spare held fuel 66 cs=some x):∃v l,cs=[v]∧Row encS 1 W v l:=by
 rcases open_slice Tryz.underlying66 h with⟨rfl,_⟩| ⟨ad,len,cap,m,n,D,Pl,rfl,_,hl,_,hm,_,hcell⟩
 ·exact⟨_,[],rfl,nw⟩
 ·have cs:Tryz.prog.cellsOf 9=1:=by kernel_rfl
  have each:∀i,i<len->∃q:ByteArray,W.cell? (ad.add i)=some (.string q):=by
   intro i hi;obtain⟨cs',h1,h2⟩:=hcell i (by rw[hm];split<;>omega);rw[cs]at h1;obtain⟨_,hlen,hc⟩:=World.cells?_some h1
   match cs',hlen with
   |[v0],_=>
    obtain⟨z3,e3,_⟩:=DataW.trod_string Tryz.underlying9 h2;have c0:=hc 0 (by omega);rw[add_add]at c0;simp only[List.cons.injEq,and_true]at e3;subst e3;exact⟨z3,by simpa using c0⟩
  obtain⟨q,hq⟩:=choose_lt each;exact⟨_,_,rfl,mz (f:=fun s=>.string s) (fun _=>rfl) (q:=q) hl hq⟩
theorem Aq {cs:List Value}(h:DataW.trod enc Tryz.prog W base spare held fuel 27 cs=some x):∃v l,cs=[v]∧Row ax 2 W v l∧∀e∈l,e.1.size<=maxLen∧e.2.size<=maxLen:=by
 rcases open_slice_pairs Tryz.underlying27 Tryz.underlying45 (by kernel_rfl) rfl rfl (by kernel_rfl) (by kernel_rfl) h with⟨rfl,_⟩| ⟨ad,len,cap,m,n,V0,V1,D0,D1,P0,P1,rfl,_,hl,_,hm,_,hcell⟩
 ·exact⟨_,[],rfl,nw,fun _ h=>by cases h⟩
 ·have each:∀i,i<len->∃q:En,(W.cell? (ad.add (i*2))=some (.string q.1)∧W.cell? (ad.add (i*2+1))=some (.string q.2))∧q.1.size<=maxLen∧q.2.size<=maxLen:=by
   intro i hi;obtain⟨c0,c1,t0,t1⟩:=hcell i (by rw[hm];split<;>omega);obtain⟨z0,e0,_,s0⟩:=DataW.trod_string Tryz.underlying9 t0;obtain⟨z1,e1,_,s1⟩:=DataW.trod_string Tryz.underlying9 t1;simp only[List.cons.injEq,and_true]at e0 e1;rw[e0]at c0;rw[e1]at c1;exact⟨(z0,z1),⟨c0,c1⟩,s0,s1⟩
  obtain⟨q,hq⟩:=choose_lt each;refine⟨_,_,rfl,Eh (q:=q) hl fun i hi=>(hq i hi).1,fun e he=>?_⟩;obtain⟨j,hj,rfl⟩:=List.mem_map.1 he;exact(hq j (by simpa using hj)).2
theorem trod_struct4 {P:Program}{w:World}{t:TypeId}{f0 f1 f2 f3:Field}{fuel:Nat}{cs:List Value}{x:DataW H×List MemPlace}(ht:P.underlying t=some (.struct #[f0,f1,f2,f3]))(h:DataW.trod enc P w base spare held fuel t cs=some x):
  ∃y0 y1 y2 y3 n,cs.length=P.cellsOf t∧DataW.trod enc P w base spare held n f0.type ((cs.drop f0.offset).take (P.cellsOf f0.type))=some y0∧
   DataW.trod enc P w base spare held n f1.type ((cs.drop f1.offset).take (P.cellsOf f1.type))=some y1∧DataW.trod enc P w base spare held n f2.type ((cs.drop f2.offset).take (P.cellsOf f2.type))=some y2∧
   DataW.trod enc P w base spare held n f3.type ((cs.drop f3.offset).take (P.cellsOf f3.type))=some y3:=by
 obtain⟨xs,n,_,rfl,hl,hlen,hf⟩:=DataW.trod_struct ht h
 match xs,hlen with
 |[y0,y1,y2,y3],_=>exact⟨y0,y1,y2,y3,n,hl,by simpa using hf 0 f0 rfl,by simpa using hf 1 f1 rfl,by simpa using hf 2 f2 rfl,by simpa using hf 3 f3 rfl⟩
def Y6 (W:World)(r o:Nat)(n:Nd):Prop:=∃ve vk vs,W.cell? ⟨r,o,none⟩=some (.bool n.leaf)∧W.cell? ⟨r,o+1,none⟩=some ve∧W.cell? ⟨r,o+2,none⟩=some vk∧W.cell? ⟨r,o+3,none⟩=some vs∧gh W ve vk vs n∧∀e∈n.es,e.1.size<=maxLen∧e.2.size<=maxLen
def NdsR (W:World)(v:Value)(l:List Nd):Prop:=
 ∃ao cap,v=.slice ao l.length cap∧(l≠[]->∃r o,ao=some ⟨r,o,none⟩∧r<W.heap.size∧∀j,j<l.length->Y6 W r (o+j*4) (l.getD j nd0))
theorem NdsR.at {w wr:World}{ao:Option Addr}{n cap:Nat}{l:List Nd}{B:Nat}(h:NdsR w (.slice ao n cap) l)(hb:Below B w wr)(hB:w.heap.size<=B){j:Nat}(hj:j<l.length):
  ∃r o,ao=some ⟨r,o,none⟩∧r<wr.heap.size∧Y6 wr r (o+j*4) (l.getD j nd0):=by
 obtain⟨dG,cap',e,h1⟩:=h;cases e;obtain⟨r,o,e2,hr,hc⟩:=h1 (by intro e;rw[e]at hj;simp at hj);obtain⟨ve,vk,vs,c0,c1,c2,c3,hn,hz⟩:=hc j hj;have k:∀i,wr.cell? ⟨r,i,none⟩=w.cell? ⟨r,i,none⟩:=fun i=>World.cell?_of_block (a:=⟨r,i,none⟩) (hb.block r (by omega));exact⟨r,o,e2,Nat.lt_of_lt_of_le hr hb.size,ve,vk,vs,by rw[k];exact c0,by rw[k];exact c1,by rw[k];exact c2,by rw[k];exact c3,hn.below (hb.mono hB),hz⟩
theorem open_nodes {a:Option Addr}{len cap:Nat}(h:DataW.trod enc Tryz.prog W base spare held fuel 72 (Value.slice a len cap).cells.toList=some x):∃l:List Nd,NdsR W (.slice a len cap) l:=by
 rcases open_slice Tryz.underlying72 h with⟨hcs,_⟩| ⟨ad,l,c,m,n,D,Pl,hcs,_,hl,_,hm,_,hcell⟩
 ·simp[Value.cells]at hcs;obtain⟨rfl,rfl,rfl⟩:=hcs;exact⟨[],none,0,rfl,fun h=>absurd rfl h⟩
 ·simp[Value.cells]at hcs;obtain⟨rfl,rfl,rfl⟩:=hcs;have cp:Tryz.prog.cellsOf 74=4:=by kernel_rfl
  have cb:Tryz.prog.cellsOf 4=1:=by kernel_rfl
  have ce:Tryz.prog.cellsOf 27=1:=by kernel_rfl
  have ck:Tryz.prog.cellsOf 56=1:=by kernel_rfl
  have cz:Tryz.prog.cellsOf 66=1:=by kernel_rfl
  have each:∀i,i<len->∃q:Nd,∃ve vk vs,W.cell? (ad.add (i*4))=some (.bool q.leaf)∧W.cell? (ad.add (i*4+1))=some ve∧W.cell? (ad.add (i*4+2))=some vk∧W.cell? (ad.add (i*4+3))=some vs∧gh W ve vk vs q∧∀e∈q.es,e.1.size<=maxLen∧e.2.size<=maxLen:=by
   intro i hi;obtain⟨cs',h1,h2⟩:=hcell i (by rw[hm];split<;>omega);rw[cp]at h1;obtain⟨_,hlen,hc⟩:=World.cells?_some h1;obtain⟨y0,y1,y2,y3,k,_,g0,g1,g2,g3⟩:=trod_struct4 Tryz.underlying74 h2
   match cs',hlen with
   |[v0,v1,v2,v3],_=>
    simp[cb,ce,ck,cz]at g0 g1 g2 g3;obtain⟨z0,e0,_⟩:=DataW.trod_bool Tryz.underlying4 g0;obtain⟨z1,l1,e1,r1,q1⟩:=Aq g1;obtain⟨z2,l2,e2,r2⟩:=Ao g2;obtain⟨z3,l3,e3,r3⟩:=Ap g3;have c0:=hc 0 (by omega);have c1:=hc 1 (by omega);have c2:=hc 2 (by omega);have c3:=hc 3 (by omega);rw[add_add]at c0 c1 c2 c3;simp only[List.cons.injEq,and_true]at e0 e1 e2 e3;subst e0 e1 e2 e3;exact⟨⟨z0,l1,l2,l3⟩,v1,v2,v3,by simpa using c0,by simpa using c1,by simpa using c2,by simpa using c3,⟨r1,r2,r3⟩,q1⟩
  haveI:Inhabited Nd:=⟨nd0⟩
  obtain⟨q,hq⟩:=choose_lt each;have hg:∀j,j<len->((List.range len).map q).getD j nd0=q j:=fun j hj=>by simp[List.getD_eq_getElem?_getD,hj]
  refine⟨(List.range len).map q,some ad,cap,by simp,fun hne=>?_⟩;have hpos:0<len:=by
   rcases Nat.eq_zero_or_pos len with e|e
   ·subst e;exact absurd rfl hne
   ·exact e
  obtain⟨b,off,spot⟩:=ad;obtain⟨_,_,_,c0,_⟩:=hq 0 hpos;have hspot:spot=none:=by simpa[Addr.add]using World.cell?_spot c0
  subst hspot;rw[add_plain]at c0;refine⟨b,off,rfl,fS c0,fun j hj=>?_⟩;have hj2:j<len:=by simpa using hj
  rw[hg j hj2];obtain⟨ve,vk,vs,x0,x1,x2,x3,y⟩:=hq j hj2;simp only[add_plain]at x0 x1 x2 x3;exact⟨ve,vk,vs,x0,x1,x2,x3,y⟩
end N
section
open Go.RowKit
open Go.ChangeMaps (setBlock)
def Dk.tick (d:Dk):Int×Dk:=
 match d.brk with
 |none=>(0,d)
 |some 0=>(4,{d with down:=true,brk:=none})
 |some (k+1)=>(0,{d with brk:=some k})
def Dk.put (d:Dk)(i:Int)(s:ByteArray):Int×Dk:=
 if d.down then(4,d)else if d.has i then(if s.size=256 then {d with pend:=d.pend++[(i.toNat,s)],writes:=wrap64 (d.writes+1):Dk}.tick else(1,d))else(40,d)
theorem yl (l:List Wr)(x:Wr){k:Nat}(h:k<l.length):vW (l++[x]) k=vW l k:=by
 unfold vW;rw[List.getD_eq_getElem?_getD,List.getD_eq_getElem?_getD,List.getElem?_append_left h]
theorem Io (l:List Wr)(x:Wr):vW (l++[x]) l.length=x:=by
 unfold vW;rw[List.getD_eq_getElem?_getD];simp
theorem mE (l m:List Wr)(i:Nat):∀n,(∀k,k<n->vW l k=vW m k)->fJ l i n=fJ m i n
 |0,_=>rfl
 |n+1,h=>by rw[gX,gX,h n (Nat.lt_succ_self _),mE l m i n fun k hk=>h k (by omega)]
theorem ov (l:List Wr)(x:Wr)(i:Nat):fJ (l++[x]) i (l++[x]).length=if x.1=i then some x.2 else fJ l i l.length:=by
 rw[show(l++[x]).length=l.length+1 by simp,gX,Io,mE (l++[x]) l i l.length fun k hk=>yl l x hk]
theorem Dk.Ok.get {d:Dk}(h:d.Ok)(i:Int):(d.get i).2.Ok:=by
 unfold Dk.get;split
 ·exact h
 ·split
  ·exact⟨h.len,h.sz,h.pd,h.brk⟩
  ·exact h
theorem Dk.Ok.tick {d:Dk}(h:d.Ok):d.tick.2.Ok:=by
 unfold Dk.tick;split
 ·exact h
 ·exact⟨h.len,h.sz,h.pd,(fun k hk=>by cases hk)⟩
 ·rename_i k hk
  exact⟨h.len,h.sz,h.pd,fun j hj=>by have:=h.brk _ hk;cases hj;omega⟩
theorem Dk.Ok.put {d:Dk}(h:d.Ok)(i:Int)(s:ByteArray):(d.put i s).2.Ok:=by
 unfold Dk.put;split
 ·exact h
 ·split
  ·split
   ·rename_i h2 h3
    refine Dk.Ok.tick ⟨h.len,h.sz,fun p hp=>?_,h.brk⟩;rcases List.mem_append.1 hp with h1|h1
    ·exact h.pd p h1
    ·simp only[List.mem_singleton]at h1;subst h1;have:=of_decide_eq_true h2;exact⟨by show i.toNat<d.sure.length;omega,h3⟩
   ·exact h
  ·exact h
theorem ox (k q:Int)(v:Value):∀(l:List MapEntry) (j:Nat) (e:MapEntry),l[j]? =some e->e.key=.int .i64 k->(∀n,n<j->∀x,l[n]? =some x->isKey k x=false)->
  ((l.modify j fun e=>{e with key:=.int .i64 k,val:=v}).find? (isKey q)).map (·.val)=if q=k then some v else(l.find? (isKey q)).map (·.val)
 |[],j,e,h,_,_=>by simp at h
 |x::l,0,e,h,he,_=>by
  simp at h;subst h;by_cases hq:q=k
  ·simp[List.modify,isKey,hq]
  ·have hqk:(q==k)=false:=beq_eq_false_iff_ne.2 hq;simp[List.modify,List.find?,isKey,hq,he,hqk]
 |x::l,j+1,e,h,he,hn=>by
  have hx:=hn 0 (by omega) x rfl;have ih:=ox k q v l j e (by simpa using h) he (fun n hn' y hy=>hn (n+1) (by omega) y (by simpa using hy));simp only[List.modify_succ_cons,List.find?];by_cases hq:q=k
  ·subst hq;rw[hx];simpa using ih
  ·rw[if_neg hq]at ih⊢;cases isKey q x
   ·simpa using ih
   ·rfl
theorem Ei (k q:Int)(v:Value)(c:Nat)(l:List MapEntry)(h:l.find? (isKey k)=none):((l++[({key:=.int .i64 k,val:=v,born:=c}:MapEntry)]).find? (isKey q)).map (fun e=>e.val)=if q=k then some v else(l.find? (isKey q)).map (fun e=>e.val):=by
 rw[List.find?_append];by_cases hq:q=k
 ·subst hq;rw[h];simp[isKey]
 ·cases hf:l.find? (isKey q)<;>simp[isKey,hq]
theorem gY.put {w:World}{m:Nat}{g:Int->Option Value}(h:gY w m g)(k:Int)(v:Value):
  ∃es clock,(∀u:World,u.heap[m]? =w.heap[m]? ->(Instr.mapUpdate 102 (.map (some m)) (.int .i64 k) v).run Tryz.prog u=.ok () (setBlock u m (.map es clock)))∧
   ∀u:World,u.heap[m]? =some (.map es clock)->gY u m (fun q=>if q=k then some v else g q):=by
 obtain⟨es,clock,hb,hk,hg⟩:=h;rcases jE k es.toList 0 hk with⟨h1,h2⟩| ⟨j,e,h1,h2,h3,h4⟩
 ·refine⟨es.push {key:=.int .i64 k,val:=v,born:=clock},clock+1,fun u hu=>?_,fun u hu=>⟨_,_,hu,?_,fun q=>?_⟩⟩
  ·rw[hb]at hu;simp[Instr.mapUpdate,run_underlying Tryz.underlying102,MapKept.run_getObj_map hu,gp,gZ k _ u _ h2,MapKept.run_setObj_map _ hu,Result.andThen,setBlock]
  ·intro x hx;rw[Array.toList_push,List.mem_append]at hx;rcases hx with hx|hx
   ·exact hk x hx
   ·simp at hx;subst hx;exact⟨k,rfl⟩
  ·rw[Array.toList_push,Ei k q v clock es.toList h1,hg q]
 ·have hj:es[j]? =some e:=by simpa using h1
  obtain⟨q0,hq0⟩:=hk e (List.mem_of_getElem? h1);have hqk:q0=k:=by
   have:=List.find?_some h2;simp[isKey,hq0]at this;exact this.symm
  subst hqk;refine⟨es.modify j fun e=>{e with key:=.int .i64 q0,val:=v},clock,fun u hu=>?_,fun u hu=>⟨_,_,hu,?_,fun q=>?_⟩⟩
  ·rw[hb]at hu;simp[Instr.mapUpdate,run_underlying Tryz.underlying102,MapKept.run_getObj_map hu,gp,gZ q0 _ u _ h4,MapKept.run_setObj_map _ hu,Result.andThen,setBlock,hj,hq0,Instr.keyThatStays,Instr.sameBits]
  ·intro x hx;rw[Array.toList_modify]at hx;obtain⟨n,hn⟩:=List.mem_iff_getElem?.1 hx;rw[List.getElem?_modify]at hn;cases hy:es.toList[n]? with
   |none=>rw[hy]at hn;simp at hn
   |some y=>
    rw[hy]at hn;simp only[Option.map_eq_map,Option.map_some,Option.some.injEq]at hn;split at hn
    ·subst hn;exact⟨q0,rfl⟩
    ·subst hn;exact hk y (List.mem_of_getElem? hy)
  ·rw[Array.toList_modify,ox q0 q v es.toList j e h1 hq0 h3,hg q]
theorem th {w:World}{m:Nat}(h:m<w.heap.size)(o:Obj):(setBlock w m o).heap[m]? =some o:=by simp[setBlock,h]
theorem Ar (l:List Wr)(p:Wr):kF (l++[p])=kF l++[.int .i64 p.1,.string p.2]:=by simp[kF]
theorem Au (l:List Wr)(i:Nat)(s:ByteArray):(fun q:Int=>if q=i then some (.agg #[.int .i64 i,.string s])else mapOf l q)=mapOf (l++[(i,s)]):=by
 funext q
 by_cases hq:q=i
 ·subst hq;rw[if_pos rfl];unfold mapOf;rw[if_neg (by omega),Int.toNat_natCast,ov,if_pos rfl];rfl
 ·rw[if_neg hq];unfold mapOf;split
  ·rfl
  ·rw[ov,if_neg (by simp;omega)]
theorem cB.drew (X:Nat->Prop)(w:World):cB X w w.drew:=⟨rfl,rfl,rfl,Nat.le_refl _,fun _ _ _=>rfl⟩
section
variable {w:World}{b m g:Nat}{pv:Value}{br:Bool}{lf:Int}{d:Dk}
theorem Mem.c1 (h:Mem w b m g pv br lf d):w.cell? ⟨b,1,none⟩=some pv:=by simp[World.cell?,h.blk]
theorem Mem.c3 (h:Mem w b m g pv br lf d):w.cell? ⟨b,3,none⟩=some (.bool br):=by simp[World.cell?,h.blk]
theorem Mem.c4 (h:Mem w b m g pv br lf d):w.cell? ⟨b,4,none⟩=some (.int .i64 lf):=by simp[World.cell?,h.blk]
theorem Mem.c7 (h:Mem w b m g pv br lf d):w.cell? ⟨b,7,none⟩=some (.int .i64 d.writes):=by simp[World.cell?,h.blk]
end
theorem ym {k:IntKind}{a b:Int}(h:a=b):Ending.returned (.int k a)=.returned (.int k b):=by rw[h]
theorem dz.drew {b:Nat}{u w:World}(h:dz b u w):dz b u w.drew:=⟨h.os,h.tape,h.output,h.size,h.block⟩
theorem dz.turn {X:Nat->Prop}{b:Nat}{w w':World}(h:dz b w w')(hX:X b):cB X w w':=
 ⟨h.os,h.tape,h.output,Nat.le_of_eq h.size.symm,fun k _ hx=>h.block k (fun e=>hx (by rw[e];exact hX))⟩
section
variable {w w':World}{b m g:Nat}{pv:Value}{br:Bool}{lf:Int}{d:Dk}
theorem Mem.Xp (h:Mem w b m g pv br lf d)(x:Int):Mem (w.setCell ⟨b,7,none⟩ (.int .i64 x)) b m g pv br lf {d with writes:=x}:=
 h.upd (dz.setCell b 7 w _) rfl rfl (by simp[World.setCell,Array.getElem?_modify,h.blk]) h.enc ⟨h.ok.len,h.ok.sz,h.ok.pd,h.ok.brk⟩
theorem yn (h:Mem w b m g pv br lf d)(hd:d.down=false):Calls Tryz.prog 67 #[ptr b] w fun e w'=>e=.returned (.tuple #[])∧dz b w w'∧Fj w' b m g pv d.tick.2:=by
 have H:Hid (Mem w b m g pv br lf d):=h;have c3:=h.c3;have c4:=h.c4;have c5:=h.c5;have f4:=h.fz 4;have f5:=h.fz 5;have lt:=h.bl;rcases h.enc hd with⟨e1,rfl⟩| ⟨k,e1,rfl,rfl⟩
 ·have HT:Hid (d.tick.2=d):=by show d.tick.2=d;unfold Dk.tick;rw[e1]
  clear h e1 hd;go_enter Tryz.func67,Tryz.ntmps67;go_wp2
  go_end0
  exact⟨rfl,dz.refl _ _,false,lf,by rw[HT.out];exact H.out⟩
 ·cases k with
  |zero=>
   have HT:Hid (d.tick.2={d with down:=true,brk:=none}):=by show d.tick.2=_;unfold Dk.tick;rw[e1]
   clear h e1 hd;go_enter Tryz.func67,Tryz.ntmps67;go_wp2
   go_end0
   refine⟨rfl,dz.setCell b 5 w _,true,0,?_⟩;rw[HT.out];exact H.out.upd (dz.setCell b 5 w _) rfl rfl (by simp[World.setCell,Array.getElem?_modify,H.out.blk]) (fun h=>by cases h) ⟨H.out.ok.len,H.out.ok.sz,H.out.ok.pd,(fun k hk=>by cases hk)⟩
  |succ k=>
   have HT:Hid (d.tick.2={d with brk:=some k}):=by show d.tick.2=_;unfold Dk.tick;rw[e1]
   have HK:Hid (k+1<=9223372036854775807):=h.ok.brk _ e1;have HD:Hid (d.down=false):=hd;have hk:=HK.out;have gt:(0:Int)< ((k+1:Nat):Int):=by omega
   clear h e1 hd;have ew:wrap64 (((k+1:Nat):Int)-1)=(k:Int):=by unfold wrap64;omega
   go_enter Tryz.func67,Tryz.ntmps67;go_wp2
   go_end0
   refine⟨rfl,dz.setCell b 4 w _,true,k,?_⟩;rw[HT.out];refine H.out.upd (dz.setCell b 4 w _) rfl rfl ?_ (fun h=>.inr ⟨k,rfl,rfl,rfl⟩) ⟨H.out.ok.len,H.out.ok.sz,H.out.ok.pd,(fun j hj=>by cases hj;omega)⟩;simp[World.setCell,Array.getElem?_modify,H.out.blk]
theorem Mem.drew (h:Mem w b m g pv br lf d):Mem w.drew b m g pv br lf d:=h.kept rfl rfl rfl (fun _ _=>rfl)
end
section
variable {w w':World}{b m g:Nat}{pv:Value}{br:Bool}{lf:Int}{d:Dk}
theorem Ej:(Tryz.prog.info? 127).map (fun i=>(i.zero,i.size,i.bytes))=some (some (.agg #[.int .i64 0,.string ByteArray.empty]),2,24):=by kernel_rfl
theorem Av {ops:Array Oper}{o:Oper}{a:Act}{w:World}{K:Act->World->Prop}{Q:Exit->Act->World->Prop}{E:Prop}
  (hg:o.guard=none)(s x:Operand)(hop:o.op=Op.call {callee:=Callee.builtin Builtin.append,args:=#[s,x],argTypes:=#[103,103]})
  (v:Value)(l:List Wr)(hs:a.eval s=v)(hown:w.ownsRow 0 127 2 v l.length (kF l))(r c:Nat)(hx:a.eval x=.slice (some ⟨r,0,none⟩) 1 c)(p:Wr)
  (c0:w.cell? ⟨r,0,none⟩=some (.int .i64 p.1))(c1:w.cell? ⟨r,1,none⟩=some (.string p.2))(hl:l.length<100000)
  (hK:∀ao n' c' w',w'.ownsRow 0 127 2 (.slice ao n' c') (l++[p]).length (kF (l++[p]))->w.grownBy w' v.ownBlock->((Value.slice ao n' c').ownBlock=v.ownBlock∨(Value.slice ao n' c').ownBlock=some w.heap.size)->K (a.put o.dst (.slice ao n' c')) w'):
  if Region.wanted o (yielded ops a.tmps)=true then Oper.wp Tryz.prog o a w K Q else E:=by
 have hw:Region.wanted o (yielded ops a.tmps)=true:=by simp[Region.wanted,hg]
 rw[if_pos hw];obtain⟨i0,hi,hz0,hz1,hz2⟩:=info_parts Ej;obtain⟨v',w',hr,h2,h3,h4,h5⟩:=run_append_own_at (P:=Tryz.prog) w 0 103 o.type 127 i0 _ 2 24 Tryz.underlying103 hi hz0 hz1 hz2 rfl (by decide) v l.length (kF l) hown ⟨r,0,none⟩ 1 c [.int .i64 p.1,.string p.2] rfl (fun j u hj=>by
  match j,hj with
  |0,hj=>simp at hj;subst hj;exact c0
  |1,hj=>simp at hj;subst hj;exact c1
  |j+2,hj=>simp at hj) (fun u hu=>by simp at hu;rcases hu with rfl|rfl<;>rfl) (by unfold maxLen;omega) (by omega) (Nat.zero_le _)
 unfold Oper.wp;simp[execOp,hop,resolve,invoke,builtin,hs,hx,hr,Result.andThen];obtain⟨ao,n',c',rfl⟩:∃ao n c,v'=.slice ao n c:=by
  rcases h2.2 with⟨h,_⟩| ⟨g,cap,cur,h,_⟩
  ·exact⟨_,_,_,h⟩
  ·exact⟨_,_,_,h⟩
 refine hK ao n' c' w' ?_ h3 h5;rw[Ar];simpa using h2
theorem Ek {w2:World}{v':Value}(h:Mem w b m g pv br lf d)(n:Nat)(hn:n<d.sure.length)(s:ByteArray)(hs:s.size=256)(hG:((w.alloc (bx n s)).alloc (bx n s)).drew.grownBy w2 pv.ownBlock)
  (hO:w2.ownsRow 0 127 2 v' (d.pend++[(n,s)]).length (kF (d.pend++[(n,s)])))(hL:v'.ownBlock=pv.ownBlock∨v'.ownBlock=some (w.heap.size+1+1)):
  ∃w4,(Instr.mapUpdate 102 (.map (some m)) (.int .i64 n) (.agg #[.int .i64 n,.string s])).run Tryz.prog (w2.setCell ⟨b,1,none⟩ v').drew=.ok () w4∧
   Mem w4 b m g v' br lf {d with pend:=d.pend++[(n,s)]}∧cB (fun k=>k=b∨k=m∨pv.ownBlock=some k) w w4∧
   (w2.setCell ⟨b,1,none⟩ v').cell? ⟨b,2,none⟩=some (.map (some m))∧(w2.setCell ⟨b,1,none⟩ v').cell? ⟨w.heap.size,0,none⟩=some (.int .i64 n)∧(w2.setCell ⟨b,1,none⟩ v').cell? ⟨w.heap.size,1,none⟩=some (.string s):=by
 have hsz:w.heap.size+2<=w2.heap.size:=by have:=hG.size;simpa using this
 have hW:∀k,k<w.heap.size->((w.alloc (bx n s)).alloc (bx n s)).drew.heap[k]? =w.heap[k]? :=fun k hk=>
  (Below.heap_alloc (w.alloc (bx n s)) _ k (by simp;omega)).trans (Below.heap_alloc w _ k hk)
 have hWn:((w.alloc (bx n s)).alloc (bx n s)).drew.heap[w.heap.size]? =some (bx n s):=(Below.heap_alloc (w.alloc (bx n s)) _ _ (by simp)).trans (heap_alloc_new w _);have k2:∀k,k<w.heap.size->pv.ownBlock≠some k->w2.heap[k]? =w.heap[k]? :=fun k hk hp=>(hG.block k (by simp;omega) (Ne.symm hp)).trans (hW k hk);have Y7:w2.heap[w.heap.size]? =some (bx n s):=(hG.block _ (by simp;omega) (fun e=>by have:=(h.pk e.symm).1;omega)).trans hWn;have hb2:=k2 b h.bl h.pb;have hg2:=k2 g h.gl h.pg;have hm2:=k2 m h.map.lt h.pm;have hvb:∀k,v'.ownBlock=some k->k≠b∧k≠g∧k≠m:=fun k hk=>by
  rcases hL with e|e
  ·exact(h.pk (e▸hk)).2
  ·rw[hk]at e;have e2:k=w.heap.size+1+1:=Option.some.inj e;have:=h.bl;have:=h.gl;have:=h.map.lt;omega
 obtain⟨es,clock,hrun,hmap⟩:=h.map.put n (.agg #[.int .i64 n,.string s]);have e3:∀k,k≠b->(w2.setCell ⟨b,1,none⟩ v').heap[k]? =w2.heap[k]? :=fun k hk=>Below.heap_setCell _ _ _ _ hk;have hb3:(w2.setCell ⟨b,1,none⟩ v').heap[b]? =some (.cells #[.slice (some ⟨g,0,none⟩) d.sure.length d.sure.length,v',.map (some m),.bool br,.int .i64 lf,.bool d.down,.int .i64 d.reads,.int .i64 d.writes] 110 (0,0)):=by
  simp[World.setCell,Array.getElem?_modify,hb2,h.blk]
 refine⟨_,hrun (w2.setCell ⟨b,1,none⟩ v').drew ((e3 m h.bm.symm).trans hm2),?_,?_,?_,?_,?_⟩
 ·refine⟨?_,?_,?_,?_,h.enc,⟨h.ok.len,h.ok.sz,fun p hp=>?_,h.ok.brk⟩,h.bg,h.bm,h.gm,fun e=>(hvb _ e).1 rfl,fun e=>(hvb _ e).2.1 rfl,fun e=>(hvb _ e).2.2 rfl⟩
  ·rw[eo _ h.bm];exact hb3
  ·rw[eo _ h.gm];exact(e3 g h.bg.symm).trans (hg2.trans h.row)
  ·exact dW hO (fun k hk=>by rw[eo _ (hvb k hk).2.2];exact e3 k (hvb k hk).1)
  ·have:=hmap (setBlock (w2.setCell ⟨b,1,none⟩ v').drew m (.map es clock)) (th (by have:=h.map.lt;simp[World.setCell];omega) _);rw[Au]at this;exact this
  ·rcases List.mem_append.1 hp with h1|h1
   ·exact h.ok.pd p h1
   ·simp only[List.mem_singleton]at h1;subst h1;exact⟨hn,hs⟩
 ·refine⟨hG.os,hG.tape,hG.output,?_,fun k hk hx=>?_⟩
  ·simp[setBlock,World.setCell];omega
  ·rw[eo _ (fun e=>hx (.inr (.inl e)))];exact(e3 k (fun e=>hx (.inl e))).trans (k2 k hk (fun e=>hx (.inr (.inr e))))
 ·simp[World.cell?,hb3]
 ·rw[World.cell?_of_block (a:=⟨w.heap.size,0,none⟩) (e3 _ (by have:=h.bl;show w.heap.size≠b;omega))];simp[World.cell?,Y7]
 ·rw[World.cell?_of_block (a:=⟨w.heap.size,1,none⟩) (e3 _ (by have:=h.bl;show w.heap.size≠b;omega))];simp[World.cell?,Y7]
theorem Ip {d:Dk}(h:d.down=false):d.tick.1=if d.tick.2.down=true then 4 else 0:=by
 unfold Dk.tick;split<;>simp[h]
theorem Iq (h:Mem w b m g pv br lf d)(n:Nat)(hn:n<d.sure.length)(s:ByteArray)(hs:s.size=256)(hd:d.down=false)(hl:d.pend.length<100000):
  Calls Tryz.prog 34 #[ptr b,.int .i64 n,.string s] w fun e w'=>e=.returned (.int .i64 (d.put n s).1)∧∃pv',cB (fun k=>k=b∨k=m∨pv.ownBlock=some k) w w'∧(∀k,pv'.ownBlock=some k->pv.ownBlock=some k∨w.heap.size<=k)∧Fj w' b m g pv' (d.put n s).2:=by
 have H:Hid (Mem w b m g pv br lf d):=h;have C1:Hid (Calls Tryz.prog 64 #[ptr b] w fun e w'=>e=.returned (.bool d.down)∧w=w'):=yX h;have hi:d.has n=true:=by unfold Dk.has;simp;omega
 have C2:Hid (Calls Tryz.prog 65 #[ptr b,.int .i64 n] w fun e w'=>e=.returned (.bool (d.has n))∧w=w'):=Fi h n;have lt:=h.bl;have c1:=h.c1;have f1:=h.fz 1;have PN:Hid (w.ownsRow 0 127 2 pv d.pend.length (kF d.pend)):=h.UX;have hW0:∀k,k<w.heap.size->((w.alloc (.cells #[.int .i64 n,.string s] 127)).alloc (.cells #[.int .i64 n,.string s] 127)).drew.heap[k]? =w.heap[k]? :=fun k hk=>
  (Below.heap_alloc (w.alloc (.cells #[.int .i64 n,.string s] 127)) _ k (by simp;omega)).trans (Below.heap_alloc w _ k hk)
 have HW:Hid (∀k,k<w.heap.size->((w.alloc (.cells #[.int .i64 n,.string s] 127)).alloc (.cells #[.int .i64 n,.string s] 127)).drew.heap[k]? =w.heap[k]?):=hW0;have HWn:Hid (((w.alloc (.cells #[.int .i64 n,.string s] 127)).alloc (.cells #[.int .i64 n,.string s] 127)).drew.heap[w.heap.size]? =some (.cells #[.int .i64 n,.string s] 127 (0,0))):=by
  show((w.alloc _).alloc _).heap[w.heap.size]? =_;rw[Below.heap_alloc _ _ _ (by simp)];exact heap_alloc_new w _
 clear h hW0;go_enter Tryz.func34,Tryz.ntmps34
 go_wp2_with fail
 refine Calls.mono C1.out ?_;rintro e w1 ⟨rfl,rfl⟩
 go_wp2_with fail
 refine Calls.mono C2.out ?_;rintro e w1 ⟨rfl,rfl⟩;go_wp2
 go_region_law (refine Av rfl _ _ rfl pv d.pend rfl (dW PN.out (fun k hk=>HW.out k (H.out.pk hk).1)) _ _ rfl ((n:Nat),s) ?k1 ?k2 hl ?_;(case k1=>simp);(case k2=>simp);intro ao n' c' w2 hown2 QT Oj;have hb2:Hid (w2.heap[b]? =w.heap[b]?):=(QT.block b (by simp;omega) H.out.pb.symm).trans (HW.out b lt);have Vf:w2.cell? ⟨b,1,none⟩=some pv:=(World.cell?_of_block (a:=⟨b,1,none⟩) hb2.out).trans c1;have fb2:w2.frozen? ⟨b,1,none⟩=false:=(World.frozen?_of_block (a:=⟨b,1,none⟩) hb2.out).trans f1;have TJ:Hid (w2.ownsRow 0 127 2 (.slice ao n' c') (d.pend++[(n,s)]).length (kF (d.pend++[(n,s)]))):=hown2;have HL2:Hid ((Value.slice ao n' c').ownBlock=pv.ownBlock∨(Value.slice ao n' c').ownBlock=some (w.heap.size+1+1)):=(by show _∨_;simpa using Oj);have HG2:Hid (((w.alloc (.cells #[.int .i64 n,.string s] 127)).alloc (.cells #[.int .i64 n,.string s] 127)).drew.grownBy w2 pv.ownBlock):=QT;clear hown2 QT Oj)
 all_goals
  obtain⟨w4,Ol,Om,Y8,c2,l0,l1⟩:=Ek H.out n hn s hs HG2.out TJ.out HL2.out;obtain⟨v',ev⟩:∃v',v'=Value.slice ao n' c':=⟨_,rfl⟩;rw[<-ev]at Ol Om c2 l0 l1;have Y9:Hid (v'.ownBlock=pv.ownBlock∨v'.ownBlock=some (w.heap.size+1+1)):=by rw[ev];exact HL2.out
  rw[<-ev];obtain⟨w3,e3⟩:∃w3,w3=w2.setCell ⟨b,1,none⟩ v':=⟨_,rfl⟩;rw[<-e3]at Ol c2 l0 l1;rw[<-e3];have M4:Hid (Mem w4 b m g v' br lf {d with pend:=d.pend++[(n,s)]}):=Om;have T4:Hid (cB (fun k=>k=b∨k=m∨pv.ownBlock=some k) w w4):=Y8;have C3:Hid (Calls Tryz.prog 66 #[.pointer (some ⟨b,7,none⟩),.int .i64 1] w4 fun e w'=>e=.returned (.int .i64 (wrap64 (d.writes+1)))∧w'=w4.setCell ⟨b,7,none⟩ (.int .i64 (wrap64 (d.writes+1)))):=ND 7 _ _ Om.c7 (Om.fz 7);obtain⟨w5,e5⟩:∃w5,w5=w4.setCell ⟨b,7,none⟩ (.int .i64 (wrap64 (d.writes+1))):=⟨_,rfl⟩;have M5:Hid (Mem w5 b m g v' br lf {d with pend:=d.pend++[(n,s)],writes:=wrap64 (d.writes+1)}):=by show Mem _ _ _ _ _ _ _ _;rw[e5];exact Om.Xp _
  have T5:Hid (dz b w4 w5):=by show dz _ _ _;rw[e5];exact dz.setCell _ _ _ _
  rw[<-e5]at C3;have C4:Hid (Calls Tryz.prog 67 #[ptr b] w5 fun e w'=>e=.returned (.tuple #[])∧dz b w5 w'∧Fj w' b m g v' {d with pend:=d.pend++[(n,s)],writes:=wrap64 (d.writes+1):Dk}.tick.2):=yn M5.out hd;have HP:Hid (d.put n s={d with pend:=d.pend++[(n,s)],writes:=wrap64 (d.writes+1):Dk}.tick):=by
   show d.put n s=_;unfold Dk.put;rw[if_neg (by simp[hd]),if_pos hi,if_pos hs];rfl
  have TR:Hid ({d with pend:=d.pend++[(n,s)],writes:=wrap64 (d.writes+1):Dk}.tick.1=if {d with pend:=d.pend++[(n,s)],writes:=wrap64 (d.writes+1):Dk}.tick.2.down=true then 4 else 0):=Ip hd;have X8:=Om.bl;have lt5:=M5.out.bl;have c7:=Om.c7;clear Om Y8 e3 e5 ev HL2 HG2 TJ Vf fb2 hb2 c1 f1 HW HWn;go_wp2
  go_region
  go_wp2_with fail
  refine Calls.mono C3.out ?_;rintro e w6 ⟨rfl,rfl⟩
  go_wp2_with fail
  refine Calls.mono C4.out ?_;rintro e w6 ⟨rfl,O6,Xq,lf6,M6⟩;have c5:=M6.c5;have lt6:=M6.bl;have Xr:Hid (Mem w6 b m g v' Xq lf6 {d with pend:=d.pend++[(n,s)],writes:=wrap64 (d.writes+1):Dk}.tick.2):=M6;clear M6;obtain⟨dd,ed⟩:∃dd,dd={d with pend:=d.pend++[(n,s)],writes:=wrap64 (d.writes+1):Dk}.tick:=⟨_,rfl⟩;rw[<-ed]at c5 Xr HP TR;have fin:cB (fun k=>k=b∨k=m∨pv.ownBlock=some k) w w6:=(T4.out.trans (T5.out.turn (X:=fun k=>k=b) rfl) (fun k hk=>.inl (.inl hk))).trans (O6.turn (X:=fun k=>k=b) rfl) (fun k hk=>.inl (.inl hk));have FIN:Hid (cB (fun k=>k=b∨k=m∨pv.ownBlock=some k) w w6):=fin;clear fin O6 ed;cases hdn:dd.2.down with
  |true=>
   rw[hdn]at c5 TR;go_wp2;go_ret;rw[HP.out];exact⟨ym TR.out.symm,v',FIN.out,fun k hk=>Y9.out.elim (fun e=>.inl (e▸hk)) (fun e=>.inr (by rw[hk]at e;have:=Option.some.inj e;omega)),Xq,lf6,Xr.out⟩
  |false=>
   rw[hdn]at c5 TR;go_wp2;go_ret;rw[HP.out];exact⟨ym TR.out.symm,v',FIN.out,fun k hk=>Y9.out.elim (fun e=>.inl (e▸hk)) (fun e=>.inr (by rw[hk]at e;have:=Option.some.inj e;omega)),Xq,lf6,Xr.out⟩
theorem rL (h:Mem w b m g pv br lf d)(i:Int)(s:ByteArray)(hno:d.down=true∨d.has i=false∨s.size≠256)(hsz:s.size<=maxLen):
  Calls Tryz.prog 34 #[ptr b,.int .i64 i,.string s] w fun e w'=>e=.returned (.int .i64 (d.put i s).1)∧w=w'∧(d.put i s).2=d:=by
 have C1:Hid (Calls Tryz.prog 64 #[ptr b] w fun e w'=>e=.returned (.bool d.down)∧w=w'):=yX h;have C2:Hid (Calls Tryz.prog 65 #[ptr b,.int .i64 i] w fun e w'=>e=.returned (.bool (d.has i))∧w=w'):=Fi h i;have lt:=h.bl;clear h;unfold maxLen at hsz;by_cases hd:d.down=true
 ·have HP:Hid (d.put i s=(4,d)):=by show d.put i s=_;unfold Dk.put;rw[if_pos hd]
  clear hno;go_enter Tryz.func34,Tryz.ntmps34
  go_wp2_with fail
  refine Calls.mono C1.out ?_;rintro e w1 ⟨rfl,rfl⟩;go_wp2;go_ret;rw[HP.out];exact⟨rfl,rfl,rfl⟩
 ·have hf:d.down=false:=by simpa using hd
  by_cases hi:d.has i=true
  ·have hs:s.size≠256:=by
    rcases hno with h|h|h
    ·exact absurd h hd
    ·rw[hi]at h;cases h
    ·exact h
   have HP:Hid (d.put i s=(1,d)):=by show d.put i s=_;unfold Dk.put;rw[if_neg hd,if_pos hi,if_neg hs]
   have hs2:((s.size:Int)==256)=false:=beq_eq_false_iff_ne.2 (by omega);clear hno;go_enter Tryz.func34,Tryz.ntmps34
   go_wp2_with fail
   refine Calls.mono C1.out ?_;rintro e w1 ⟨rfl,rfl⟩
   go_wp2_with fail
   refine Calls.mono C2.out ?_;rintro e w1 ⟨rfl,rfl⟩;go_wp2;go_ret;rw[HP.out];exact⟨rfl,rfl,rfl⟩
  ·have hif:d.has i=false:=by simpa using hi
   have HP:Hid (d.put i s=(40,d)):=by show d.put i s=_;unfold Dk.put;rw[if_neg hd,if_neg hi]
   clear hno;go_enter Tryz.func34,Tryz.ntmps34
   go_wp2_with fail
   refine Calls.mono C1.out ?_;rintro e w1 ⟨rfl,rfl⟩
   go_wp2_with fail
   refine Calls.mono C2.out ?_;rintro e w1 ⟨rfl,rfl⟩;go_wp2;go_ret;rw[HP.out];exact⟨rfl,rfl,rfl⟩
end
section
variable {X:Nat->Prop}{w w':World}{b m g:Nat}{pv pv':Value}{br:Bool}{lf:Int}{d d':Dk}
theorem Goes.same (h:Mine X w b d):Goes X w w b d:=⟨X,h,cB.refl _ _,fun _ hk=>.inl hk⟩
theorem MF (h:Mine X w b d)(i:Int)(s:ByteArray)(hs:s.size<=maxLen)(hp:d.pend.length<100000):Calls Tryz.prog 34 #[ptr b,.int .i64 i,.string s] w fun e w'=>e=.returned (.int .i64 (d.put i s).1)∧Goes X w w' b (d.put i s).2:=by
 have h0:=h;obtain⟨⟨m,g,pv,br,lf,hM,xb,xm,xg,xp⟩,hl⟩:=h;by_cases hd:d.down=true
 ·refine(rL hM i s (.inl hd) hs).mono ?_;rintro e w' ⟨he,rfl,hq⟩;exact⟨he,by rw[hq];exact Goes.same h0⟩
 ·by_cases hi:d.has i=true
  ·by_cases Ug:s.size=256
   ·obtain⟨h1,h2⟩:=of_decide_eq_true hi;obtain⟨n,rfl⟩:∃n:Nat,i=n:=⟨i.toNat,by omega⟩;refine(Iq hM n (by omega) s Ug (by simpa using hd) hp).mono ?_;rintro e w' ⟨he,pv',ht,hpv,hm⟩;exact⟨he,AW hl hm xb xm xg (fun k hk=>(hpv k hk).imp (xp k) id) (ht.sub (fun k hk=>by rcases hk with rfl|rfl|hk;exact xb;exact xm;exact xp k hk))⟩
   ·refine(rL hM i s (.inr (.inr Ug)) hs).mono ?_;rintro e w' ⟨he,rfl,hq⟩;exact⟨he,by rw[hq];exact Goes.same h0⟩
  ·refine(rL hM i s (.inr (.inl (by simpa using hi))) hs).mono ?_;rintro e w' ⟨he,rfl,hq⟩;exact⟨he,by rw[hq];exact Goes.same h0⟩
end
section
variable {B:Nat}{w0 w w':World}{a b c e:aO}{l:List aO}
end
section
variable {B:Nat}{w0 w w':World}{b:Nat}{d d':Dk}{l:List aO}
theorem MG (h:Sep B w0 w (kv b d::l))(i:Int)(s:ByteArray)(hs:s.size<=maxLen)(hp:d.pend.length<100000):Calls Tryz.prog 34 #[ptr b,.int .i64 i,.string s] w fun e w'=>e=.returned (.int .i64 (d.put i s).1)∧Sep B w0 w' (kv b (d.put i s).2::l):=Calls.AY (Q:=fun _ _=>True) h fun _ hm=>MF hm i s hs hp
end
section
variable {B:Nat}{w0 w w':World}{l:List aO}{e:TypeId}{v:Value}{cs:List Value}
end
section
variable {ops:Array Oper}{rest:List Oper}{o:Oper}{a:Act}{Q:Exit->Act->World->Prop}{B:Nat}{w0 w:World}{l:List aO}
end
theorem Dk.MH {d:Dk}{n:Nat}(h:n<d.sure.length):d.has n=true:=by unfold Dk.has;simp;omega
theorem Dk.QU {d:Dk}{i:Int}(hd:d.down=false)(hi:d.has i=true):d.get i=((d.now i.toNat,0),{d with reads:=wrap64 (d.reads+1)}):=by
 unfold Dk.get;rw[if_neg (by simp[hd]),if_pos hi]
theorem Dk.zl {d:Dk}{i:Int}{s:ByteArray}(hd:d.down=false)(hi:d.has i=true)(hs:s.size=256):d.put i s={d with pend:=d.pend++[(i.toNat,s)],writes:=wrap64 (d.writes+1):Dk}.tick:=by
 unfold Dk.put;rw[if_neg (by simp[hd]),if_pos hi,if_pos hs]
theorem Dk.ML {d:Dk}{i:Int}{s:ByteArray}(hd:d.down=false)(hi:d.has i=true)(hs:s.size≠256):d.put i s=(1,d):=by
 unfold Dk.put;rw[if_neg (by simp[hd]),if_pos hi,if_neg hs]
theorem Dk.El {d:Dk}{i:Int}{s:ByteArray}(hd:d.down=false)(hi:d.has i=false):d.put i s=(40,d):=by
 unfold Dk.put;rw[if_neg (by simp[hd]),if_neg (by simp[hi])]
theorem Up.new (n:Nat)(h:n<=16384):Up n (Dk.new n):=⟨rfl,rfl,by simp[Dk.new];omega⟩
theorem Up.get {n:Nat}{d:Dk}(h:Up n d)(j:Nat)(hj:j<n):(d.get j).1=(d.now j,0)∧Up n (d.get j).2∧(∀i,(d.get j).2.now i=d.now i)∧(d.get j).2.pend=d.pend∧(d.get j).2.sure=d.sure:=by
 rw[Dk.QU h.dn (Dk.MH (by rw[h.sl];exact hj))];exact⟨rfl,⟨h.dn,h.br,h.sl⟩,fun _=>rfl,rfl,rfl⟩
theorem Up.put {n:Nat}{d:Dk}(h:Up n d)(i:Int)(s:ByteArray):
  ((d.put i s).1=0∧0<=i∧i<n∧s.size=256∧Up n (d.put i s).2∧(d.put i s).2.pend=d.pend++[(i.toNat,s)]∧(d.put i s).2.sure=d.sure∧(d.put i s).2.reads=d.reads∧(d.put i s).2.writes=wrap64 (d.writes+1))∨
  ((d.put i s).1≠0∧(d.put i s).2=d∧¬(0<=i∧i<n∧s.size=256)):=by
 by_cases hi:d.has i=true
 ·by_cases hs:s.size=256
  ·have e:=Dk.zl h.dn hi hs;unfold Dk.tick at e;rw[show({d with pend:=d.pend++[(i.toNat,s)],writes:=wrap64 (d.writes+1)}:Dk).brk=none from h.br]at e;rw[e];have:=of_decide_eq_true hi;exact .inl ⟨rfl,this.1,by rw[<-h.sl];exact this.2,hs,⟨h.dn,rfl,h.sl⟩,rfl,rfl,rfl,rfl⟩
  ·rw[Dk.ML h.dn hi hs];exact .inr ⟨by show(1:Int)≠0;decide,rfl,fun h=>hs h.2.2⟩
 ·rw[Dk.El h.dn (by simpa using hi)];refine .inr ⟨by show(40:Int)≠0;decide,rfl,fun h2=>hi ?_⟩;unfold Dk.has;exact decide_eq_true ⟨h2.1,by rw[h.sl];exact h2.2.1⟩
theorem Sep.lt {B:Nat}{w0 w:World}{b:Nat}{d:Dk}{l:List aO}(h:Sep B w0 w (kv b d::l)):b<w.heap.size:=by
 obtain⟨X,⟨m,g,pv,br,lf,hM,_⟩,_⟩:=h.mine;exact hM.bl
def Dk.wr (d:Dk)(id:Int)(kind:UInt8)(b:ByteArray):Int×Dk:=
 if ky d id then(if 240<b.size then(50,d)else d.put id (jm id kind b))else(40,d)
theorem rM (id:Int)(kind:UInt8)(b:ByteArray)(h:b.size<=240):(jm id kind b).size=256:=by
 unfold jm;rw[jX,lO _ _ _ (by simpa using h)]
theorem Aw {d:Dk}(ok:d.Ok){id:Int}(h:ky d id=true){n:Nat}:eO id n=if 240<n then 50 else 0:=by
 have h1:=of_decide_eq_true h;have h2:=ok.len;unfold eO;split
 ·rfl
 ·rw[if_pos ((E5 id).2 (by omega))]
theorem Cf {n:Nat}{d:Dk}(h:Up n d)(i:Int):ky d i=decide (2<=i∧i<n):=by unfold ky;rw[h.sl]
theorem Up.wr {n:Nat}{d:Dk}(h:Up n d)(i:Int)(k:UInt8)(s:ByteArray):
  ((d.wr i k s).1=0∧2<=i∧i<n∧s.size<=240∧Up n (d.wr i k s).2∧(d.wr i k s).2.pend=d.pend++[(i.toNat,jm i k s)]∧(d.wr i k s).2.sure=d.sure)∨
  ((d.wr i k s).1≠0∧(d.wr i k s).2=d∧¬(2<=i∧i<n∧s.size<=240)):=by
 unfold Dk.wr;rw[Cf h];by_cases hi:2<=i∧i<n
 ·rw[decide_eq_true hi,if_pos rfl];by_cases hs:240<s.size
  ·rw[if_pos hs];exact .inr ⟨by show(50:Int)≠0;decide,rfl,fun c=>by omega⟩
  ·rw[if_neg hs];rcases h.put i (jm i k s)with⟨p1,p2,p3,p4,p5,p6,p7,_⟩| ⟨_,_,p3⟩
   ·exact .inl ⟨p1,hi.1,hi.2,by omega,p5,p6,p7⟩
   ·exact absurd ⟨by omega,hi.2,rM _ _ _ (by omega)⟩ p3
 ·rw[decide_eq_false hi,if_neg (by decide)];exact .inr ⟨by show(40:Int)≠0;decide,rfl,fun c=>hi ⟨c.1,c.2.1⟩⟩
section
variable {B:Nat}{w0 w w':World}{f b:Nat}{d d':Dk}{l:List aO}
theorem MN (T:bW B w0)(h:Sep B w0 w (File f b d::l))(id:Int)(kind:UInt8)(s:ByteArray)(hs:s.size<=maxLen)(hl:d.pend.length<100000):
  Calls Tryz.prog 37 #[ptr f,.int .i64 id,.int .u8 (kind.toNat:Int),.string s] w fun e w'=>e=.returned (.int .i64 (d.wr id kind s).1)∧Sep B w0 w' (File f b (d.wr id kind s).2::l):=by
 have Dp:=tD h id;have HS:Hid (Sep B w0 w (File f b d::l)):=h;obtain⟨c0,hf⟩:=h.A2;cases hp:ky d id with
 |false=>
  rw[hp]at Dp;have CH:Hid _:=Dp;have E:Hid (d.wr id kind s=(40,d)):=by show _=_;unfold Dk.wr;rw[hp];rfl
  rw[E.out];clear h Dp hp;go_enter Tryz.func37,Tryz.ntmps37
  go_wp2_with fail
  refine Calls.mono CH.out ?_;rintro e w1 ⟨rfl,rfl⟩;clear CH;go_wp2;go_ret;exact⟨rfl,HS.out⟩
 |true=>
  have ES:=Aw h.VU hp (n:=s.size);rw[hp]at Dp;have CH:Hid _:=Dp;have QV:=wN id kind s w (T w h.AX) hs;have E:d.wr id kind s=if 240<s.size then(50,d)else d.put id (jm id kind s):=by unfold Dk.wr;rw[hp];rfl
  rw[E];rw[ES]at QV;clear h Dp hp E;by_cases h2:240<s.size
  ·rw[if_pos h2];rw[if_pos h2]at QV;have CS:Hid _:=QV;generalize(fZ id kind s.data.toList).toArray=bo at*;clear QV ES;go_enter Tryz.func37,Tryz.ntmps37
   go_wp2_with fail
   refine Calls.mono CH.out ?_;rintro e w1 ⟨rfl,rfl⟩;clear CH
   go_wp2_with fail
   refine Calls.mono CS.out ?_;rintro e w2 ⟨rfl,b2⟩;have S2:Hid (Sep B w0 w2 (File f b d::l)):=HS.out.below b2;clear b2 CS;go_wp2;go_ret;exact⟨rfl,S2.out⟩
  ·rw[if_neg h2];have e1:fZ id kind s.data.toList=cC id.toNat kind s.data.toList:=by
    unfold fZ;rw[show s.data.toList.length=s.size by simp,ES,if_neg h2,if_pos rfl]
   rw[if_neg h2,e1]at QV;have CS:Hid _:=QV;have CW:Hid (∀u,Sep B w0 u (File f b d::l)->Calls Tryz.prog 34 #[ptr b,.int .i64 id,.string (jm id kind s)] u fun e w'=>e=.returned (.int .i64 (d.put id (jm id kind s)).1)∧Sep B w0 w' (kv b (d.put id (jm id kind s)).2::aF f (qx b)::l)):=fun u hu=>MG hu.part id (jm id kind s) (by rw[rM _ _ _ (by omega)];decide) hl;unfold jm at*;generalize(cC id.toNat kind s.data.toList).toArray=bo at*;generalize(d.put id ⟨bo⟩).1=er at*;generalize(d.put id ⟨bo⟩).2=d2 at*;clear QV ES e1;go_enter Tryz.func37,Tryz.ntmps37
   go_wp2_with fail
   refine Calls.mono CH.out ?_;rintro e w1 ⟨rfl,rfl⟩;clear CH
   go_wp2_with fail
   refine Calls.mono CS.out ?_;rintro e w2 ⟨rfl,b2⟩;have S2:Hid (Sep B w0 w2 (File f b d::l)):=HS.out.below b2;obtain⟨c2,hf2⟩:=S2.out.A2;have C3:Hid _:=CW.out w2 S2.out;clear b2 CS CW
   go_wp2_with fail
   refine Calls.mono C3.out ?_;rintro e w3 ⟨rfl,s3⟩;have S3:Hid (Sep B w0 w3 (File f b d2::l)):=s3.join;clear C3 s3;go_wp2;go_ret;exact⟨rfl,S3.out⟩
end
end
namespace P
open N
def BT:Nat->Type
 |0=>List En
 |h+1=>List (Int×BT h)×List ByteArray
abbrev It:=Bool×ByteArray
def iK:List (List It)->List ByteArray->List It
 |x::l,s::ss=>x++(true,s)::iK l ss
 |l,_=>l.flatten
def aT:(h:Nat)->BT h->Nd
 |0,l=>⟨true,l,[],[]⟩
 |_+1,t=>⟨false,[],t.1.map Prod.fst,t.2⟩
def cd:(h:Nat)->BT h->List It
 |0,l=>List.map (fun(x:En)=>(false,x.1)) l
 |h+1,t=>iK (t.1.map fun u=>cd h u.2) t.2
def dR:(h:Nat)->BT h->List En
 |0,l=>l
 |h+1,t=>(t.1.map fun u=>dR h u.2).flatten
def k8:(h:Nat)->BT h->List (Int×Nd)
 |0,_=>[]
 |h+1,t=>(t.1.map fun u=>(u.1,aT h u.2)::k8 h u.2).flatten
def bQ (h:Nat)(t:BT h):Nat:=dM (aT h t)
def sG:(h:Nat)->BT h->ByteArray->BT h->BT h
 |0,a,_,b=>(show List En from a)++(show List En from b)
 |_+1,a,k,b=>(a.1++b.1,a.2++k::b.2)
abbrev KT (h:Nat):=Int×BT h
def nK {h:Nat}(u:KT h):List (Int×Nd):=(u.1,aT h u.2)::k8 h u.2
def gV {h:Nat}(K:List (KT h)):List (Int×Nd):=(K.map nK).flatten
def dh {h:Nat}(K:List (KT h))(ss:List ByteArray):List It:=iK (K.map fun u=>cd h u.2) ss
def bM {h:Nat}(K:List (KT h)):List En:=(K.map fun u=>dR h u.2).flatten
def KP {h:Nat}(K:List (KT h))(ss:List ByteArray)(i:Nat):Prop:=
 ∀A a b B sA k sB,K=A++a::b::B->ss=sA++k::sB->A.length=sA.length->
  (i=A.length->bQ h a.2<80->240<bQ h (sG h a.2 k b.2))∧(B=[]->i=A.length+1->bQ h b.2<80->240<bQ h (sG h a.2 k b.2))
def Wl:(h:Nat)->BT h->Prop
 |0,l=>(show List En from l)≠[]
 |h+1,t=>t.2.length+1=t.1.length∧(∀i,KP t.1 t.2 i)∧∀u∈t.1,Wl h u.2∧bQ h u.2<=240
def RI (x y:It):Prop:=if y.1=true then bD x.2 y.2=true else if x.1=true then bD y.2 x.2=false else bD x.2 y.2=true
structure bP (l:List It):Prop where
 up:l.Pairwise RI
 sz:∀x∈l,1<=x.2.size∧x.2.size<=16
theorem bP.sub {l m:List It}(h:bP l)(s:m.Sublist l):bP m:=⟨h.up.sublist s,fun x hx=>h.sz x (s.subset hx)⟩
theorem rN (ss:List ByteArray):iK [] ss=[]:=by cases ss<;>rfl
theorem gI (x:List It)(l:List (List It))(s:ByteArray)(ss:List ByteArray):iK (x::l) (s::ss)=x++(true,s)::iK l ss:=rfl
theorem Ir (x:List It)(l:List (List It)):iK (x::l) []=x++l.flatten:=rfl
theorem mF:∀ {A:List (List It)} {sA:List ByteArray} (B:List (List It)) (sB:List ByteArray),A.length=sA.length->iK (A++B) (sA++sB)=iK A sA++iK B sB
 |[],[],B,sB,_=>by simp[rN]
 |[],_::_,_,_,h=>by cases h
 |_::_,[],_,_,h=>by cases h
 |x::A,s::sA,B,sB,h=>by
  have:=mF (A:=A) (sA:=sA) B sB (by simpa using h);simp only[List.cons_append,gI,this,List.append_assoc]
def jw (l:List (List It))(ss:List ByteArray):List It:=iK ([]::l) ss
theorem pI (x:List It)(l:List (List It))(ss:List ByteArray):iK (x::l) ss=x++jw l ss:=by
 cases ss<;>simp[jw,gI,Ir]
theorem iL (x:List It)(l:List (List It))(s:ByteArray)(ss:List ByteArray):jw (x::l) (s::ss)=(true,s)::(x++jw l ss):=by
 rw[jw,gI,pI];rfl
theorem eQ {h:Nat}{A B:List (KT h)}{u:KT h}{sA sB:List ByteArray}(hA:A.length=sA.length):dh (A++u::B) (sA++sB)=dh A sA++(cd h u.2++jw (B.map fun u=>cd h u.2) sB):=by
 unfold dh;rw[List.map_append,mF _ _ (by simpa using hA),List.map_cons,pI]
theorem pJ {h:Nat}{A B:List (KT h)}{u v:KT h}{sA sB:List ByteArray}{k:ByteArray}(hA:A.length=sA.length):dh (A++u::v::B) (sA++k::sB)=dh A sA++(cd h u.2++(true,k)::(cd h v.2++jw (B.map fun u=>cd h u.2) sB)):=by
 rw[eQ hA,List.map_cons,iL]
theorem cT {h:Nat}(A B:List (KT h)):gV (A++B)=gV A++gV B:=by simp[gV]
theorem dC {h:Nat}(u:KT h)(B:List (KT h)):gV (u::B)=nK u++gV B:=by simp[gV]
theorem cf {h:Nat}(A B:List (KT h)):bM (A++B)=bM A++bM B:=by simp[bM]
theorem bT {h:Nat}(u:KT h)(B:List (KT h)):bM (u::B)=dR h u.2++bM B:=by simp[bM]
theorem vG (h:Nat)(a b:BT h)(k:ByteArray):aT h (sG h a k b)=iR (aT h a) k (aT h b):=by
 cases h with
 |zero=>simp[aT,sG,iR]
 |succ h=>simp[aT,sG,iR]
theorem yo (h:Nat)(a:BT h):(aT h a).leaf=decide (h=0):=by cases h<;>simp[aT]
theorem nL (h:Nat)(a b:BT h)(k:ByteArray):bQ h (sG h a k b)=bQ h a+bQ h b+(if h=0 then 0 else 1+k.size):=by
 cases h with
 |zero=>
  show cx (_++_)=cx a+cx b+0;rw[jb];rfl
 |succ h=>simp[bQ,aT,sG,dM,dA,bN];omega
theorem Iu (h:Nat)(a b:BT h)(k:ByteArray):dR h (sG h a k b)=dR h a++dR h b:=by
 cases h with
 |zero=>rfl
 |succ h=>simp[dR,sG]
theorem Ax (h:Nat)(a b:BT h)(k:ByteArray):k8 h (sG h a k b)=k8 h a++k8 h b:=by
 cases h with
 |zero=>rfl
 |succ h=>simp[k8,sG]
theorem MO (a b:BT 0)(k:ByteArray):cd 0 (sG 0 a k b)=cd 0 a++cd 0 b:=by
 show List.map _ (_++_)=_;rw[List.map_append];rfl
theorem vH {h:Nat}(a b:BT (h+1))(k:ByteArray)(ha:a.2.length+1=a.1.length):cd (h+1) (sG (h+1) a k b)=cd (h+1) a++(true,k)::cd (h+1) b:=by
 obtain⟨aK,aS⟩:=a;obtain⟨bK,bs⟩:=b;show dh (aK++bK) (aS++k::bs)=dh aK aS++(true,k)::dh bK bs;have ha:aS.length+1=aK.length:=ha;have e:∃A u,aK=A++[u]∧A.length=aS.length:=by
  refine⟨aK.dropLast,aK.getLast (fun e=>by rw[e]at ha;simp at ha),(List.dropLast_concat_getLast _).symm,?_⟩;simp at ha⊢;omega
 obtain⟨A,u,rfl,hA⟩:=e;have e1:=eQ (A:=A) (u:=u) (B:=[]) (sA:=aS) (sB:=[]) hA;simp only[List.append_nil]at e1;rw[e1,List.append_assoc,List.singleton_append,eQ hA];cases bK with
 |nil=>simp[jw,iK,dh,rN]
 |cons v B=>
  rw[List.map_cons,iL];have e2:jw (List.map (fun u:KT h=>cd h u.2) []) []=[]:=rfl;have e3:dh (v::B) bs=cd h v.2++jw (B.map fun u=>cd h u.2) bs:=by rw[dh,List.map_cons,pI]
  rw[e2,e3];simp only[List.append_nil,List.append_assoc]
theorem rO (h:Nat)(a b:BT h)(k:ByteArray)(ha:Wl h a):(cd h (sG h a k b)).Sublist (cd h a++(true,k)::cd h b):=by
 cases h with
 |zero=>rw[MO];exact List.Sublist.append (List.Sublist.refl _) (List.sublist_cons_self _ _)
 |succ h=>rw[vH _ _ _ ha.1];exact List.Sublist.refl _
theorem gT:∀(l:List (List It)) (ss:List ByteArray),ss.length<=l.length->(ss.map fun s=>((true,s):It)).Sublist (iK l ss)
 |l,[],_=>by simp
 |[],s::ss,h=>by simp at h
 |x::l,s::ss,h=>by
  rw[gI,List.map_cons];exact List.Sublist.trans (List.Sublist.cons_cons _ (gT l ss (by simpa using h))) (List.sublist_append_right _ _)
theorem bP.keys {ss:List ByteArray}(h:bP (ss.map fun s=>((true,s):It))):zK ss=true:=by
 refine fY ⟨?_,?_⟩
 ·unfold N.Up;rw[List.pairwise_map];have:=h.up;rw[List.pairwise_map]at this;exact this.imp fun {a b} hab=>by simpa[RI,kE]using hab
 ·intro x hx;obtain⟨s,hs,rfl⟩:=List.mem_map.1 hx;have:=h.sz (true,s) (List.mem_map_of_mem hs);exact cF.2 ⟨this.1,this.2,by show(0:Nat)<=40;omega⟩
theorem bP.leaf {l:List En}(h:bP (l.map fun(x:En)=>((false,x.1):It)))(hv:∀x∈l,x.2.size<=40):Rg l:=by
 refine⟨?_,?_⟩
 ·unfold N.Up;have:=h.up;rw[List.pairwise_map]at this;exact this.imp fun {a b} hab=>by simpa[RI]using hab
 ·intro x hx;have:=h.sz (false,x.1) (List.mem_map_of_mem (f:=fun(x:En)=>((false,x.1):It)) hx);exact cF.2 ⟨this.1,this.2,hv x hx⟩
end P
namespace P
open N
def _root_.Go.Proofs.YtceoeaemenhbhaaGreatDoor.Dr.vw (S:Dr)(d:Dk)(id:Int):Nd×Int:=S.read d id 0
theorem _root_.Go.Proofs.YtceoeaemenhbhaaGreatDoor.Dr.gy (S:Dr)(d:Dk)(id depth:Int)(h:depth<24):S.read d id depth=S.vw d id:=by
 unfold Dr.vw Dr.read cM;have h1:¬(24:Int)<=depth:=by omega
 simp[h,h1]
structure Us (S:Dr)(p:Int):Prop where
 lo:2<=p
 hi:p<S.x.pages
 fr:¬cU S.x.free p
 sp:p∉S.spare
structure Sd (room:Nat)(S:Dr):Prop where
 x:S.x.Ok room
 sp:∀q∈S.spare,(S.x.fresh q).isSome=true
 nf:∀q,(S.nodes q).isSome=true->(S.x.fresh q).isSome=true∧q∉S.spare
 sn:S.spare.Nodup
 fi:∀q n,S.nodes q=some n->cA n=true
 bz:∀q c,S.x.fresh q=some c->c.body.size<=240
 tk:∀q∈S.taken,(S.x.fresh q).isSome=true
def _root_.Go.Proofs.YtceoeaemenhbhaaGreatDoor.TX.cap (x:TX)(room:Nat):Int:=iZ x.free+((room:Int)-x.pages)
def oy (S:Dr)(d:Dk)(c:List (Int×Nd)):Prop:=∀x∈c,S.vw d x.1=(x.2,0)
structure Fm (room:Nat)(d:Dk)(c:Nat)(S:Dr)(X:List Int)(S':Dr)(X':List Int):Prop where
 ok:Sd room S'
 us:∀p∈X',Us S' p
 nd:X'.Nodup
 keep:∀p,Us S p->p∉X->Us S' p∧p∉X'∧S'.vw d p=S.vw d p∧(S'.x.fresh p).isSome=(S.x.fresh p).isSome
 tight:∀p,(S'.x.fresh p).isSome=true->p∉S'.spare->p∈X'∨((S.x.fresh p).isSome=true∧p∉S.spare∧p∉X)
 cnt:S'.cnt+X'.length<=S.cnt+X.length+c
 mG:S'.x.cnt+X'.length<=S.x.cnt+X.length+c
 Ay:S'.taken.length+X'.length<=S.taken.length+X.length+c
 Cg:S'.spare.length+X'.length<=S.spare.length+X.length+c
 bot:S'.bot=S.bot
 cap:S'.x.cap room+S'.taken.length=S.x.cap room+S.taken.length
 mine:(∀p∈X,S.may p=true)->(∀p∈X',S'.may p=true)∧S'.taken.length<=S.taken.length+c∧X'.length+S'.spare.length+S.taken.length=X.length+S.spare.length+S'.taken.length
theorem dI (S:Dr)(p:Int):S.may p=true↔(S.x.fresh p).isSome=true∧p∉S.spare:=by
 simp[Dr.may]
section
variable {room c c':Nat}{d:Dk}{S S1 S2:Dr}{X X1 X2 Y:List Int}
theorem Fm.refl (ok:Sd room S)(us:∀p∈X,Us S p)(nd:X.Nodup):Fm room d 0 S X S X:=
 ⟨ok,us,nd,fun p h hn=>⟨h,hn,rfl,rfl⟩,fun p h1 h2=>by
  by_cases hx:p∈X
  ·exact .inl hx
  ·exact .inr ⟨h1,h2,hx⟩,by omega,by omega,by omega,by omega,rfl,rfl,fun h=>⟨h,by omega,by omega⟩⟩
theorem Fm.trans (h1:Fm room d c S X S1 X1)(h2:Fm room d c' S1 X1 S2 X2):Fm room d (c+c') S X S2 X2:=
 ⟨h2.ok,h2.us,h2.nd,fun p h hn=>by
  obtain⟨a1,a2,a3,a4⟩:=h1.keep p h hn
  obtain⟨b1,b2,b3,b4⟩:=h2.keep p a1 a2
  exact⟨b1,b2,b3.trans a3,b4.trans a4⟩,fun p a b=>by
  rcases h2.tight p a b with h| ⟨h3,h4,h5⟩
  ·exact .inl h
  ·rcases h1.tight p h3 h4 with h|h
   ·exact absurd h h5
   ·exact .inr h,by have:=h1.cnt;have:=h2.cnt;omega,by have:=h1.mG;have:=h2.mG;omega,by have:=h1.Ay;have:=h2.Ay;omega,by have:=h1.Cg;have:=h2.Cg;omega,h2.bot.trans h1.bot,h2.cap.trans h1.cap,fun hm=>by
  obtain⟨a1,a2,a3⟩:=h1.mine hm
  obtain⟨b1,b2,b3⟩:=h2.mine a1
  exact⟨b1,by omega,by omega⟩⟩
theorem Fm.ext (h:Fm room d c S X S1 X1)(us:∀p∈Y,Us S p)(nd:(X++Y).Nodup):Fm room d c S (X++Y) S1 (X1++Y):=by
 obtain⟨n1,n2,n3⟩:=List.nodup_append.1 nd;have hk:∀p∈Y,Us S1 p∧p∉X1:=fun p hp=>by
  have:=h.keep p (us p hp) (fun hx=>n3 p hx p hp rfl);exact⟨this.1,this.2.1⟩
 refine⟨h.ok,fun p hp=>?_,?_,fun p hp hn=>?_,fun p a b=>?_,?_,?_,?_,?_,h.bot,h.cap,fun hm=>?_⟩
 ·rcases List.mem_append.1 hp with hp|hp
  ·exact h.us p hp
  ·exact(hk p hp).1
 ·exact List.nodup_append.2 ⟨h.nd,n2,fun a ha b hb e=>(hk b hb).2 (e▸ha)⟩
 ·rw[List.mem_append,not_or]at hn;obtain⟨a1,a2,a3,a4⟩:=h.keep p hp hn.1;exact⟨a1,by rw[List.mem_append,not_or];exact⟨a2,hn.2⟩,a3,a4⟩
 ·rcases h.tight p a b with h1| ⟨h1,h2,h3⟩
  ·exact .inl (List.mem_append_left _ h1)
  ·by_cases hy:p∈Y
   ·exact .inl (List.mem_append_right _ hy)
   ·exact .inr ⟨h1,h2,by rw[List.mem_append,not_or];exact⟨h3,hy⟩⟩
 ·have:=h.cnt;simp only[List.length_append];omega
 ·have:=h.mG;simp only[List.length_append];omega
 ·have:=h.Ay;simp only[List.length_append];omega
 ·have:=h.Cg;simp only[List.length_append];omega
 ·obtain⟨a1,a2,a3⟩:=h.mine (fun p hp=>hm p (List.mem_append_left _ hp));refine⟨fun p hp=>?_,a2,by simp only[List.length_append];omega⟩;rcases List.mem_append.1 hp with hp|hp
  ·exact a1 p hp
  ·have h1:=(dI S p).1 (hm p (List.mem_append_right _ hp));have h2:=h.keep p (us p hp) (fun hx=>n3 p hx p hp rfl);exact(dI S1 p).2 ⟨by rw[h2.2.2.2];exact h1.1,h2.1.sp⟩
theorem Fm.perm (h:Fm room d c S X S1 X1){Y Y1:List Int}(e:X.Perm Y)(e1:X1.Perm Y1):Fm room d c S Y S1 Y1:=
 ⟨h.ok,fun p hp=>h.us p (e1.mem_iff.2 hp),e1.nodup_iff.1 h.nd,fun p hp hn=>by
  obtain⟨a1,a2,a3,a4⟩:=h.keep p hp (fun hx=>hn (e.mem_iff.1 hx))
  exact⟨a1,fun hx=>a2 (e1.mem_iff.2 hx),a3,a4⟩,fun p a b=>by
  rcases h.tight p a b with h| ⟨h1,h2,h3⟩
  ·exact .inl (e1.mem_iff.1 h)
  ·exact .inr ⟨h1,h2,fun hx=>h3 (e.mem_iff.2 hx)⟩,by have:=h.cnt;have:=e.length_eq;have:=e1.length_eq;omega,by have:=h.mG;have:=e.length_eq;have:=e1.length_eq;omega,by have:=h.Ay;have:=e.length_eq;have:=e1.length_eq;omega,by have:=h.Cg;have:=e.length_eq;have:=e1.length_eq;omega,h.bot,h.cap,fun hm=>by
  obtain⟨a1,a2,a3⟩:=h.mine (fun p hp=>hm p (e.mem_iff.1 hp))
  have:=e.length_eq
  have:=e1.length_eq
  exact⟨fun p hp=>a1 p (e1.mem_iff.2 hp),a2,by omega⟩⟩
theorem Fm.mono (h:Fm room d c S X S1 X1)(hc:c<=c'):Fm room d c' S X S1 X1:=
 ⟨h.ok,h.us,h.nd,h.keep,h.tight,by have:=h.cnt;omega,by have:=h.mG;omega,by have:=h.Ay;omega,by have:=h.Cg;omega,h.bot,h.cap,fun hm=>by
  obtain⟨a1,a2,a3⟩:=h.mine hm
  exact⟨a1,by omega,a3⟩⟩
theorem Fm.MQ (h:Fm room d c S X S1 X1){C:List (Int×Nd)}(hC:oy S d C)(us:∀p∈C.map Prod.fst,Us S p)(hd:∀p∈C.map Prod.fst,p∉X):oy S1 d C:=fun x hx=>by
 have hm:=List.mem_map_of_mem (f:=Prod.fst) hx;rw[(h.keep x.1 (us _ hm) (hd _ hm)).2.2.1];exact hC x hx
def Ev (room:Nat)(d:Dk)(c:Nat)(S:Dr)(X:List Int)(S':Dr):Prop:=∃Xm,Fm room d c S X S' Xm∧S'.x.free=[]∧room<=S'.x.pages
abbrev Er (room:Nat)(d:Dk)(c:Nat)(S:Dr)(X:List Int)(S':Dr)(e:Int):Prop:=e≠0->e=2∧Ev room d c S X S'
theorem Er.ext {e:Int}(h:Er room d c S X S1 e)(us:∀p∈Y,Us S p)(nd:(X++Y).Nodup):Er room d c S (X++Y) S1 e:=fun he=>by
 obtain⟨h1,Xm,F,h2⟩:=h he;exact⟨h1,_,F.ext us nd,h2⟩
theorem Er.perm {e:Int}(h:Er room d c S X S1 e)(p:X.Perm Y):Er room d c S Y S1 e:=fun he=>by
 obtain⟨h1,Xm,F,h2⟩:=h he;exact⟨h1,_,F.perm p (List.Perm.refl _),h2⟩
theorem Er.mono {e:Int}(h:Er room d c S X S1 e)(hc:c<=c'):Er room d c' S X S1 e:=fun he=>by
 obtain⟨h1,Xm,F,h2⟩:=h he;exact⟨h1,_,F.mono hc,h2⟩
theorem Fm.er {e:Int}(F:Fm room d c S X S1 X1)(h:Er room d c' S1 X1 S2 e):Er room d (c+c') S X S2 e:=fun he=>by
 obtain⟨h1,Xm,F2,h2⟩:=h he;exact⟨h1,_,F.trans F2,h2⟩
theorem Fm.yq (h:Fm room d c S X S1 X1){p:Int}(hp:Us S p)(hn:p∉X):Us S1 p∧p∉X1:=⟨(h.keep p hp hn).1,(h.keep p hp hn).2.1⟩
end
section
variable {room:Nat}{d:Dk}{S:Dr}
theorem mH {S S':Dr}{p:Int}(hx:bO S'.x d p 1=bO S.x d p 1)(hy:bO S'.x d p 2=bO S.x d p 2)(hn:S'.nodes p=S.nodes p):S'.vw d p=S.vw d p:=by
 unfold Dr.vw Dr.read cM;rw[hx,hy,hn]
theorem pK (ok:Sd room S){p:Int}(hp:Us S p):Fm room d 0 S [p] (S.drop p) []:=by
 unfold Dr.drop;split
 ·rename_i hm
  have hm':=(dI S p).1 hm;refine⟨⟨ok.x,fun q hq=>?_,fun q hq=>?_,List.nodup_append.2 ⟨ok.sn,by simp,fun a ha b hb e=>hm'.2 (by rw[List.mem_singleton.1 hb]at e;rw[<-e];exact ha)⟩,fun q n hq=>?_,ok.bz,ok.tk⟩,(fun _ h=>by cases h),List.nodup_nil,fun q hq hn=>?_,fun q a b=>?_,?_,?_,?_,?_,rfl,rfl,fun _=>⟨(fun _ h=>by cases h),Nat.le_refl _,by simp;omega⟩⟩
  ·rcases List.mem_append.1 hq with h|h
   ·exact ok.sp q h
   ·rw[List.mem_singleton.1 h];exact hm'.1
  ·simp only at hq;split at hq
   ·cases hq
   ·rename_i hne
    have:=ok.nf q hq;refine⟨this.1,?_⟩;simp only[List.mem_append,List.mem_singleton,not_or];exact⟨this.2,hne⟩
  ·simp only at hq;split at hq
   ·cases hq
   ·exact ok.fi q n hq
  ·have hne:q≠p:=by simpa using hn
   refine⟨⟨hq.lo,hq.hi,hq.fr,?_⟩,by simp,?_,rfl⟩
   ·simp only[List.mem_append,List.mem_singleton,not_or];exact⟨hq.sp,hne⟩
   ·exact mH rfl rfl (by simp[hne])
  ·simp only[List.mem_append,List.mem_singleton,not_or]at b;exact .inr ⟨a,b.1,by simpa using b.2⟩
  ·simp
  ·simp
  ·simp
  ·simp
 ·rename_i hm
  have hm':¬((S.x.fresh p).isSome=true∧p∉S.spare):=fun h=>hm ((dI S p).2 h);refine⟨ok,(fun _ h=>by cases h),List.nodup_nil,fun q hq hn=>⟨hq,by simp,rfl,rfl⟩,fun q a b=>?_,?_,?_,?_,?_,rfl,rfl,fun hc=>absurd ((dI S p).1 (hc p (by simp))) hm'⟩
  ·refine .inr ⟨a,b,?_⟩;simp only[List.mem_singleton];rintro rfl;exact hm' ⟨a,b⟩
  ·simp
  ·simp
  ·simp
  ·simp
structure Tk (d:Dk)(room:Nat)(x x':TX)(p:Int):Prop where
 ok:x'.Ok room
 lo:2<=p
 hi:p<x'.pages
 nf:¬cU x'.free p
 was:cU x.free p∨p=x.pages
 fs:x'.fresh=gq x.fresh p c0
 cn:x'.cnt=x.cnt+1
 fr:∀q,cU x'.free q->cU x.free q
 pg:x.pages<=x'.pages
 cp:x'.cap room=x.cap room-1
theorem yr {x:TX}(ok:x.Ok room)(h0:(x.alloc room).1.2=0):Tk d room x (x.alloc room).2 (x.alloc room).1.1:=by
 have ok':=TX.qM ok;obtain⟨fr,pg,g,c⟩:=x;unfold TX.alloc at ok' h0⊢;cases fr with
 |cons r s=>
  obtain⟨_,d1,d3,_,d2⟩:=wT ok.cn;have hr:=ok.cn.dQ (Int.le_refl _) (bp.1 ok.cn).1.2.1;have r1:=ok.fr r.1 hr;exact⟨ok',r1.1,r1.2,fun hn=>by have:r.1<r.1:=((d2 _).1 hn).2;omega,.inl hr,rfl,rfl,fun q hq=>((d2 q).1 hq).1,Nat.le_refl _,by unfold TX.cap;simp only;rw[d3];omega⟩
 |nil=>
  simp only at ok' h0⊢;split at h0
  ·cases h0
  ·rename_i hp
   rw[if_neg hp]at ok'⊢;have h2:2<=pg:=ok.p2;refine⟨ok',?_,?_,dm _,.inr rfl,rfl,rfl,fun q hq=>absurd hq (dm q),?_,?_⟩
   ·show(2:Int)<=(pg:Int);omega
   ·show(pg:Int)< ((pg+1:Nat):Int);omega
   ·show pg<=pg+1;omega
   ·unfold TX.cap;simp only;push_cast;omega
theorem rP {x:TX}(h0:(x.alloc room).1.2≠0):(x.alloc room).1.2=2∧(x.alloc room).2=x∧x.free=[]∧room<=x.pages:=by
 obtain⟨fr,pg,g,c⟩:=x;unfold TX.alloc at h0⊢;cases fr with
 |cons r s=>exact absurd rfl h0
 |nil=>
  simp only at h0⊢;split
  ·rename_i hp
   exact⟨rfl,rfl,trivial,hp⟩
  ·rename_i hp
   rw[if_neg hp]at h0;exact absurd rfl h0
theorem Tk.get {x x':TX}{p:Int}(h:Tk d room x x' p){q:Int}(hne:q≠p)(hi:q<x.pages)(hf:¬cU x.free q)(k:UInt8):bO x' d q k=bO x d q k:=by
 have h1:x'.fresh q=x.fresh q:=by rw[h.fs];simp[gq,hne]
 have h2:¬(x'.pages:Int)<=q:=by have:=h.pg;omega
 have h3:¬(x.pages:Int)<=q:=by omega
 unfold bO TX.get;rw[h1,iX hf,iX (fun c=>hf (h.fr q c))];simp[h2,h3]
theorem Tk.ne {x x':TX}{p q:Int}(h:Tk d room x x' p)(hi:q<x.pages)(hf:¬cU x.free q):q≠p:=by
 rintro rfl;rcases h.was with w|w
 ·exact hf w
 ·omega
structure Bd (S:Dr)(m:Nat):Prop where
 cnt:S.cnt+m<100000
 mG:S.x.cnt+m<900000
 Ay:S.taken.length+m<100000
 Cg:S.spare.length+m<100000
theorem Bd.ok {m:Nat}(h:Bd S m):S.okB=true:=by
 have:=h.cnt;have:=h.mG;have:=h.Ay;have:=h.Cg;simp only[Dr.okB,Bool.and_eq_true,decide_eq_true_eq];omega
theorem Bd.mono {m m':Nat}(h:Bd S m)(hm:m'<=m):Bd S m':=⟨by have:=h.cnt;omega,by have:=h.mG;omega,by have:=h.Ay;omega,by have:=h.Cg;omega⟩
theorem Fm.bd {c m m':Nat}{S':Dr}{X X':List Int}(h:Fm room d c S X S' X')(hb:Bd S m)(hm:X.length+c+m'<=m+X'.length):Bd S' m':=by
 have:=hb.cnt;have:=hb.mG;have:=hb.Ay;have:=hb.Cg;have:=h.cnt;have:=h.mG;have:=h.Ay;have:=h.Cg;exact⟨by omega,by omega,by omega,by omega⟩
theorem QW (ok:Sd room S){p:Int}(hp:Us S p)(hm:S.may p=true)(n:Nd)(hf:cA n=true):Fm room d 1 S [p] (S.set p n) [p]∧(S.set p n).vw d p=(n,0):=by
 have hm':=(dI S p).1 hm;refine⟨⟨⟨ok.x,ok.sp,fun q hq=>?_,ok.sn,fun q n' hq=>?_,ok.bz,ok.tk⟩,fun q hq=>?_,by simp,fun q hq hn=>?_,fun q a b=>?_,by simp[Dr.set],by simp[Dr.set],by simp[Dr.set],by simp[Dr.set],rfl,rfl,fun hc=>⟨fun q hq=>by rw[List.mem_singleton.1 hq];exact hm,by simp[Dr.set],by simp[Dr.set]⟩⟩,by simp[Dr.vw,Dr.read,Dr.set]⟩
 ·simp only[Dr.set]at hq⊢;split at hq
  ·rename_i e;rw[e];exact hm'
  ·exact ok.nf q hq
 ·simp only[Dr.set]at hq;split at hq
  ·cases hq;exact hf
  ·exact ok.fi q n' hq
 ·obtain rfl:q=p:=by simpa using hq
  exact⟨hp.lo,hp.hi,hp.fr,hp.sp⟩
 ·have hne:q≠p:=by simpa using hn
  exact⟨⟨hq.lo,hq.hi,hq.fr,hq.sp⟩,hn,mH rfl rfl (by simp[Dr.set,hne]),rfl⟩
 ·by_cases hq:q∈[p]
  ·exact .inl hq
  ·exact .inr ⟨a,b,hq⟩
theorem MR (ok:Sd room S)(h0:(S.x.alloc room).1.2=0){X:List Int}(hX:X=[]∨∃id,X=[id]∧S.may id=false)(n:Nd)(hf:cA n=true):
  Fm room d 2 S X ((S.took room).set (S.x.alloc room).1.1 n) [(S.x.alloc room).1.1]∧((S.took room).set (S.x.alloc room).1.1 n).vw d (S.x.alloc room).1.1=(n,0):=by
 have T:Tk d room S.x (S.x.alloc room).2 (S.x.alloc room).1.1:=yr ok.x h0;have hsp:∀q∈S.spare,q<S.x.pages∧¬cU S.x.free q:=fun q hq=>by
  have h1:=ok.sp q hq;refine⟨(ok.x.fs q h1).2,fun c=>?_⟩;rw[ok.x.dj q c]at h1;cases h1
 have hs2:∀q∈S.spare,((S.x.alloc room).2.fresh q).isSome=true:=fun q hq=>by
  rw[T.fs,dy,ok.sp q hq,Bool.or_true]
 have hpm:((S.took room).set (S.x.alloc room).1.1 n).may (S.x.alloc room).1.1=true:=by
  rw[dI];refine⟨?_,fun hs=>T.ne (hsp _ hs).1 (hsp _ hs).2 rfl⟩;show((S.x.alloc room).2.fresh _).isSome=true;rw[T.fs,dy];simp
 refine⟨⟨⟨T.ok,hs2,fun q hq=>?_,ok.sn,fun q n' hq=>?_,fun q c hc=>?_,fun q hq=>?_⟩,fun q hq=>?_,by simp,fun q hq hn=>?_,fun q a b=>?_,?_,?_,?_,?_,rfl,?_,fun hc=>?_⟩,by simp[Dr.vw,Dr.read,Dr.set]⟩
 ·simp only[Dr.set,Dr.took]at hq⊢;split at hq
  ·rename_i e
   rw[e];have:=(dI _ _).1 hpm;exact this
  ·have:=ok.nf q hq;exact⟨by rw[T.fs,dy,this.1,Bool.or_true],this.2⟩
 ·simp only[Dr.set,Dr.took]at hq;split at hq
  ·cases hq;exact hf
  ·exact ok.fi q n' hq
 ·have hc:(S.x.alloc room).2.fresh q=some c:=hc;rw[T.fs]at hc;unfold gq at hc;split at hc
  ·cases hc;simp[c0]
  ·exact ok.bz q c hc
 ·show((S.x.alloc room).2.fresh q).isSome=true;rw[T.fs,dy];rcases List.mem_append.1 hq with h1|h1
  ·rw[ok.tk q h1,Bool.or_true]
  ·rw[List.mem_singleton.1 h1];simp
 ·obtain rfl:q=(S.x.alloc room).1.1:=by simpa using hq
  exact⟨T.lo,T.hi,T.nf,fun hs=>T.ne (hsp _ hs).1 (hsp _ hs).2 rfl⟩
 ·have hne:=T.ne hq.hi hq.fr;refine⟨⟨hq.lo,by have:=T.pg;have:=hq.hi;simp only[Dr.set,Dr.took];omega,fun c=>hq.fr (T.fr _ c),hq.sp⟩,by simpa using hne,mH (T.get hne hq.hi hq.fr 1) (T.get hne hq.hi hq.fr 2) (by simp[Dr.set,Dr.took,hne]),?_⟩;simp only[Dr.set,Dr.took];rw[T.fs,dy];simp[hne]
 ·simp only[Dr.set,Dr.took]at a b;rw[T.fs,dy]at a;by_cases hq:q=(S.x.alloc room).1.1
  ·exact .inl (by simp[hq])
  ·have a':(S.x.fresh q).isSome=true:=by simpa[hq]using a
   refine .inr ⟨a',b,?_⟩;rcases hX with rfl| ⟨id,rfl,hid⟩
   ·simp
   ·simp only[List.mem_singleton];rintro rfl;rw[(dI S q).2 ⟨a',b⟩]at hid;cases hid
 ·rcases hX with rfl| ⟨id,rfl,hid⟩<;>simp[Dr.set,Dr.took]
 ·have:=T.cn;rcases hX with rfl| ⟨id,rfl,hid⟩<;>simp[Dr.set,Dr.took,this]
 ·rcases hX with rfl| ⟨id,rfl,hid⟩<;>simp[Dr.set,Dr.took]
 ·rcases hX with rfl| ⟨id,rfl,hid⟩<;>simp[Dr.set,Dr.took]
 ·show(S.x.alloc room).2.cap room+((S.taken++[(S.x.alloc room).1.1]).length:Int)=_;rw[T.cp,List.length_append];simp;omega
 ·rcases hX with rfl| ⟨id,rfl,hid⟩
  ·exact⟨fun q hq=>by rw[List.mem_singleton.1 hq];exact hpm,by simp[Dr.set,Dr.took],by simp[Dr.set,Dr.took];omega⟩
  ·rw[hc id (by simp)]at hid;cases hid
theorem Az (ok:Sd room S){id:Int}{X:List Int}(hX:(X=[]∧S.may id=false)∨(X=[id]∧Us S id)){n:Nd}(hf:cA n=true){m:Nat}(hb:Bd S m):
  ∃p e S',S.put room id n=some ((p,e),S')∧Er room d 0 S X S' e∧(e=0->Fm room d 2 S X S' [p]∧S'.vw d p=(n,0)∧(S.may id=true->p=id∧S'=S.set id n)):=by
 unfold Dr.put;rw[hb.ok,hf];simp only[Bool.and_self,Bool.true_eq_false,if_false];by_cases hm:S.may id=true
 ·rw[if_pos hm];rcases hX with⟨rfl,h⟩| ⟨rfl,hu⟩
  ·rw[hm]at h;cases h
  ·have:=QW (d:=d) ok hu hm n hf;exact⟨id,0,_,rfl,fun h=>absurd rfl h,fun _=>⟨this.1.mono (by omega),this.2,fun _=>⟨rfl,rfl⟩⟩⟩
 ·rw[if_neg hm];have hm':S.may id=false:=by simpa using hm
  by_cases h0:(S.x.alloc room).1.2=0
  ·rw[if_pos h0];have:=MR (d:=d) ok h0 (X:=X) (by
    rcases hX with⟨rfl,h⟩| ⟨rfl,hu⟩
    ·exact .inl rfl
    ·exact .inr ⟨id,rfl,hm'⟩) n hf
   exact⟨_,0,_,rfl,fun h=>absurd rfl h,fun _=>⟨this.1,this.2,fun c=>absurd c hm⟩⟩
  ·rw[if_neg h0];refine⟨0,_,_,rfl,fun _=>⟨(rP h0).1,?_⟩,fun c=>absurd c h0⟩;have e1:S.held room=S:=by unfold Dr.held;rw[(rP h0).2.1]
   rw[e1];refine⟨X,Fm.refl ok (fun p hp=>?_) ?_,(rP h0).2.2⟩
   ·rcases hX with⟨rfl,_⟩| ⟨rfl,hu⟩
    ·cases hp
    ·rw[List.mem_singleton.1 hp];exact hu
   ·rcases hX with⟨rfl,_⟩| ⟨rfl,hu⟩<;>simp
theorem AA (ok:Sd room S){a b:Int}(ha:Us S a)(hb':Us S b)(hab:a≠b){n:Nd}(hf:cA n=true){m:Nat}(hb:Bd S (m+1)):
  ∃p e S',S.fE room a b n=some ((p,e),S')∧Er room d 0 S [a,b] S' e∧(e=0->Fm room d 0 S [a,b] S' [p]∧S'.vw d p=(n,0)):=by
 unfold Dr.fE;rw[hb.ok];simp only[Bool.true_eq_false,if_false];by_cases hm:S.may a=true
 ·rw[if_pos hm];have D:Fm room d 0 S [b] (S.drop b) []:=pK ok hb';have D2:Fm room d 0 S [a,b] (S.drop b) [a]:=(D.ext (Y:=[a]) (by simpa using ha) (by simpa using Ne.symm hab)).perm (List.Perm.swap _ _ _) (List.Perm.refl _);have hm2:(S.drop b).may a=true:=by
   have hm':=(dI S a).1 hm;rw[dI];unfold Dr.drop;split
   ·simp only[List.mem_append,List.mem_singleton,not_or];exact⟨hm'.1,hm'.2,hab⟩
   ·exact hm'
  have hb2:Bd (S.drop b) m:=D.bd hb (by simp;omega);obtain⟨p,e,S',h1,h2,h3⟩:=Az (d:=d) D.ok (id:=a) (X:=[a]) (.inr ⟨rfl,D2.us a (by simp)⟩) hf hb2;refine⟨p,e,S',h1,D2.er h2,fun he=>?_⟩;obtain⟨f1,f2,f3⟩:=h3 he;obtain⟨rfl,rfl⟩:=f3 hm2;have F:=D2.trans f1;refine⟨⟨F.ok,F.us,F.nd,F.keep,F.tight,?_,?_,?_,?_,F.bot,F.cap,fun hc=>⟨(F.mine hc).1,?_,(F.mine hc).2.2⟩⟩,f2⟩
  ·unfold Dr.drop;split<;>simp[Dr.set]
  ·unfold Dr.drop;split<;>simp[Dr.set]
  ·unfold Dr.drop;split<;>simp[Dr.set]
  ·unfold Dr.drop;split<;>simp[Dr.set]
  ·unfold Dr.drop;split<;>simp[Dr.set]
 ·rw[if_neg hm];have hm':S.may a=false:=by simpa using hm
  have e1:S.drop a=S:=by unfold Dr.drop;rw[if_neg hm]
  rw[e1];have D:Fm room d 0 S [a] S []:=by have:=pK (d:=d) ok ha;rwa [e1]at this
  have D2:Fm room d 0 S [a,b] S [b]:=D.ext (Y:=[b]) (by simpa using hb') (by simpa using hab);obtain⟨p,e,S',h1,h2,h3⟩:=Az (d:=d) ok (id:=b) (X:=[b]) (.inr ⟨rfl,hb'⟩) hf hb;refine⟨p,e,S',h1,D2.er h2,fun he=>?_⟩;obtain⟨f1,f2,f3⟩:=h3 he;have F:=D2.trans f1;have k1:=f1.cnt;have k2:=f1.mG;have k3:=f1.Ay;have k4:=f1.Cg;unfold Dr.put at h1;rw[hb.ok,hf]at h1;simp only[Bool.and_self,Bool.true_eq_false,if_false]at h1;refine⟨⟨F.ok,F.us,F.nd,F.keep,F.tight,?_,?_,?_,?_,F.bot,F.cap,fun hc=>by rw[hc a (by simp)]at hm';cases hm'⟩,f2⟩<;>
  ·by_cases hmb:S.may b=true
   ·rw[if_pos hmb]at h1;cases h1;simp[Dr.set]
   ·rw[if_neg hmb]at h1;by_cases h0:(S.x.alloc room).1.2=0
    ·have:=(yr (d:=d) ok.x h0).cn;rw[if_pos h0]at h1;cases h1;simp[Dr.set,Dr.took,this]
    ·rw[if_neg h0]at h1;cases h1;exact absurd he h0
end
end P
namespace P
open N
theorem nM {α:Type}{A B A' B':List α}{c x y:α}(h:A++c::B=A'++x::y::B'):
  (∃M,A=A'++x::y::M∧B'=M++c::B)∨(A=A'++[x]∧y=c∧B'=B)∨(A'=A∧x=c∧B=y::B')∨(∃M,A'=A++c::M∧B=M++x::y::B'):=by
 rcases List.append_eq_append_iff.1 h with⟨M,h1,h2⟩| ⟨M,h1,h2⟩
 ·cases M with
  |nil=>
   simp only[List.append_nil]at h1;simp only[List.nil_append]at h2;injection h2 with h3 h4;exact .inr (.inr (.inl ⟨h1,h3.symm,h4⟩))
  |cons z M=>
   rw[List.cons_append]at h2;injection h2 with h3 h4;subst h3;exact .inr (.inr (.inr ⟨M,h1,h4⟩))
 ·cases M with
  |nil=>
   simp only[List.append_nil]at h1;simp only[List.nil_append]at h2;injection h2 with h3 h4;exact .inr (.inr (.inl ⟨h1.symm,h3,h4.symm⟩))
  |cons z M=>
   rw[List.cons_append]at h2;injection h2 with h3 h4;subst h3;cases M with
   |nil=>
    simp only[List.nil_append]at h4;injection h4 with h5 h6;exact .inr (.inl ⟨h1,h5,h6⟩)
   |cons z' M=>
    rw[List.cons_append]at h4;injection h4 with h5 h6;subst h5;exact .inl ⟨M,h1,h6⟩
theorem fh {α:Type}{A B C D:List α}(h:A++B=C++D)(hl:A.length<=C.length):∃M,C=A++M∧B=M++D:=by
 rcases List.append_eq_append_iff.1 h with⟨M,h1,h2⟩| ⟨M,h1,h2⟩
 ·exact⟨M,h1,h2⟩
 ·have:M=[]:=by
   have:=congrArg List.length h1;rw[List.length_append]at this;exact List.length_eq_zero_iff.1 (by omega)
  subst this;exact⟨[],by simpa using h1.symm,by simpa using h2.symm⟩
theorem rQ {α:Type}{l:List α}(h:l.length=1):∃x,l=[x]:=by
 match l,h with
 |[x],_=>exact⟨x,rfl⟩
theorem dY {α:Type}{l:List α}{n:Nat}(h:l.length=n+1):∃x m,l=x::m∧m.length=n:=by
 match l,h with
 |x::m,h=>exact⟨x,m,rfl,by simpa using h⟩
section
variable {h:Nat}
abbrev jz (a:KT h)(k:ByteArray)(b:KT h):Nat:=bQ h (sG h a.2 k b.2)
theorem ie {a a' b b':KT h}{k:ByteArray}(h1:bQ h a.2<=bQ h a'.2)(h2:bQ h b.2<=bQ h b'.2):jz a k b<=jz a' k b':=by
 unfold jz;rw[nL,nL];omega
theorem KP.one {A B:List (KT h)}{u v c:KT h}{sA sB:List ByteArray}{k:ByteArray}(hA:A.length=sA.length)(hu:bQ h u.2<=bQ h c.2)(hv:bQ h v.2<=bQ h c.2){j:Nat}
  (h1:j<A.length->KP (A++u::v::B) (sA++k::sB) j)(h2:A.length<j->KP (A++u::v::B) (sA++k::sB) (j+1))(h3:j≠A.length):KP (A++c::B) (sA++sB) j:=by
 intro A' x y B' Em k' lh e1 e2 e3;rcases nM e1 with⟨M,r1,r2⟩| ⟨r1,r2,r3⟩| ⟨r1,r2,r3⟩| ⟨M,r1,r2⟩
 ·subst r1 r2;obtain⟨M',s1,s2⟩:=fh e2.symm (by simp at hA;omega);subst s1;obtain⟨k'',M'',rfl,_⟩:=dY (l:=M') (n:=1+M.length) (by simp at hA;omega);simp only[List.cons_append]at s2;injection s2 with s3 s4;subst s3;refine⟨fun hj hs=>?_,fun hB=>by simp at hB⟩;exact(h1 (by simp;omega) A' x y (M++u::v::B) Em k' (M''++k::sB) (by simp) (by simp) e3).1 hj hs
 ·subst r1 r2 r3;obtain⟨M',s1,s2⟩:=fh e2.symm (by simp at hA;omega);subst s1;obtain⟨k'',rfl⟩:=rQ (l:=M') (by simp at hA;omega);simp only[List.cons_append,List.nil_append]at s2;injection s2 with s3 s4;subst s3;refine⟨fun hj hs=>?_,fun hB hj=>by simp at h3;omega⟩;exact Nat.lt_of_lt_of_le ((h1 (by simp;omega) A' x u (v::B') Em k' (k::sB) (by simp) (by simp) e3).1 hj hs) (ie (Nat.le_refl _) hu)
 ·subst r1 r2 r3;obtain⟨M',s1,s2⟩:=fh e2 (by omega);have:M'=[]:=by
   have:=congrArg List.length s1;rw[List.length_append]at this;exact List.length_eq_zero_iff.1 (by omega)
  subst this;simp only[List.append_nil,List.nil_append]at s1 s2;subst s1 s2;refine⟨fun hj=>by omega,fun hB hj hs=>?_⟩;exact Nat.lt_of_lt_of_le ((h2 (by omega) (A'++[u]) v y B' (Em++[k]) k' lh (by simp) (by simp) (by simp[e3])).2 hB (by simp;omega) hs) (ie hv (Nat.le_refl _))
 ·subst r1 r2;obtain⟨M',s1,s2⟩:=fh e2 (by simp at e3;omega);subst s1 s2;have hl:M'.length=1+M.length:=by simp at e3;omega
  exact⟨fun hj hs=>(h2 (by rw[hj];simp) (A++u::v::M) x y B' (sA++k::M') k' lh (by simp) (by simp) (by simp;omega)).1 (by rw[hj];simp;omega) hs,fun hB hj hs=>(h2 (by rw[hj];simp;omega) (A++u::v::M) x y B' (sA++k::M') k' lh (by simp) (by simp) (by simp;omega)).2 hB (by rw[hj];simp;omega) hs⟩
theorem KP.glue {A B:List (KT h)}{u v:KT h}{sA sB:List ByteArray}{k:ByteArray}(hA:A.length=sA.length)(ha:∀j,KP (A++[u]) sA j)(hb:∀j,KP (v::B) sB j)
  (hp:(bQ h u.2<80->240<jz u k v)∧(B=[]->bQ h v.2<80->240<jz u k v))(j:Nat):KP (A++u::v::B) (sA++k::sB) j:=by
 intro A' x y B' Em k' lh e1 e2 e3;rcases nM e1 with⟨M,r1,r2⟩| ⟨r1,r2,r3⟩| ⟨r1,r2,r3⟩| ⟨M,r1,r2⟩
 ·subst r1 r2;obtain⟨M',s1,s2⟩:=fh e2.symm (by simp at hA;omega);subst s1;obtain⟨k'',M'',rfl,_⟩:=dY (l:=M') (n:=1+M.length) (by simp at hA;omega);simp only[List.cons_append]at s2;injection s2 with s3 s4;subst s3;exact⟨fun hj hs=>(ha j A' x y (M++[u]) Em k' M'' (by simp) rfl e3).1 hj hs,fun hB=>by simp at hB⟩
 ·subst r1 r2 r3;obtain⟨M',s1,s2⟩:=fh e2.symm (by simp at hA;omega);subst s1;obtain⟨k'',rfl⟩:=rQ (l:=M') (by simp at hA;omega);simp only[List.cons_append,List.nil_append]at s2;injection s2 with s3 s4;subst s3;exact⟨fun hj hs=>(ha j A' x y [] Em k' [] (by simp) rfl e3).1 hj hs,fun hB=>by simp at hB⟩
 ·injection r3 with r4 r5;subst r1 r2 r4 r5;obtain⟨M',s1,s2⟩:=fh e2 (by omega);have:M'=[]:=by
   have:=congrArg List.length s1;rw[List.length_append]at this;exact List.length_eq_zero_iff.1 (by omega)
  subst this;simp only[List.append_nil,List.nil_append]at s1 s2;injection s2 with s3 s4;subst s1 s3 s4;exact⟨fun _ hs=>hp.1 hs,fun hB _ hs=>hp.2 hB hs⟩
 ·subst r1;obtain⟨M',s1,s2⟩:=fh e2 (by simp at e3;omega);subst s1;obtain⟨k'',M'',rfl,hl⟩:=dY (l:=M') (n:=M.length) (by simp at e3;omega);simp only[List.cons_append]at s2;injection s2 with s3 s4;subst s3;exact⟨fun _ hs=>(hb M.length M x y B' M'' k' lh r2 s4 hl.symm).1 rfl hs,fun hB _ hs=>(hb (M.length+1) M x y B' M'' k' lh r2 s4 hl.symm).2 hB rfl hs⟩
theorem KP.meet {A B:List (KT h)}{u v c:KT h}{sA sB:List ByteArray}(hA:A.length=sA.length)(ha:∀j,KP (A++[u]) sA j)(hb:∀j,KP (v::B) sB j)
  (hu:bQ h u.2<=bQ h c.2)(hv:bQ h v.2<=bQ h c.2)(j:Nat):KP (A++c::B) (sA++sB) j:=by
 intro A' x y B' Em k' lh e1 e2 e3;rcases nM e1 with⟨M,r1,r2⟩| ⟨r1,r2,r3⟩| ⟨r1,r2,r3⟩| ⟨M,r1,r2⟩
 ·subst r1 r2;obtain⟨M',s1,s2⟩:=fh e2.symm (by simp at hA;omega);subst s1;obtain⟨k'',M'',rfl,_⟩:=dY (l:=M') (n:=1+M.length) (by simp at hA;omega);simp only[List.cons_append]at s2;injection s2 with s3 s4;subst s3;exact⟨fun hj hs=>(ha j A' x y (M++[u]) Em k' M'' (by simp) rfl e3).1 hj hs,fun hB=>by simp at hB⟩
 ·subst r1 r2 r3;obtain⟨M',s1,s2⟩:=fh e2.symm (by simp at hA;omega);subst s1;obtain⟨k'',rfl⟩:=rQ (l:=M') (by simp at hA;omega);simp only[List.cons_append,List.nil_append]at s2;injection s2 with s3 s4;subst s3;exact⟨fun hj hs=>Nat.lt_of_lt_of_le ((ha j A' x u [] Em k' [] (by simp) rfl e3).1 hj hs) (ie (Nat.le_refl _) hu),fun hB hj hs=>Nat.lt_of_lt_of_le ((ha j A' x u [] Em k' [] (by simp) rfl e3).2 rfl hj (by omega)) (ie (Nat.le_refl _) hu)⟩
 ·subst r1 r2 r3;obtain⟨M',s1,s2⟩:=fh e2 (by omega);have:M'=[]:=by
   have:=congrArg List.length s1;rw[List.length_append]at this;exact List.length_eq_zero_iff.1 (by omega)
  subst this;simp only[List.append_nil,List.nil_append]at s1 s2;subst s1 s2;exact⟨fun _ hs=>Nat.lt_of_lt_of_le ((hb 0 [] v y B' [] k' lh rfl rfl rfl).1 rfl (by omega)) (ie hv (Nat.le_refl _)),fun hB _ hs=>Nat.lt_of_lt_of_le ((hb 1 [] v y B' [] k' lh rfl rfl rfl).2 hB rfl hs) (ie hv (Nat.le_refl _))⟩
 ·subst r1 r2;obtain⟨M',s1,s2⟩:=fh e2 (by simp at e3;omega);subst s1 s2;have hl:M'.length=1+M.length:=by simp at e3;omega
  exact⟨fun _ hs=>(hb (M.length+1) (v::M) x y B' M' k' lh rfl rfl (by simp;omega)).1 rfl hs,fun hB _ hs=>(hb (M.length+2) (v::M) x y B' M' k' lh rfl rfl (by simp;omega)).2 hB rfl hs⟩
end
end P
namespace P
open N
theorem getD_at {α:Type}(A:List α)(x:α)(B:List α)(z:α):(A++x::B).getD A.length z=x:=by
 simp[List.getD_eq_getElem?_getD]
theorem jg {l:List En}:2*l.length<=cx l:=by
 induction l with
 |nil=>simp
 |cons x l ih=>simp only[cx,kA,List.length_cons];omega
theorem jh {l:List ByteArray}:5*l.length<=bN l:=by
 induction l with
 |nil=>simp
 |cons x l ih=>simp only[bN,List.length_cons];omega
section
variable {room:Nat}{d:Dk}{S:Dr}{h:Nat}
def bG (K:List (KT h))(ss:List ByteArray):BT (h+1):=(K,ss)
theorem bR (K:List (KT h))(ss:List ByteArray):aT (h+1) (bG K ss)=⟨false,[],K.map Prod.fst,ss⟩:=rfl
theorem Oo (K:List (KT h))(ss:List ByteArray):k8 (h+1) (bG K ss)=gV K:=rfl
theorem Iw (K:List (KT h))(ss:List ByteArray):cd (h+1) (bG K ss)=dh K ss:=rfl
theorem oz (K:List (KT h))(ss:List ByteArray):dR (h+1) (bG K ss)=bM K:=rfl
theorem rR (K:List (KT h))(ss:List ByteArray):bQ (h+1) (bG K ss)=4+bN ss:=rfl
theorem rS (K:List (KT h))(ss:List ByteArray):Wl (h+1) (bG K ss)=(ss.length+1=K.length∧(∀i,KP K ss i)∧∀u∈K,Wl h u.2∧bQ h u.2<=240):=rfl
theorem Ix (K:List (KT h))(ss:List ByteArray)(k:ByteArray)(K':List (KT h))(ss':List ByteArray):sG (h+1) (bG K ss) k (bG K' ss')=bG (K++K') (ss++k::ss'):=rfl
theorem fq (t:BT (h+1)):∃K ss,t=bG K ss:=⟨t.1,t.2,rfl⟩
theorem Xs (l:List En):aT 0 l=⟨true,l,[],[]⟩:=rfl
abbrev dL (u:KT h):List Int:=(nK u).map Prod.fst
abbrev aU (K:List (KT h)):List Int:=(gV K).map Prod.fst
abbrev bh (h:Nat)(t:BT h):List Int:=(k8 h t).map Prod.fst
theorem bV (u:KT h):dL u=u.1::bh h u.2:=rfl
theorem bA (u:KT h)(K:List (KT h)):aU (u::K)=dL u++aU K:=by simp[aU,dC]
theorem a8 (A K:List (KT h)):aU (A++K)=aU A++aU K:=by simp[aU,cT]
theorem pL {K:List (KT h)}{u:KT h}(hu:u∈K):u.1∈aU K:=by
 refine List.mem_map.2 ⟨(u.1,aT h u.2),?_,rfl⟩;exact List.mem_flatten.2 ⟨nK u,List.mem_map_of_mem hu,by simp[nK]⟩
theorem kq (l:List En)(ho:bP (cd 0 l))(hv:∀x∈l,x.2.size<=40):cQ (aT 0 l)=true:=(dJ rfl).2 ⟨rfl,rfl,bP.leaf ho hv⟩
theorem iM (hr:room<=16384)(ok:Sd room S)(K:List (KT h))(ss:List ByteArray)(hl:ss.length+1=K.length)(us:∀p∈aU K,Us S p)(ho:bP (dh K ss)):cQ (aT (h+1) (bG K ss))=true:=by
 rw[bR];refine(cX rfl).2 ⟨rfl,?_,?_,?_,?_⟩
 ·simp;omega
 ·simp;omega
 ·refine Bl fun k hk=>lZ.2 ?_;obtain⟨u,hu,rfl⟩:=List.mem_map.1 hk;have hp:Us S u.1:=us u.1 (pL hu);have h1:=hp.lo;have h2:=hp.hi;have h3:=ok.x.pr;omega
 ·refine bP.keys (ho.sub ?_);rw[dh];exact gT _ _ (by simp;omega)
theorem Ci (hr:room<=16384)(ok:Sd room S)(t:BT h)(hw:Wl h t)(us:∀p∈bh h t,Us S p)(ho:bP (cd h t))(hv:∀x∈dR h t,x.2.size<=40):cQ (aT h t)=true:=by
 cases h with
 |zero=>exact kq t ho hv
 |succ h=>
  obtain⟨K,ss,rfl⟩:=fq t;exact iM hr ok K ss hw.1 us ho
theorem kr (l:List En)(hs:bQ 0 l<=1000):bS (aT 0 l)=true:=by
 have h1:2*l.length<=cx l:=jg;have h2:cx l<=1000:=hs;rw[Xs];simp only[bS,Bool.and_eq_true,decide_eq_true_eq,bN,List.all_nil,List.length_nil];refine⟨⟨⟨⟨⟨?_,?_⟩,?_⟩,?_⟩,?_⟩,trivial⟩<;>first|omega|rfl
theorem Iy (hr:room<=16384)(ok:Sd room S)(K:List (KT h))(ss:List ByteArray)(hl:K.length<=ss.length+1)(hs:bN ss<=1000)(us:∀p∈aU K,Us S p):bS (aT (h+1) (bG K ss))=true:=by
 have h1:5*ss.length<=bN ss:=jh;rw[bR];simp only[bS,Bool.and_eq_true,decide_eq_true_eq,cx,List.all_eq_true,List.length_nil,List.length_map];refine⟨⟨⟨⟨⟨?_,?_⟩,?_⟩,?_⟩,?_⟩,fun k hk=>?_⟩
 iterate 5 (first|omega|rfl)
 obtain⟨u,hu,rfl⟩:=List.mem_map.1 hk;have hp:Us S u.1:=us u.1 (pL hu);have h1:=hp.lo;have h2:=hp.hi;have h3:=ok.x.pr;omega
theorem jV {K:List (KT h)}(is:oy S d (gV K)){u:KT h}(hu:u∈K){depth:Int}(hd:depth<24):S.read d u.1 depth=(aT h u.2,0):=by
 rw[S.gy d _ _ hd];exact is (u.1,aT h u.2) (List.mem_flatten.2 ⟨nK u,List.mem_map_of_mem hu,by simp[nK]⟩)
theorem QX {A B:List (KT h)}{u v:KT h}{sA sB:List ByteArray}{k:ByteArray}(hA:A.length=sA.length)(hB:B.length=sB.length)(p:Int)(c:BT h):
  fQ (aT (h+1) (bG (A++u::v::B) (sA++k::sB))) (A.length:Int) ((A.length:Int)+2) [p] []=aT (h+1) (bG (A++(p,c)::B) (sA++sB)):=by
 have e1:((A.length:Int)+2).toNat=A.length+2:=by omega
 have e2:((A.length:Int)).toNat=A.length:=by omega
 rw[bR,bR,fQ,if_pos]
 ·rw[e1,e2];have e3:tQ A.length [p]=A.length:=by simp[tQ]
  have e4:tR A.length (A.length+2) [p]=A.length+1:=by simp[tR]
  rw[e3,e4];have f1:im ((A++u::v::B).map Prod.fst) A.length (A.length+2) [p]=(A++(p,c)::B).map Prod.fst:=by
   unfold im;rw[List.map_append,List.map_append,List.take_append_of_le_length (by simp),List.drop_append];simp[List.take_of_length_le]
  have f2:im (sA++k::sB) A.length (A.length+1) []=sA++sB:=by
   unfold im;rw[hA,List.take_append_of_le_length (Nat.le_refl _),List.drop_append];simp
  rw[f1,f2]
 ·simp[swB];omega
theorem Uh (hr:room<=16384)(ok:Sd room S)(a b:BT h)(k:ByteArray)(ha:Wl h a)(hb:Wl h b)(us:∀p∈bh h a++bh h b,Us S p)(ho:bP (cd h a++(true,k)::cd h b))(hv:∀x∈dR h a++dR h b,x.2.size<=40):cQ (iR (aT h a) k (aT h b))=true:=by
 rw[<-vG];have ho':=ho.sub (rO h a b k ha);cases h with
 |zero=>exact kq _ ho' (by rw[<-Iu 0 a b k]at hv;exact hv)
 |succ h=>
  obtain⟨K,ss,rfl⟩:=fq a;obtain⟨K',ss',rfl⟩:=fq b;rw[Ix];refine iM hr ok _ _ ?_ ?_ (by rw[Ix]at ho';exact ho')
  ·have h1:=ha.1;have h2:=hb.1;simp only[bG]at h1 h2;simp;omega
  ·rw[a8];exact us
theorem Oq (hr:room<=16384)(ok:Sd room S)(a b:BT h)(k:ByteArray)(ha:Wl h a)(hb:Wl h b)(us:∀p∈bh h a++bh h b,Us S p)(ho:bP (cd h a++(true,k)::cd h b))(hv:∀x∈dR h a++dR h b,x.2.size<=40):cA (iR (aT h a) k (aT h b))=decide (bQ h (sG h a k b)<=240):=by
 unfold cA;rw[Uh hr ok a b k ha hb us ho hv,<-vG,Bool.true_and];rfl
def ll (room:Nat)(d:Dk)(h:Nat):Prop:=
 ∀(S:Dr) (a b:BT h) (k:ByteArray) (depth:Int) (f m:Nat),Sd room S->Wl h a->Wl h b->(∀p∈bh h a++bh h b,Us S p)->(bh h a++bh h b).Nodup->oy S d (k8 h a++k8 h b)->bP (cd h a++(true,k)::cd h b)->(∀x∈dR h a++dR h b,x.2.size<=40)->bQ h (sG h a k b)<=240->depth+h<24->3*(bh h a++bh h b).length+3<=f->Bd S ((bh h a++bh h b).length+1+m)->
  ∃n e S1,aY room d f S (iR (aT h a) k (aT h b)) depth (max (((aT h a).ks.length:Int)-1) 0) (((aT h a).ks.length:Int)+1)=some ((n,e),S1)∧Er room d 0 S (bh h a++bh h b) S1 e∧(e=0->∃c,n=aT h c∧Wl h c∧oy S1 d (k8 h c)∧Fm room d 0 S (bh h a++bh h b) S1 (bh h c)∧(cd h c).Sublist (cd h a++(true,k)::cd h b)∧dR h c=dR h a++dR h b∧bQ h a<=bQ h c∧bQ h b<=bQ h c∧bQ h c<=240∧(bh h c).length<=(bh h a++bh h b).length)
structure Rw (room:Nat)(d:Dk)(S:Dr)(h:Nat)(K:List (KT h))(ss:List ByteArray):Prop where
 sd:Sd room S
 wl:∀u∈K,Wl h u.2∧bQ h u.2<=240
 us:∀p∈aU K,Us S p
 nd:(aU K).Nodup
 is:oy S d (gV K)
 od:bP (dh K ss)
 vl:∀x∈bM K,x.2.size<=40
 sz:bN ss<=1000
 ln:ss.length+1=K.length∨(K=[]∧ss=[])
theorem Rw.pair {A B:List (KT h)}{u v:KT h}{sA sB:List ByteArray}{k:ByteArray}(R:Rw room d S h (A++u::v::B) (sA++k::sB))(hA:A.length=sA.length):
  (∀p∈bh h u.2++bh h v.2,Us S p)∧(bh h u.2++bh h v.2).Nodup∧oy S d (k8 h u.2++k8 h v.2)∧bP (cd h u.2++(true,k)::cd h v.2)∧(∀x∈dR h u.2++dR h v.2,x.2.size<=40):=by
 have e1:gV (A++u::v::B)=gV A++((u.1,aT h u.2)::k8 h u.2++((v.1,aT h v.2)::k8 h v.2++gV B)):=by
  rw[cT,dC,dC];rfl
 have hs:(k8 h u.2++k8 h v.2).Sublist (gV (A++u::v::B)):=by
  rw[e1];refine List.Sublist.trans ?_ (List.sublist_append_right _ _);refine List.Sublist.append (List.sublist_cons_self _ _) ?_;exact List.Sublist.trans (List.sublist_cons_self _ _) (List.sublist_append_left _ _)
 have hp:(bh h u.2++bh h v.2).Sublist (aU (A++u::v::B)):=by
  have:=hs.map Prod.fst
  rwa [List.map_append]at this
 refine⟨fun p hq=>R.us p (hp.subset hq),R.nd.sublist hp,fun x hx=>R.is x (hs.subset hx),?_,fun x hx=>R.vl x ?_⟩
 ·refine R.od.sub ?_;rw[pJ hA];refine List.Sublist.trans ?_ (List.sublist_append_right _ _);exact List.Sublist.append (List.Sublist.refl _) (List.Sublist.cons_cons _ (List.sublist_append_left _ _))
 ·rw[cf,bT,bT];simp only[List.mem_append]at hx⊢;rcases hx with hx|hx
  ·exact .inr (.inl hx)
  ·exact .inr (.inr (.inl hx))
theorem Cj (hr:room<=16384){A B:List (KT h)}{u v w:KT h}{sA sB:List ByteArray}{k:ByteArray}(R:Rw room d S h (A++u::v::B) (sA++k::sB))(hA:A.length=sA.length){depth i:Int}(hd:depth+1<24)
  (hw:w=u∨w=v)(QY:((A++u::v::B).map Prod.fst).getD i.toNat 0=w.1)(hk:bQ h w.2<80->240<jz u k v)(rec:pC):
  fI rec room d S (aT (h+1) (bG (A++u::v::B) (sA++k::sB))) depth i (A.length:Int)=some ((aT (h+1) (bG (A++u::v::B) (sA++k::sB)),false,0),S):=by
 obtain⟨p1,p2,p3,p4,p5⟩:=R.pair hA;have wu:=(R.wl u (by simp)).1;have wv:=(R.wl v (by simp)).1;have r0:S.read d w.1 (depth+1)=(aT h w.2,0):=jV R.is (by rcases hw with rfl|rfl<;>simp) hd;have r1:S.read d u.1 (depth+1)=(aT h u.2,0):=jV R.is (by simp) hd;have r2:S.read d v.1 (depth+1)=(aT h v.2,0):=jV R.is (by simp) hd;have g1:((A++u::v::B).map Prod.fst).getD ((A.length:Int)).toNat 0=u.1:=by
  simp[List.getD_eq_getElem?_getD]
 have g2:((A++u::v::B).map Prod.fst).getD (((A.length:Int)).toNat+1) 0=v.1:=by
  simp[List.getD_eq_getElem?_getD]
 have g3:(sA++k::sB).getD ((A.length:Int)).toNat ⟨#[]⟩=k:=by
  have:=getD_at sA k sB ⟨#[]⟩;rw[show((A.length:Int)).toNat=sA.length by omega];exact this
 have hf:=Oq hr R.sd u.2 v.2 k wu wv p1 p4 p5;rw[bR];unfold fI;simp only[QY,g1,g2,g3,r0,r1,r2,hf];rw[if_neg (by omega),if_neg (by simp)];by_cases hs:80<=dM (aT h w.2)
 ·rw[if_pos hs]
 ·rw[if_neg hs,if_neg (by simp),if_neg (by simp),if_neg (by simp;omega),if_pos];have:=hk (by unfold bQ;omega);unfold jz at this;exact .inr (decide_eq_false (by omega))
theorem rT (hr:room<=16384)(HJ:ll room d h){A B:List (KT h)}{u v w:KT h}{sA sB:List ByteArray}{k:ByteArray}(R:Rw room d S h (A++u::v::B) (sA++k::sB))(hA:A.length=sA.length)(hB:B.length=sB.length){depth i:Int}(hd:depth+1+h<24)
    (hw:w=u∨w=v)(QY:((A++u::v::B).map Prod.fst).getD i.toNat 0=w.1)(hk:bQ h w.2<80)(hj:jz u k v<=240){f m:Nat}(hf:3*(bh h u.2++bh h v.2).length+3<=f)(hb:Bd S ((bh h u.2++bh h v.2).length+2+m)):
    ∃n j e S2,fI (fun S n depth i tt=>aY room d f S n depth (max i 0) tt) room d S (aT (h+1) (bG (A++u::v::B) (sA++k::sB))) depth i (A.length:Int)=some ((n,j,e),S2)∧Er room d 0 S (dL u++dL v) S2 e∧
      (e=0->j=true∧∃p c,n=aT (h+1) (bG (A++(p,c)::B) (sA++sB))∧Wl h c∧bQ h c<=240∧bQ h u.2<=bQ h c∧bQ h v.2<=bQ h c∧oy S2 d (nK (p,c))∧Fm room d 0 S (dL u++dL v) S2 (dL (p,c))∧(cd h c).Sublist (cd h u.2++(true,k)::cd h v.2)∧dR h c=dR h u.2++dR h v.2∧(dL (p,c)).length+1<=(dL u++dL v).length):=by
  obtain⟨p1,p2,p3,p4,p5⟩:=R.pair hA;have wu:=(R.wl u (by simp)).1;have wv:=(R.wl v (by simp)).1;have hd':depth+1<24:=by omega
  have r0:S.read d w.1 (depth+1)=(aT h w.2,0):=jV R.is (by rcases hw with rfl|rfl<;>simp) hd';have r1:S.read d u.1 (depth+1)=(aT h u.2,0):=jV R.is (by simp) hd';have r2:S.read d v.1 (depth+1)=(aT h v.2,0):=jV R.is (by simp) hd';have g1:((A++u::v::B).map Prod.fst).getD ((A.length:Int)).toNat 0=u.1:=by
    simp[List.getD_eq_getElem?_getD]
  have g2:((A++u::v::B).map Prod.fst).getD (((A.length:Int)).toNat+1) 0=v.1:=by
    simp[List.getD_eq_getElem?_getD]
  have g3:(sA++k::sB).getD ((A.length:Int)).toNat ⟨#[]⟩=k:=by
    have:=getD_at sA k sB ⟨#[]⟩;rw[show((A.length:Int)).toNat=sA.length by omega];exact this
  have hfi:=Oq hr R.sd u.2 v.2 k wu wv p1 p4 p5;have hlf:(aT h u.2).leaf=(aT h v.2).leaf:=by rw[yo,yo]
  have Xt:cA (iR (aT h u.2) k (aT h v.2))=true:=by rw[hfi];exact decide_eq_true hj
  have hs:¬80<=dM (aT h w.2):=by unfold bQ at hk;omega
  obtain⟨n,e,S1,h1,h2,h3⟩:=HJ S u.2 v.2 k (depth+1) f (m+1) R.sd wu wv p1 p2 p3 p4 p5 hj hd hf (hb.mono (by omega));have hsub:(dL u++dL v).Sublist (aU (A++u::v::B)):=by
    rw[a8,bA,bA];refine List.Sublist.trans ?_ (List.sublist_append_right _ _);exact List.Sublist.append (List.Sublist.refl _) (List.sublist_append_left _ _)
  have hnd:=R.nd.sublist hsub;have Ot:∀p∈dL u++dL v,Us S p:=fun p hp=>R.us p (hsub.subset hp);have hperm:((bh h u.2++bh h v.2)++[u.1,v.1]).Perm (dL u++dL v):=by
    rw[bV,bV];refine List.perm_append_comm.trans ?_;show(u.1::(v.1::(bh h u.2++bh h v.2))).Perm (u.1::(bh h u.2++v.1::bh h v.2));exact List.Perm.cons _ List.perm_middle.symm
  have hnd':=hperm.nodup_iff.2 hnd;obtain⟨n1,n2,n3⟩:=List.nodup_append.1 hnd';have Vs:Us S u.1:=Ot u.1 (hperm.mem_iff.1 (by simp));have huv:Us S v.1:=Ot v.1 (hperm.mem_iff.1 (by simp));have Xu:u.1≠v.1:=by simpa using n2
  rw[bR];unfold fI;simp only[QY,g1,g2,g3,r0,r1,r2,Xt,hlf];rw[if_neg (by omega),if_neg (by simp),if_neg hs,if_neg (by simp),if_neg (by simp),if_neg (by simp;omega),if_neg (by simp),h1];simp only;by_cases he:e=0
  · subst he;obtain⟨c,rfl,wc,ic,F1,sc,ec,z1,z2,z3,z4⟩:=h3 rfl;rw[if_neg (by simp)];have u1:=F1.yq Vs (fun hx=>n3 _ hx u.1 (by simp) rfl);have u2:=F1.yq huv (fun hx=>n3 _ hx v.1 (by simp) rfl);have hv:∀x∈dR h c,x.2.size<=40:=by rw[ec];exact p5
    have hfc:cA (aT h c)=true:=by
      unfold cA;rw[Ci hr F1.ok c wc F1.us (p4.sub sc) hv,Bool.true_and];exact decide_eq_true z3
    obtain⟨p,e2,S2,k1,k2,k3⟩:=AA (d:=d) F1.ok u1.1 u2.1 Xu hfc (m:=m) (F1.bd hb (by simp only[List.length_append]at*;omega));rw[k1];have E1:=F1.ext (Y:=[u.1,v.1]) (by simp[Vs,huv]) hnd';have ndc:([u.1,v.1]++bh h c).Nodup:=(List.perm_append_comm.nodup_iff).1 E1.nd;refine⟨_,_,_,_,rfl,((E1.perm hperm List.perm_append_comm).er (k2.ext F1.us ndc)).mono (by omega),fun he2=>⟨rfl,p,c,?_,wc,z3,z1,z2,?_,?_,sc,ec,?_⟩⟩
    · rw[<-bR];exact QX hA hB p c
    · obtain⟨F2,v2⟩:=k3 he2;intro x hx;rcases List.mem_cons.1 hx with rfl|hx
      · exact v2
      · exact F2.MQ ic F1.us (fun q hq=>by
          have hm:q∈bh h c:=hq
          intro hc
          rcases List.mem_cons.1 hc with rfl|hc
          · exact u1.2 hm
          · rw[List.mem_singleton.1 hc]at hm
            exact u2.2 hm) x hx
    · obtain⟨F2,v2⟩:=k3 he2;have E1:=F1.ext (Y:=[u.1,v.1]) (by simp[Vs,huv]) hnd';have E2:=F2.ext (Y:=bh h c) F1.us (by
        have:=E1.nd
        exact(List.perm_append_comm.nodup_iff).1 this)
      exact(E1.trans (E2.perm List.perm_append_comm (List.Perm.refl _))).perm hperm (List.Perm.refl _)
    · have:=hperm.length_eq;rw[bV];simp only[List.length_append,List.length_cons,List.length_nil]at this z4⊢;omega
  · rw[if_pos he];exact⟨_,_,_,_,rfl,(h2.ext (Y:=[u.1,v.1]) (by simp[Vs,huv]) hnd').perm hperm,fun h0=>absurd h0 he⟩
end
end P
namespace P
open N
section
variable {room:Nat}{d:Dk}{S:Dr}{h:Nat}
theorem Rw.sm (hr:room<=16384){K:List (KT h)}{ss:List ByteArray}(R:Rw room d S h K ss):bS (aT (h+1) (bG K ss))=true:=
 Iy hr R.sd K ss (by rcases R.ln with e| ⟨e1,e2⟩<;>simp[*]<;>omega) R.sz R.us
theorem jl {f:Nat}{n:Nd}{depth i tt:Int}(hs:bS n=true)(hi:0<=i)(he:¬i<min tt (n.ks.length:Int)):aY room d (f+1) S n depth i tt=some ((n,0),S):=by
 rw[aY,if_neg (by simp[hs];omega),if_neg he]
theorem nN {f:Nat}{n:Nd}{depth i tt:Int}(hs:bS n=true)(hi:0<=i)(he:i<min tt (n.ks.length:Int))
  (hj:fI (fun S n depth i tt=>aY room d f S n depth (max i 0) tt) room d S n depth i (min i ((n.ks.length:Int)-2))=some ((n,false,0),S)):aY room d (f+1) S n depth i tt=aY room d f S n depth (i+1) tt:=by
 rw[aY,if_neg (by simp[hs];omega),if_pos he,hj];simp
theorem lq {f:Nat}{n m:Nd}{S2:Dr}{depth i tt:Int}(hs:bS n=true)(hi:0<=i)(he:i<min tt (n.ks.length:Int))
  (hj:fI (fun S n depth i tt=>aY room d f S n depth (max i 0) tt) room d S n depth i (min i ((n.ks.length:Int)-2))=some ((m,true,0),S2)):aY room d (f+1) S n depth i tt=aY room d f S2 m depth (min i ((n.ks.length:Int)-2)) tt:=by
 rw[aY,if_neg (by simp[hs];omega),if_pos he,hj];simp
theorem lr {f:Nat}{n m:Nd}{S2:Dr}{j:Bool}{e depth i tt:Int}(hs:bS n=true)(hi:0<=i)(he:i<min tt (n.ks.length:Int))(h0:e≠0)
  (hj:fI (fun S n depth i tt=>aY room d f S n depth (max i 0) tt) room d S n depth i (min i ((n.ks.length:Int)-2))=some ((m,j,e),S2)):aY room d (f+1) S n depth i tt=some ((nd0,e),S2):=by
 rw[aY,if_neg (by simp[hs];omega),if_pos he,hj];simp[h0]
theorem Ck {K:List (KT h)}{ss:List ByteArray}(hl:ss.length+1=K.length)(h2:2<=K.length){i:Nat}(hi:i<K.length):
  ∃A u v B sA k sB,K=A++u::v::B∧ss=sA++k::sB∧A.length=sA.length∧B.length=sB.length∧min (i:Int) ((K.length:Int)-2)=(A.length:Int)∧(i=A.length∨(i=A.length+1∧B=[])):=by
 obtain⟨q,hq⟩:∃q,q=min i (K.length-2):=⟨_,rfl⟩;have e1:K=K.take q++K.drop q:=(List.take_append_drop q K).symm;have e2:ss=ss.take q++ss.drop q:=(List.take_append_drop q ss).symm;obtain⟨u,K1,r1,l1⟩:=dY (l:=K.drop q) (n:=K.length-q-1) (by rw[List.length_drop];omega);obtain⟨v,B,r2,l2⟩:=dY (l:=K1) (n:=K.length-q-2) (by omega);obtain⟨k,sB,r3,l3⟩:=dY (l:=ss.drop q) (n:=ss.length-q-1) (by rw[List.length_drop];omega);rw[r1,r2]at e1;rw[r3]at e2;have lA:(K.take q).length=q:=by rw[List.length_take];omega
 refine⟨K.take q,u,v,B,ss.take q,k,sB,e1,e2,?_,by omega,by omega,?_⟩
 ·rw[lA,List.length_take];omega
 ·rw[lA];by_cases hc:i<=K.length-2
  ·exact .inl (by omega)
  ·exact .inr ⟨by omega,List.length_eq_zero_iff.1 (by omega)⟩
theorem Ui {A B:List (KT h)}{u v:KT h}{sA sB:List ByteArray}{k:ByteArray}(hA:A.length=sA.length){i:Nat}
    (hp:(i=A.length∧(bQ h u.2<80->240<jz u k v))∨(i=A.length+1∧B=[]∧(bQ h v.2<80->240<jz u k v))):KP (A++u::v::B) (sA++k::sB) i:=by
  intro A' x y B' Em k' lh e1 e2 e3;have hlen:=congrArg List.length e1;simp only[List.length_append,List.length_cons]at hlen;have key:A.length=A'.length->x=u∧y=v∧k'=k:=fun hq=>by
    obtain⟨r1,r2⟩:=List.append_inj e1 hq;obtain⟨s1,s2⟩:=List.append_inj e2 (by omega);injection r2 with r3 r4;injection r4 with r5 r6;injection s2 with s3 s4;exact⟨r3.symm,r5.symm,s3.symm⟩
  rcases hp with⟨rfl,hp⟩| ⟨rfl,rfl,hp⟩
  · refine⟨fun hj hs=>?_,fun hB hj=>?_⟩
    · obtain⟨rfl,rfl,rfl⟩:=key hj;exact hp hs
    · subst hB;simp at hlen;omega
  · refine⟨fun hj hs=>?_,fun hB hj hs=>?_⟩
    · simp at hlen;omega
    · obtain⟨rfl,rfl,rfl⟩:=key (by omega);exact hp hs
theorem Iz {A B:List (KT h)}{u v:KT h}{i:Nat}(hi:i=A.length∨(i=A.length+1∧B=[])):∃w,(w=u∨w=v)∧((A++u::v::B).map Prod.fst).getD ((i:Int)).toNat 0=w.1∧((i=A.length∧w=u)∨(i=A.length+1∧B=[]∧w=v)):=by
 rcases hi with rfl| ⟨rfl,rfl⟩
 ·exact⟨u,.inl rfl,by simp[List.getD_eq_getElem?_getD],.inl ⟨rfl,rfl⟩⟩
 ·exact⟨v,.inr rfl,by rw[show((A.length+1:Nat):Int).toNat=A.length+1 by omega];simp[List.getD_eq_getElem?_getD],.inr ⟨rfl,rfl,rfl⟩⟩
theorem Cm (hr:room<=16384){K:List (KT h)}{ss:List ByteArray}(R:Rw room d S h K ss){i:Nat}(hi:i<K.length)(hk:KP K ss i){depth:Int}(hd:depth+1<24)(rec:pC):
  fI rec room d S (aT (h+1) (bG K ss)) depth (i:Int) (min (i:Int) ((K.length:Int)-2))=some ((aT (h+1) (bG K ss),false,0),S):=by
 have hl:ss.length+1=K.length:=by rcases R.ln with e| ⟨e1,e2⟩;exact e;rw[e1]at hi;simp at hi
 by_cases h2:2<=K.length
 ·obtain⟨A,u,v,B,sA,k,sB,rfl,rfl,hA,hB,hm,hi'⟩:=Ck hl h2 hi;obtain⟨w,hw,QY,Xv⟩:=Iz (A:=A) (B:=B) (u:=u) (v:=v) hi';rw[hm];refine Cj hr R hA hd hw QY (fun hs=>?_) rec;have:=hk A u v B sA k sB rfl rfl hA;rcases Xv with⟨e1,rfl⟩| ⟨e1,e2,rfl⟩
  ·exact this.1 e1 hs
  ·exact this.2 e2 e1 hs
 ·unfold fI;rw[if_pos (by omega)]
theorem ig (hr:room<=16384){K:List (KT h)}{ss:List ByteArray}(R:Rw room d S h K ss)(hk:∀j,KP K ss j){depth:Int}(hd:depth+1<24):∀(f i:Nat) (tt:Int),(tt-i).toNat+1<=f->aY room d f S (aT (h+1) (bG K ss)) depth (i:Int) tt=some ((aT (h+1) (bG K ss),0),S)
 |0,_,_,hf=>by omega
 |f+1,i,tt,hf=>by
  by_cases hlt:(i:Int)<min tt (((aT (h+1) (bG K ss)).ks.length:Nat):Int)
  ·have hlen:(aT (h+1) (bG K ss)).ks.length=K.length:=by rw[bR];simp
   have hj:=Cm (S:=S) hr R (i:=i) (by rw[hlen]at hlt;omega) (hk i) hd (fun S n depth i tt=>aY room d f S n depth (max i 0) tt);rw[nN (R.sm hr) (by omega) hlt (by rw[hlen];exact hj)];have:=ig hr R hk hd f (i+1) tt (by omega);rw[show((i+1:Nat):Int)=(i:Int)+1 by omega]at this;exact this
  ·exact jl (R.sm hr) (by omega) hlt
theorem Rw.one {A B:List (KT h)}{u v:KT h}{sA sB:List ByteArray}{k:ByteArray}{S2:Dr}{p:Int}{c:BT h}(R:Rw room d S h (A++u::v::B) (sA++k::sB))(hA:A.length=sA.length)(hB:B.length=sB.length)
    (wc:Wl h c)(zc:bQ h c<=240)(ic:oy S2 d (nK (p,c)))(F:Fm room d 0 S (dL u++dL v) S2 (dL (p,c)))(sc:(cd h c).Sublist (cd h u.2++(true,k)::cd h v.2))(ec:dR h c=dR h u.2++dR h v.2):
    Rw room d S2 h (A++(p,c)::B) (sA++sB)∧Fm room d 0 S (aU (A++u::v::B)) S2 (aU (A++(p,c)::B))∧(dh (A++(p,c)::B) (sA++sB)).Sublist (dh (A++u::v::B) (sA++k::sB))∧bM (A++(p,c)::B)=bM (A++u::v::B)∧bN (sA++sB)<=bN (sA++k::sB):=by
  have q1:((dL u++dL v)++(aU A++aU B)).Perm (aU (A++u::v::B)):=by
    rw[a8,bA,bA,<-List.append_assoc (dL u),<-List.append_assoc (aU A),<-List.append_assoc (dL u++dL v)];exact List.Perm.append_right _ List.perm_append_comm
  have q2:(dL (p,c)++(aU A++aU B)).Perm (aU (A++(p,c)::B)):=by
    rw[a8,bA,<-List.append_assoc,<-List.append_assoc];exact List.Perm.append_right _ List.perm_append_comm
  have MS:=q1.nodup_iff.2 R.nd;have Za:∀q∈aU A++aU B,Us S q:=fun q hq=>R.us q (q1.mem_iff.1 (List.mem_append_right _ hq));have E:=(F.ext Za MS).perm q1 q2;have hne:∀q∈aU A++aU B,q∉dL u++dL v:=fun q hq hc=>(List.nodup_append.1 MS).2.2 q hc q hq rfl;have sf:(dh (A++(p,c)::B) (sA++sB)).Sublist (dh (A++u::v::B) (sA++k::sB)):=by
    rw[eQ hA,pJ hA];refine List.Sublist.append (List.Sublist.refl _) ?_;have:=List.Sublist.append sc (List.Sublist.refl (jw (B.map fun u=>cd h u.2) sB));simpa using this
  have se:bM (A++(p,c)::B)=bM (A++u::v::B):=by
    rw[cf,cf,bT,bT,bT,ec,List.append_assoc]
  have sz:bN (sA++sB)<=bN (sA++k::sB):=by
    rw[dA,dA,bN];omega
  refine⟨⟨F.ok,fun w hw=>?_,E.us,E.nd,?_,R.od.sub sf,by rw[se];exact R.vl,Nat.le_trans sz R.sz,.inl (by simp;omega)⟩,E,sf,se,sz⟩
  · rcases List.mem_append.1 hw with hw|hw
    · exact R.wl w (by simp[hw])
    · rcases List.mem_cons.1 hw with rfl|hw
      · exact⟨wc,zc⟩
      · exact R.wl w (by simp[hw])
  · have Uj:oy S2 d (gV A++gV B):=F.MQ (fun x hx=>R.is x (by
        rw[cT,dC,dC]
        simp only[List.mem_append]at hx⊢
        rcases hx with hx|hx
        · exact .inl hx
        · exact .inr (.inr (.inr hx)))) (by rw[List.map_append];exact Za) (by rw[List.map_append];exact hne)
    intro x hx;rw[cT,dC]at hx;simp only[List.mem_append]at hx;rcases hx with hx|hx|hx
    · exact Uj x (List.mem_append_left _ hx)
    · exact ic x hx
    · exact Uj x (List.mem_append_right _ hx)
theorem Rw.vI {A B:List (KT h)}{u v:KT h}{ss:List ByteArray}{S2:Dr}{e:Int}(R:Rw room d S h (A++u::v::B) ss)(E:Er room d 0 S (dL u++dL v) S2 e):Er room d 0 S (aU (A++u::v::B)) S2 e:=by
 have q1:((dL u++dL v)++(aU A++aU B)).Perm (aU (A++u::v::B)):=by
  rw[a8,bA,bA,<-List.append_assoc (dL u),<-List.append_assoc (aU A),<-List.append_assoc (dL u++dL v)];exact List.Perm.append_right _ List.perm_append_comm
 exact(E.ext (fun q hq=>R.us q (q1.mem_iff.1 (List.mem_append_right _ hq))) (q1.nodup_iff.2 R.nd)).perm q1
theorem gH (hr:room<=16384)(HJ:ll room d h){depth:Int}(hd:depth+1+h<24){m:Nat}:∀(f:Nat) (S:Dr) (K:List (KT h)) (ss:List ByteArray) (i tt:Nat),Rw room d S h K ss->(∀j,j<i->KP K ss j)->(∀j,tt<=j->KP K ss j)->3*(aU K).length+(tt-i)+1<=f->Bd S ((aU K).length+2+m)->
  ∃n e S1,aY room d f S (aT (h+1) (bG K ss)) depth (i:Int) (tt:Int)=some ((n,e),S1)∧Er room d 0 S (aU K) S1 e∧(e=0->∃K' ss',n=aT (h+1) (bG K' ss')∧Rw room d S1 h K' ss'∧(∀j,KP K' ss' j)∧Fm room d 0 S (aU K) S1 (aU K')∧(dh K' ss').Sublist (dh K ss)∧bM K'=bM K∧bN ss'<=bN ss∧(K'=[]->K=[])∧(aU K').length<=(aU K).length)
 |0,_,_,_,_,_,_,_,_,hf,_=>by omega
 |f+1,S,K,ss,i,tt,R,k1,k2,hf,hb=>by
  have hlen:(aT (h+1) (bG K ss)).ks.length=K.length:=by rw[bR];simp
  by_cases hlt:(i:Int)<min (tt:Int) (((aT (h+1) (bG K ss)).ks.length:Nat):Int)
  ·have hi:i<K.length∧i<tt:=by rw[hlen]at hlt;omega
   by_cases hkp:KP K ss i
   ·have hj:=Cm (S:=S) hr R hi.1 hkp (by omega:depth+1<24) (fun S n depth i tt=>aY room d f S n depth (max i 0) tt);rw[nN (R.sm hr) (by omega) hlt (by rw[hlen];exact hj)];have:=gH hr HJ hd f S K ss (i+1) tt R (fun j hj=>if e:j=i then e▸hkp else k1 j (by omega)) k2 (by omega) hb;rw[show((i+1:Nat):Int)=(i:Int)+1 by omega]at this;exact this
   ·have hl:ss.length+1=K.length:=by rcases R.ln with e| ⟨e1,e2⟩;exact e;rw[e1]at hi;simp at hi
    have h2:2<=K.length:=by
     by_cases h2:2<=K.length
     ·exact h2
     ·exfalso;apply hkp;intro A' x y B' Em k' lh e1 e2 e3;have:=congrArg List.length e1;simp at this;omega
    obtain⟨A,u,v,B,sA,k,sB,rfl,rfl,hA,hB,hm,hi'⟩:=Ck hl h2 hi.1;obtain⟨w,hw,QY,Xv⟩:=Iz (A:=A) (B:=B) (u:=u) (v:=v) hi';have hiA:A.length<=i∧i<=A.length+1:=by rcases hi' with e| ⟨e,_⟩<;>omega
    have hsm:bQ h w.2<80∧jz u k v<=240:=by
     by_cases hc:bQ h w.2<80∧jz u k v<=240
     ·exact hc
     ·exfalso;apply hkp;apply Ui hA;rcases Xv with⟨e1,rfl⟩| ⟨e1,e2,rfl⟩
      ·exact .inl ⟨e1,fun hs=>by omega⟩
      ·exact .inr ⟨e1,e2,fun hs=>by omega⟩
    have hpl:(aU (A++u::v::B)).length=(aU A).length+(bh h u.2++bh h v.2).length+2+(aU B).length:=by
     rw[a8,bA,bA,bV,bV];simp only[List.length_append,List.length_cons];omega
    obtain⟨n,j,e,S2,j1,j2,j3⟩:=rT (S:=S) (f:=f) (m:=m) hr HJ R hA hB hd hw QY hsm.1 hsm.2 (by omega) (hb.mono (by omega));rw[<-hm]at j1;by_cases he:e=0
    ·subst he;obtain⟨rfl,p,c,rfl,wc,zc,zu,zv,ic,F,sc,ec,lc⟩:=j3 rfl;obtain⟨R2,E,sf,se,sz⟩:=R.one hA hB wc zc ic F sc ec;rw[lq (R.sm hr) (by omega) hlt (by rw[hlen];exact j1),hlen,hm];have aak:(aU (A++(p,c)::B)).length+1<=(aU (A++u::v::B)).length:=by
      rw[hpl,a8,bA];rw[bV,bV,bV]at lc;rw[bV];simp only[List.length_append,List.length_cons]at lc⊢;omega
     obtain⟨n',e',S',t1,t2,t3⟩:=gH (m:=m) hr HJ hd f S2 (A++(p,c)::B) (sA++sB) A.length tt R2 (fun j hj=>KP.one (c:=(p,c)) (k:=k) hA zu zv (fun _=>k1 j (by omega)) (fun hc=>by omega) (by omega)) (fun j hj=>KP.one (c:=(p,c)) (k:=k) hA zu zv (fun hc=>by omega) (fun _=>k2 (j+1) (by omega)) (by omega)) (by omega) (E.bd hb (by omega));refine⟨n',e',S',t1,E.er t2,fun h0=>?_⟩;obtain⟨K',ss',r1,r2,r3,r4,r5,r6,r7,r8,r9⟩:=t3 h0;exact⟨K',ss',r1,r2,r3,E.trans r4,r5.trans sf,r6.trans se,Nat.le_trans r7 sz,fun hc=>by have:=r8 hc;simp at this,by omega⟩
    ·rw[lr (R.sm hr) (by omega) hlt he (by rw[hlen];exact j1)];exact⟨_,_,_,rfl,R.vI j2,fun h0=>absurd h0 he⟩
  ·rw[jl (R.sm hr) (by omega) hlt];refine⟨_,0,_,rfl,fun h0=>absurd rfl h0,fun _=>⟨K,ss,rfl,R,fun j=>?_,Fm.refl R.sd R.us R.nd,List.Sublist.refl _,rfl,Nat.le_refl _,id,Nat.le_refl _⟩⟩;rw[hlen]at hlt;by_cases hj:j<i
   ·exact k1 j hj
   ·by_cases hj2:tt<=j
    ·exact k2 j hj2
    ·intro A' x y B' Em k' lh e1 e2 e3;have:=congrArg List.length e1;simp at this;exact⟨fun hc=>by omega,fun hB hc=>by omega⟩
end
end P
namespace P
open N
section
variable {room:Nat}{d:Dk}
theorem MU (hr:room<=16384):ll room d 0:=by
 intro S a b k depth f m sd wa wb us nd is od vl hj hd hf hb;obtain⟨f,rfl⟩:∃f',f=f'+1:=⟨f-1,by omega⟩;rw[<-vG];refine⟨_,0,S,jl (kr _ (Nat.le_trans hj (by omega))) (by simp[aT];omega) (by simp[aT,sG];omega),fun h0=>absurd rfl h0,fun _=>⟨sG 0 a k b,rfl,?_,?_,?_,rO 0 a b k wa,Iu 0 a b k,?_,?_,hj,?_⟩⟩
 ·intro hc;exact wa (List.append_eq_nil_iff.1 hc).1
 ·rw[Ax];exact is
 ·have e:bh 0 (sG 0 a k b)=bh 0 a++bh 0 b:=by simp[bh,Ax]
  rw[e];exact Fm.refl sd us nd
 ·rw[nL];omega
 ·rw[nL];omega
 ·simp[bh,Ax]
theorem vJ {α:Type}{l:List α}{n:Nat}(h:n+1=l.length):∃A u,l=A++[u]∧A.length=n:=by
 refine⟨l.dropLast,l.getLast (fun e=>by rw[e]at h;simp at h),(List.dropLast_concat_getLast _).symm,?_⟩;simp;omega
theorem MV (hr:room<=16384){h:Nat}(HJ:ll room d h):ll room d (h+1):=by
 intro S a b k depth f m sd wa wb us nd is od vl hj hd hf hb;obtain⟨Ka,sa,rfl⟩:=fq a;obtain⟨Kb,sb,rfl⟩:=fq b;rw[rS]at wa wb;obtain⟨A,u,rfl,hA⟩:=vJ wa.1;obtain⟨v,B,rfl,hB⟩:=dY wb.1.symm;have Uk:∀x:List (KT h),(A++[u])++v::B=A++u::v::B:=fun _=>by simp
 have eJ:sG (h+1) (bG (A++[u]) sa) k (bG (v::B) sb)=bG (A++u::v::B) (sa++k::sb):=by rw[Ix,Uk []]
 have ePg:bh (h+1) (bG (A++[u]) sa)++bh (h+1) (bG (v::B) sb)=aU (A++u::v::B):=by
  show aU (A++[u])++aU (v::B)=_;rw[<-a8,Uk []]
 have eCl:k8 (h+1) (bG (A++[u]) sa)++k8 (h+1) (bG (v::B) sb)=gV (A++u::v::B):=by
  rw[Oo,Oo,<-cT,Uk []]
 have eEn:dR (h+1) (bG (A++[u]) sa)++dR (h+1) (bG (v::B) sb)=bM (A++u::v::B):=by
  rw[oz,oz,<-cf,Uk []]
 have eFl:cd (h+1) (bG (A++[u]) sa)++(true,k)::cd (h+1) (bG (v::B) sb)=dh (A++u::v::B) (sa++k::sb):=by
  rw[<-vH _ _ k wa.1,eJ,Iw]
 rw[eJ,rR]at hj;have e0:((aT (h+1) (bG (A++[u]) sa)).ks.length:Int)=(A.length:Int)+1:=by rw[bR];simp
 rw[<-vG,eJ,e0];rw[ePg]at us nd hf hb⊢;rw[eCl]at is;rw[eEn]at vl⊢;rw[eFl]at od⊢;have R:Rw room d S h (A++u::v::B) (sa++k::sb):=⟨sd,fun w hw=>by
  rw[<-Uk []]at hw
  rcases List.mem_append.1 hw with hw|hw
  ·exact wa.2.2 w hw
  ·exact wb.2.2 w hw,us,nd,is,od,vl,by omega,.inl (by simp;omega)⟩
 have hd':depth+1<24:=by omega
 have hd2:depth+1+h<24:=by omega
 have hlen:(aT (h+1) (bG (A++u::v::B) (sa++k::sb))).ks.length=A.length+B.length+2:=by rw[bR];simp;omega
 have hsz:bQ (h+1) (bG (A++[u]) sa)=4+bN sa∧bQ (h+1) (bG (v::B) sb)=4+bN sb:=⟨rfl,rfl⟩;have hsk:bN (sa++k::sb)=bN sa+(5+k.size+bN sb):=by rw[dA,bN]
 have hpl:(aU (A++u::v::B)).length=(aU A).length+(bh h u.2++bh h v.2).length+2+(aU B).length:=by
  rw[a8,bA,bA,bV,bV];simp only[List.length_append,List.length_cons];omega
 rw[show max ((A.length:Int)+1-1) 0=((A.length:Nat):Int) by omega,show(A.length:Int)+1+1=((A.length+2:Nat):Int) by omega];have fin:∀(f' i:Nat) (S2:Dr) (p:Int) (c:BT h) (w:KT h),f'+2>=f->Wl h c->bQ h c<=240->bQ h u.2<=bQ h c->bQ h v.2<=bQ h c->oy S2 d (nK (p,c))->Fm room d 0 S (dL u++dL v) S2 (dL (p,c))->(cd h c).Sublist (cd h u.2++(true,k)::cd h v.2)->dR h c=dR h u.2++dR h v.2->(dL (p,c)).length+1<=(dL u++dL v).length->
   ∃n e S1,aY room d f' S2 (aT (h+1) (bG (A++(p,c)::B) (sa++sb))) depth (A.length:Int) ((A.length+2:Nat):Int)=some ((n,e),S1)∧Er room d 0 S (aU (A++u::v::B)) S1 e∧(e=0->∃c,n=aT (h+1) c∧Wl (h+1) c∧oy S1 d (k8 (h+1) c)∧Fm room d 0 S (aU (A++u::v::B)) S1 (bh (h+1) c)∧(cd (h+1) c).Sublist (dh (A++u::v::B) (sa++k::sb))∧dR (h+1) c=bM (A++u::v::B)∧bQ (h+1) (bG (A++[u]) sa)<=bQ (h+1) c∧bQ (h+1) (bG (v::B) sb)<=bQ (h+1) c∧bQ (h+1) c<=240∧(bh (h+1) c).length<=(aU (A++u::v::B)).length):=by
  intro f' i S2 p c w hf' wc zc zu zv ic F sc ec lc;obtain⟨R2,E,sf,se,sz⟩:=R.one hA hB wc zc ic F sc ec;have hk:∀j,KP (A++(p,c)::B) (sa++sb) j:=KP.meet (c:=(p,c)) hA wa.2.1 wb.2.1 zu zv;rw[ig hr R2 hk hd' f' A.length _ (by omega)];have z1:bQ (h+1) (bG (A++(p,c)::B) (sa++sb))=4+(bN sa+bN sb):=by rw[rR,dA]
  refine⟨_,0,S2,rfl,fun h0=>absurd rfl h0,fun _=>⟨bG (A++(p,c)::B) (sa++sb),rfl,?_,R2.is,E,sf,se,?_,?_,?_,?_⟩⟩
  ·rw[rS];exact⟨by simp;omega,hk,R2.wl⟩
  ·rw[z1,hsz.1];omega
  ·rw[z1,hsz.2];omega
  ·rw[z1];omega
  ·have:bh (h+1) (bG (A++(p,c)::B) (sa++sb))=aU (A++(p,c)::B):=rfl;rw[this,hpl,a8,bA];rw[bV,bV,bV]at lc;rw[bV];simp only[List.length_append,List.length_cons]at lc⊢;omega
 by_cases c1:bQ h u.2<80∧jz u k v<=240
 ·obtain⟨f,rfl⟩:∃f',f=f'+1:=⟨f-1,by omega⟩;have hlt:((A.length:Nat):Int)<min ((A.length+2:Nat):Int) (((aT (h+1) (bG (A++u::v::B) (sa++k::sb))).ks.length:Nat):Int):=by rw[hlen];omega
  have hm:min ((A.length:Nat):Int) ((((aT (h+1) (bG (A++u::v::B) (sa++k::sb))).ks.length:Nat):Int)-2)=(A.length:Int):=by rw[hlen];omega
  obtain⟨n,j,e,S2,j1,j2,j3⟩:=rT (S:=S) (f:=f) (m:=m) (i:=(A.length:Int)) hr HJ R hA hB hd2 (.inl rfl) (by simp[List.getD_eq_getElem?_getD]) c1.1 c1.2 (by omega) (hb.mono (by omega));by_cases he:e=0
  ·subst he;obtain⟨rfl,p,c,rfl,wc,zc,zu,zv,ic,F,sc,ec,lc⟩:=j3 rfl;rw[lq (R.sm hr) (by omega) hlt (by rw[hm];exact j1),hm];exact fin f 0 S2 p c u (by omega) wc zc zu zv ic F sc ec lc
  ·rw[lr (R.sm hr) (by omega) hlt he (by rw[hm];exact j1)];exact⟨_,_,_,rfl,R.vI j2,fun h0=>absurd h0 he⟩
 ·by_cases c2:B=[]∧bQ h v.2<80∧jz u k v<=240
  ·obtain⟨f,rfl⟩:∃f',f=f'+2:=⟨f-2,by omega⟩;obtain⟨rfl,c2,c3⟩:=c2;have hlen:(aT (h+1) (bG (A++[u,v]) (sa++k::sb))).ks.length=A.length+2:=by rw[hlen];simp
   have hlt:((A.length:Nat):Int)<min ((A.length+2:Nat):Int) (((aT (h+1) (bG (A++[u,v]) (sa++k::sb))).ks.length:Nat):Int):=by rw[hlen];omega
   have hm:min ((A.length:Nat):Int) ((((aT (h+1) (bG (A++[u,v]) (sa++k::sb))).ks.length:Nat):Int)-2)=(A.length:Int):=by rw[hlen];omega
   have hlt2:((A.length:Nat):Int)+1<min ((A.length+2:Nat):Int) (((aT (h+1) (bG (A++[u,v]) (sa++k::sb))).ks.length:Nat):Int):=by rw[hlen];omega
   have hm2:min (((A.length:Nat):Int)+1) ((((aT (h+1) (bG (A++[u,v]) (sa++k::sb))).ks.length:Nat):Int)-2)=(A.length:Int):=by rw[hlen];omega
   have hj0:=Cj (S:=S) hr R hA hd' (w:=u) (i:=(A.length:Int)) (.inl rfl) (by simp[List.getD_eq_getElem?_getD]) (fun hs=>by omega) (fun S n depth i tt=>aY room d (f+1) S n depth (max i 0) tt);rw[nN (R.sm hr) (by omega) hlt (by rw[hm];exact hj0)];obtain⟨n,j,e,S2,j1,j2,j3⟩:=rT (S:=S) (f:=f) (m:=m) (i:=(A.length:Int)+1) (w:=v) hr HJ R hA hB hd2 (.inr rfl) (by rw[show((A.length:Int)+1).toNat=A.length+1 by omega];simp[List.getD_eq_getElem?_getD]) c2 c3 (by omega) (hb.mono (by omega));by_cases he:e=0
   ·subst he;obtain⟨rfl,p,c,rfl,wc,zc,zu,zv,ic,F,sc,ec,lc⟩:=j3 rfl;rw[lq (R.sm hr) (by omega) hlt2 (by rw[hm2];exact j1),hm2];exact fin f 0 S2 p c u (by omega) wc zc zu zv ic F sc ec lc
   ·rw[lr (R.sm hr) (by omega) hlt2 he (by rw[hm2];exact j1)];exact⟨_,_,_,rfl,R.vI j2,fun h0=>absurd h0 he⟩
  ·have hk:∀j,KP (A++u::v::B) (sa++k::sb) j:=KP.glue hA wa.2.1 wb.2.1 ⟨fun hs=>by omega,fun hB0 hs=>by
    by_cases hc:jz u k v<=240
    ·exact absurd ⟨hB0,hs,hc⟩ c2
    ·omega⟩
   rw[ig hr R hk hd' f A.length _ (by omega)];refine⟨_,0,S,rfl,fun h0=>absurd rfl h0,fun _=>⟨bG (A++u::v::B) (sa++k::sb),rfl,?_,R.is,Fm.refl R.sd R.us R.nd,List.Sublist.refl _,rfl,?_,?_,?_,Nat.le_refl _⟩⟩
   ·rw[rS];exact⟨by simp;omega,hk,R.wl⟩
   ·rw[rR,rR,hsk];omega
   ·rw[rR,rR,hsk];omega
   ·rw[rR];omega
theorem IE (hr:room<=16384):∀h,ll room d h
 |0=>MU hr
 |h+1=>MV hr (IE hr h)
end
end P
end Go.Proofs.YtceoeaemenhbhaaGreatDoor
