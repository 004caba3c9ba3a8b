/- Walks of the package cowtree and of what it stands on: lemmas, made short. -/
import Derived.Test.YtceoeaemenhbhaaGreatDoorR1
import Derived.Sort.Statements
import Derived.Lib.Small
import Derived.Shelf.SlSortCmp.KitK
import Derived.Shelf.SlSortCmp.QuietGrown
import Derived.Lib.SliceRun
import Derived.Laws.AppendOwnNone
import Derived.WalkKit
import Derived.WalkSpells
import Derived.WalkLawsBesides
import Derived.Deep.RegionHeld3
import Derived.Test.YtceoeaemenhbhaaGreatDoorProg
import Derived.BigQuiet
import Derived.Deep.DeepCutAuto
set_option maxHeartbeats 16000000
set_option maxRecDepth 100000
set_option linter.unusedVariables false
set_option linter.unusedSimpArgs false
namespace Go.Proofs.YtceoeaemenhbhaaGreatDoor
section
section
open Go.RowKit
def ky (d:Dk)(id:Int):Bool:=decide (2<=id∧id<d.sure.length)
def nX (kind:UInt8)(o:UInt8×List UInt8×Int):ByteArray×Int:=if o.2.2=0∧o.1=kind then(⟨o.2.1.toArray⟩,0)else(ByteArray.empty,3)
def Dk.rd (d:Dk)(id:Int)(kind:UInt8):(ByteArray×Int)×Dk:=
 if ky d id then(if(d.get id).1.2=0 then nX kind (opn id (d.get id).1.1.data.toList)else(ByteArray.empty,(d.get id).1.2),(d.get id).2)else((ByteArray.empty,40),d)
def jm (id:Int)(kind:UInt8)(b:ByteArray):ByteArray:=⟨(cC id.toNat kind b.data.toList).toArray⟩
def Dk.room (d:Dk):Nat:=max d.sure.length 2
end
section
open Go.RowKit
def qx (b:Nat):Obj:=.cells #[ptr b] 113 (0,0)
def File (f b:Nat)(d:Dk):aO:=Both (kv b d) (aF f (qx b))
def bW (B:Nat)(w0:World):Prop:=∀u,Below B w0 u->tv u
theorem Kk {w:World}(h:tv w):bW w.heap.size w:=fun _ hu=>h.below hu
section
variable {B:Nat}{w0 w w':World}{f b:Nat}{d d':Dk}{l:List aO}
theorem Sep.part (h:Sep B w0 w (File f b d::l)):Sep B w0 w (kv b d::aF f (qx b)::l):=h.map fun _=>Hp.part (mS _ _) (aZ _ _)
theorem Sep.A2 (h:Sep B w0 w (File f b d::l)):w.cell? ⟨f,0,none⟩=some (ptr b)∧f<w.heap.size:=by
 have hb:=h.part.ql.blk;exact⟨by simp[World.cell?,hb,qx],(Array.getElem?_eq_some_iff.1 hb).1⟩
theorem Sep.VU (h:Sep B w0 w (File f b d::l)):d.Ok:=h.part.ok
theorem qy (ok:d.Ok){i:Nat}(hi:i<d.sure.length):∀n,n<=d.pend.length->(tx d.sure d.pend i n).size=256
 |0,_=>Fh ok.sz hi
 |n+1,hn=>by
  rw[qi];split
  ·exact(O0 ok (by omega)).2
  ·exact qy ok hi n (by omega)
theorem Dk.Fq (ok:d.Ok)(i:Int):(d.get i).1.1.size<=maxLen:=by
 unfold Dk.get;split
 ·unfold maxLen;simp
 ·split
  ·rename_i h
   have:=of_decide_eq_true h;show(d.now i.toNat).size<=maxLen;unfold Dk.now;rw[qy ok (by omega) _ (Nat.le_refl _)];decide
  ·unfold maxLen;simp
theorem NH (h:Sep B w0 w (kv b d::l)):Calls Tryz.prog 26 #[ptr b] w fun e w'=>∃f,e=.returned (ptr f)∧Sep B w0 w' (File f b d::l):=by
 have S1:Hid (Sep B w0 (w.alloc (qx b)) (File w.heap.size b d::l)):=(h.aP (qx b)).ql.join;unfold qx at S1;clear h;go_enter Tryz.func26,Tryz.ntmps26;go_wp2;go_ret;exact⟨_,rfl,S1.out⟩
theorem zb (h:Sep B w0 w (File f b d::l)):Calls Tryz.prog 56 #[ptr f] w fun e w'=>e=.returned (.int .i64 d.room)∧w=w':=by
 obtain⟨c0,hf⟩:=h.A2;have C:Hid _:=Dm h.part;have hl:Hid (d.sure.length<=16384):=h.VU.len;clear h;go_enter Tryz.func56,Tryz.ntmps56
 go_wp2_with fail
 refine Calls.mono C.out ?_;rintro e w1 ⟨rfl,rfl⟩;clear C;go_wp2;go_ret;exact⟨jW (by unfold Dk.room;omega),rfl⟩
theorem tD (h:Sep B w0 w (File f b d::l))(id:Int):Calls Tryz.prog 61 #[ptr f,.int .i64 id] w fun e w'=>e=.returned (.bool (ky d id))∧w=w':=by
 have C:Hid _:=zb h;clear h;by_cases h2:2<=id
 ·have E:Hid (decide (id< (d.room:Int))=ky d id):=by
   show _=_;unfold ky Dk.room;rw[decide_eq_decide];omega
  generalize ky d id=y at E;generalize d.room=R at*;go_enter Tryz.func61,Tryz.ntmps61
  go_wp2_with fail
  refine Calls.mono C.out ?_;rintro e w1 ⟨rfl,rfl⟩;clear C;go_wp2;go_ret;exact⟨pU E.out,rfl⟩
 ·have E:Hid (ky d id=false):=by
   show _=_;unfold ky;rw[decide_eq_false_iff_not];omega
  go_enter Tryz.func61,Tryz.ntmps61;go_wp2;go_ret;exact⟨pU E.out.symm,rfl⟩
theorem wR (kind:UInt8)(id:Int)(s:List UInt8):((opn id s).2.2≠0∧nX kind (opn id s)=(ByteArray.empty,3)∧opn id s=(0,[],3))∨
  ((opn id s).2.2=0∧(opn id s).1≠kind∧nX kind (opn id s)=(ByteArray.empty,3))∨((opn id s).2.2=0∧(opn id s).1=kind∧nX kind (opn id s)=(⟨(opn id s).2.1.toArray⟩,0)):=by
 unfold nX;by_cases h:(opn id s).2.2=0
 ·by_cases hk:(opn id s).1=kind
  ·exact .inr (.inr ⟨h,hk,by rw[if_pos ⟨h,hk⟩]⟩)
  ·exact .inr (.inl ⟨h,hk,by rw[if_neg (fun c=>hk c.2)]⟩)
 ·exact .inl ⟨h,by rw[if_neg (fun c=>h c.1)],J8 h⟩
theorem Kl {a b:UInt8}(h:a≠b):((a.toNat:Int)==(b.toNat:Int))=false:=by
 rw[beq_eq_false_iff_ne];intro e;exact h (UInt8.toNat_inj.1 (by omega))
theorem Pn (T:bW B w0)(h:Sep B w0 w (File f b d::l))(id:Int)(kind:UInt8):
  Calls Tryz.prog 33 #[ptr f,.int .i64 id,.int .u8 (kind.toNat:Int)] w fun e w'=>e=.returned (.tuple #[.string (d.rd id kind).1.1,.int .i64 (d.rd id kind).1.2])∧Sep B w0 w' (File f b (d.rd id kind).2::l):=by
 have Dp:=tD h id;have HS:Hid (Sep B w0 w (File f b d::l)):=h;obtain⟨c0,hf⟩:=h.A2;cases hp:ky d id with
 |false=>
  rw[hp]at Dp;have CH:Hid _:=Dp;have E:Hid (d.rd id kind=((ByteArray.empty,40),d)):=by show _=_;unfold Dk.rd;rw[hp];rfl
  rw[E.out];clear h Dp hp;go_enter Tryz.func33,Tryz.ntmps33
  go_wp2_with fail
  refine Calls.mono CH.out ?_;rintro e w1 ⟨rfl,rfl⟩;clear CH;go_wp2;go_ret2;exact⟨rfl,HS.out⟩
 |true=>
  rw[hp]at Dp;have CH:Hid _:=Dp;have RP:=Pa h.part id;have hz:=Dk.Fq h.VU id;have E:d.rd id kind=(if(d.get id).1.2=0 then nX kind (opn id (d.get id).1.1.data.toList)else(ByteArray.empty,(d.get id).1.2),(d.get id).2):=by unfold Dk.rd;rw[hp];rfl
  rw[E];clear h Dp hp E HS;generalize(d.get id).1.1=s at*;generalize(d.get id).1.2=er at*;generalize(d.get id).2=d2 at*;have CR:Hid _:=RP;clear RP;by_cases he:er=0
  ·subst he;rw[if_pos rfl];have CO:Hid (∀u,tv u->_):=fun u hu=>Ff id s u hu hz;rcases wR kind id s.data.toList with⟨h1,h2,h3⟩| ⟨h1,h2,h3⟩| ⟨h1,h2,h3⟩
   ·rw[h2];rw[h3]at CO;clear h1 h2 h3;go_enter Tryz.func33,Tryz.ntmps33
    go_wp2_with fail
    refine Calls.mono CH.out ?_;rintro e w1 ⟨rfl,rfl⟩;clear CH
    go_wp2_with fail
    refine Calls.mono CR.out ?_;rintro e w2 ⟨rfl,s2⟩;have S2:Hid (Sep B w0 w2 (File f b d2::l)):=s2.join;have C3:Hid _:=CO.out w2 (T w2 s2.AX);clear CR s2 CO
    go_wp2_with fail
    refine Calls.mono C3.out ?_;rintro e w3 ⟨rfl,b3⟩;have S3:Hid (Sep B w0 w3 (File f b d2::l)):=S2.out.below b3;clear b3 C3 S2;go_wp2;go_ret2;exact⟨rfl,S3.out⟩
   ·rw[h3];have hne:=Kl h2;rw[h1]at CO;clear h1 h2 h3;generalize(opn id s.data.toList).1.toNat=K at*;generalize(opn id s.data.toList).2.1.toArray=bo at*;go_enter Tryz.func33,Tryz.ntmps33
    go_wp2_with fail
    refine Calls.mono CH.out ?_;rintro e w1 ⟨rfl,rfl⟩;clear CH
    go_wp2_with fail
    refine Calls.mono CR.out ?_;rintro e w2 ⟨rfl,s2⟩;have S2:Hid (Sep B w0 w2 (File f b d2::l)):=s2.join;have C3:Hid _:=CO.out w2 (T w2 s2.AX);clear CR s2 CO
    go_wp2_with fail
    refine Calls.mono C3.out ?_;rintro e w3 ⟨rfl,b3⟩;have S3:Hid (Sep B w0 w3 (File f b d2::l)):=S2.out.below b3;clear b3 C3 S2;go_wp2;go_ret2;exact⟨rfl,S3.out⟩
   ·rw[h3];rw[h1,h2]at CO;clear h1 h2 h3;generalize(opn id s.data.toList).2.1.toArray=bo at*;go_enter Tryz.func33,Tryz.ntmps33
    go_wp2_with fail
    refine Calls.mono CH.out ?_;rintro e w1 ⟨rfl,rfl⟩;clear CH
    go_wp2_with fail
    refine Calls.mono CR.out ?_;rintro e w2 ⟨rfl,s2⟩;have S2:Hid (Sep B w0 w2 (File f b d2::l)):=s2.join;have C3:Hid _:=CO.out w2 (T w2 s2.AX);clear CR s2 CO
    go_wp2_with fail
    refine Calls.mono C3.out ?_;rintro e w3 ⟨rfl,b3⟩;have S3:Hid (Sep B w0 w3 (File f b d2::l)):=S2.out.below b3;clear b3 C3 S2;go_wp2;go_ret2;exact⟨rfl,S3.out⟩
  ·rw[if_neg he];have hne:(er != 0)=true:=by rw[bne_iff_ne];exact he
   clear he;go_enter Tryz.func33,Tryz.ntmps33
   go_wp2_with fail
   refine Calls.mono CH.out ?_;rintro e w1 ⟨rfl,rfl⟩;clear CH
   go_wp2_with fail
   refine Calls.mono CR.out ?_;rintro e w2 ⟨rfl,s2⟩;have S2:Hid (Sep B w0 w2 (File f b d2::l)):=s2.join;clear CR s2;go_wp2;go_ret2;exact⟨rfl,S2.out⟩
end
end
section
open Go.RowKit
def zs (s:ByteArray)(n:Nat):ByteArray:=⟨(s.data.toList++List.replicate n 0).toArray⟩
def ab:ByteArray:=⟨#[97,98]⟩
structure A1 where
 k:Int
 i:Int
 kd:UInt8
 s:ByteArray
def a0:A1:=⟨0,0,0,ByteArray.empty⟩
end
section
open Go.RowKit
structure Yb (d:Dk)(kinds:List UInt8)(bodies:List ByteArray)(there:List Bool):Prop where
 kl:kinds.length=12
 bl:bodies.length=12
 tl:there.length=12
 yes:∀j,2<=j->j<12->Ya there j=true->d.now j=jm j (ZN kinds j) (Ez bodies j)∧(Ez bodies j).size<=240
 no:∀j,2<=j->j<12->Ya there j=false->d.now j=jD
end
end
end Go.Proofs.YtceoeaemenhbhaaGreatDoor
namespace Go.Proofs.YtceoeaemenhbhaaGreatDoor
open Go.Shelf Go.RowKit Go.Lib Go.Sort
section
section
abbrev Pr:=Int×Int
def cU (l:List Pr)(n:Int):Prop:=0<=n∧n<=4294967295∧∃r∈l,r.1<=n∧n<=r.2
def Po (n:Int)(r:Pr):Bool:=decide (r.1<=n)&&decide (n<=r.2)
def hasB (l:List Pr)(n:Int):Bool:=(decide (0<=n)&&decide (n<=4294967295))&&l.any (Po n)
theorem eU (l:List Pr)(n:Int):hasB l n=true↔cU l n:=by
 unfold hasB cU Po;simp only[Bool.and_eq_true,decide_eq_true_eq,List.any_eq_true];constructor
 ·rintro⟨⟨h1,h2⟩,h3⟩;exact⟨h1,h2,h3⟩
 ·rintro⟨h1,h2,h3⟩;exact⟨⟨h1,h2⟩,h3⟩
theorem Fs {l:List Pr}{n:Int}(h:cU l n):hasB l n=true:=(eU l n).2 h
theorem iX {l:List Pr}{n:Int}(h:¬cU l n):hasB l n=false:=by
 cases e:hasB l n with
 |false=>rfl
 |true=>exact absurd ((eU l n).1 e) h
theorem oU {l:List Pr}{n:Int}{b:Bool}(h:cU l n↔b=true):hasB l n=b:=by
 cases b with
 |true=>exact Fs (h.2 rfl)
 |false=>exact iX fun k=>by have:=h.1 k;cases this
def Cn (l:List Pr):Prop:=(∀r∈l,0<=r.1∧r.1<=r.2∧r.2<=4294967295)∧l.Pairwise fun r s=>r.2+1<s.1
theorem Cn.nil:Cn []:=⟨fun _ h=>by simp at h,List.Pairwise.nil⟩
theorem bp {r:Pr}{l:List Pr}:Cn (r::l)↔(0<=r.1∧r.1<=r.2∧r.2<=4294967295)∧(∀s∈l,r.2+1<s.1)∧Cn l:=by
 unfold Cn;rw[List.pairwise_cons];constructor
 ·rintro⟨h1,h2,h3⟩;exact⟨h1 r (by simp),h2,fun s hs=>h1 s (by simp[hs]),h3⟩
 ·rintro⟨h1,h2,h3,h4⟩;refine⟨fun s hs=>?_,h2,h4⟩;rcases List.mem_cons.1 hs with rfl|hs
  ·exact h1
  ·exact h3 s hs
theorem jZ {r:Pr}{l:List Pr}:Cn (l++[r])↔Cn l∧(∀s∈l,s.2+1<r.1)∧(0<=r.1∧r.1<=r.2∧r.2<=4294967295):=by
 unfold Cn;rw[List.pairwise_append];constructor
 ·rintro⟨h1,h2,_,h4⟩;exact⟨⟨fun s hs=>h1 s (by simp[hs]),h2⟩,fun s hs=>h4 s hs r (by simp),h1 r (by simp)⟩
 ·rintro⟨⟨h1,h2⟩,h3,h4⟩;refine⟨fun s hs=>?_,h2,by simp,fun s hs t ht=>?_⟩
  ·rcases List.mem_append.1 hs with hs|hs
   ·exact h1 s hs
   ·rw[List.mem_singleton.1 hs];exact h4
  ·rw[List.mem_singleton.1 ht];exact h3 s hs
theorem dm (n:Int):¬cU [] n:=fun⟨_,_,r,h,_⟩=>by simp at h
theorem aN (r:Pr)(l:List Pr)(n:Int):cU (r::l) n↔(0<=n∧n<=4294967295∧r.1<=n∧n<=r.2)∨cU l n:=by
 unfold cU;constructor
 ·rintro⟨h1,h2,s,hs,h3,h4⟩;rcases List.mem_cons.1 hs with rfl|hs
  ·exact Or.inl ⟨h1,h2,h3,h4⟩
  ·exact Or.inr ⟨h1,h2,s,hs,h3,h4⟩
 ·rintro(⟨h1,h2,h3,h4⟩| ⟨h1,h2,s,hs,h3,h4⟩)
  ·exact⟨h1,h2,r,by simp,h3,h4⟩
  ·exact⟨h1,h2,s,by simp[hs],h3,h4⟩
theorem et (l m:List Pr)(n:Int):cU (l++m) n↔cU l n∨cU m n:=by
 induction l with
 |nil=>simp[dm]
 |cons r l ih=>rw[List.cons_append,aN,aN,ih];exact or_assoc.symm
theorem eK (r:Pr)(n:Int):cU [r] n↔0<=n∧n<=4294967295∧r.1<=n∧n<=r.2:=by
 rw[aN];simp[dm]
theorem Cn.e8 {r:Pr}{l:List Pr}(h:Cn (r::l)){n:Int}(hn:cU l n):r.2+1<n:=by
 obtain⟨_,h2,_⟩:=bp.1 h;obtain⟨_,_,s,hs,h3,_⟩:=hn;have:=h2 s hs;omega
theorem Cn.uC {r:Pr}{l:List Pr}(h:Cn (r::l)){n:Int}(hn:cU (r::l) n):r.1<=n:=by
 obtain⟨h1,_,_⟩:=bp.1 h;rcases(aN r l n).1 hn with h2|h2
 ·omega
 ·have:=h.e8 h2;omega
theorem Cn.dQ {r:Pr}{l:List Pr}(h:Cn (r::l)){n:Int}(h1:r.1<=n)(h2:n<=r.2):cU (r::l) n:=by
 obtain⟨h3,_,_⟩:=bp.1 h;exact(aN r l n).2 (Or.inl ⟨by omega,by omega,h1,h2⟩)
theorem Cn.A4 {r:Pr}{l:List Pr}(h:Cn (r::l))(n:Int):cU l n↔cU (r::l) n∧r.2<n:=by
 constructor
 ·intro hn;have:=h.e8 hn;exact⟨(aN r l n).2 (Or.inr hn),by omega⟩
 ·rintro⟨h1,h2⟩;rcases(aN r l n).1 h1 with h3|h3
  ·omega
  ·exact h3
theorem qz:∀(l m:List Pr),Cn l->Cn m->(∀n,cU l n↔cU m n)->l=m
 |[],[],_,_,_=>rfl
 |[],s::m,_,hm,h=>by
  obtain⟨h1,_,_⟩:=bp.1 hm;exact absurd ((h s.1).2 (hm.dQ (Int.le_refl _) (by omega))) (dm _)
 |r::l,[],hl,_,h=>by
  obtain⟨h1,_,_⟩:=bp.1 hl;exact absurd ((h r.1).1 (hl.dQ (Int.le_refl _) (by omega))) (dm _)
 |r::l,s::m,hl,hm,h=>by
  have hr:=(bp.1 hl).1;have hs:=(bp.1 hm).1;have e1:r.1=s.1:=by
   have a:=hm.uC ((h r.1).1 (hl.dQ (Int.le_refl _) (by omega)));have b:=hl.uC ((h s.1).2 (hm.dQ (Int.le_refl _) (by omega)));omega
  have e2:r.2=s.2:=by
   rcases Int.lt_trichotomy r.2 s.2 with c|c|c
   ·have a:=(h (r.2+1)).2 (hm.dQ (by omega) (by omega));rcases(aN r l _).1 a with a|a
    ·omega
    ·have:=hl.e8 a;omega
   ·exact c
   ·have a:=(h (s.2+1)).1 (hl.dQ (by omega) (by omega));rcases(aN s m _).1 a with a|a
    ·omega
    ·have:=hm.e8 a;omega
  have e:r=s:=by
   obtain⟨a,b⟩:=r;obtain⟨c,d⟩:=s;rw[Prod.mk.injEq];exact⟨e1,e2⟩
  subst e;rw[qz l m (bp.1 hl).2.2 (bp.1 hm).2.2 fun n=>by rw[hl.A4,hm.A4,h n]]
def cD (r:Pr):Pr:=(max r.1 0,min r.2 4294967295)
def gf (r:Pr)(done:Bool):List Pr->List Pr
 |[]=>if done then []else [r]
 |y::l=>
  if y.2+1<r.1 then y::gf r done l
  else if r.2+1<y.1 then(if done then y::gf r done l else r::y::gf r true l)
  else gf (min r.1 y.1,max r.2 y.2) done l
def iY (l:List Pr)(x:Pr):List Pr:=if(cD x).1<=(cD x).2 then gf (cD x) false l else l
def nY (l:List Pr):List Pr:=l.foldl iY []
def A5 (a b:List Pr):List Pr:=nY (a++b)
def SL (out:List Pr)(r:Pr):List Pr:=out.foldl (fun nx y=>iY (iY nx (y.1,min y.2 (r.1-1))) (max y.1 (r.2+1),y.2)) []
def Dq (out:List Pr)(x:Pr):List Pr:=if(cD x).1<=(cD x).2 then SL out (cD x)else out
def Pp (a b:List Pr):List Pr:=b.foldl Dq (nY a)
def tE (a b:List Pr):List Pr:=Pp a (Pp a b)
def iZ (s:List Pr):Int:=s.foldl (fun n r=>n+r.2-r.1+1) 0
theorem kN:∀(l:List Pr) (r:Pr),r.1<=r.2->Cn l->(∀y∈l,r.2+1<y.1)->gf r true l=l
 |[],_,_,_,_=>rfl
 |y::l,r,hr,hl,h=>by
  have h1:=h y (by simp);obtain⟨h2,_,h4⟩:=bp.1 hl;rw[gf,if_neg (by omega),if_pos h1,if_pos rfl,kN l r hr h4 fun z hz=>h z (by simp[hz])]
theorem qC:∀(l:List Pr) (r:Pr) (z:Pr),r.1<=r.2->Cn l->z∈gf r false l->r.1<=z.1∨∃y∈l,y.1<=z.1
 |[],r,z,_,_,hz=>by
  simp[gf]at hz;rw[hz];exact Or.inl (Int.le_refl _)
 |y::l,r,z,hr,hl,hz=>by
  obtain⟨h2,h3,h4⟩:=bp.1 hl;rw[gf]at hz;split at hz
  ·rcases List.mem_cons.1 hz with rfl|hz
   ·exact Or.inr ⟨z,by simp,Int.le_refl _⟩
   ·rcases qC l r z hr h4 hz with h| ⟨s,hs,h⟩
    ·exact Or.inl h
    ·exact Or.inr ⟨s,by simp[hs],h⟩
  ·split at hz
   ·rw[if_neg (by simp),kN l r hr h4 fun s hs=>by have:=h3 s hs;omega]at hz;rcases List.mem_cons.1 hz with rfl|hz
    ·exact Or.inl (Int.le_refl _)
    ·exact Or.inr ⟨z,hz,Int.le_refl _⟩
   ·rcases qC l _ z (by simp only;omega) h4 hz with h| ⟨s,hs,h⟩
    ·simp only at h;rcases Int.le_total r.1 y.1 with c|c
     ·exact Or.inl (by omega)
     ·exact Or.inr ⟨y,by simp,by omega⟩
    ·exact Or.inr ⟨s,by simp[hs],h⟩
theorem qD:∀(l:List Pr) (r:Pr),0<=r.1->r.1<=r.2->r.2<=4294967295->Cn l->Cn (gf r false l)∧∀n,cU (gf r false l) n↔cU (r::l) n
 |[],r,h0,hr,h1,_=>by
  refine⟨?_,fun n=>Iff.rfl⟩;show Cn [r];exact bp.2 ⟨⟨h0,hr,h1⟩,fun _ h=>by simp at h,Cn.nil⟩
 |y::l,r,h0,hr,h1,hl=>by
  obtain⟨h2,h3,h4⟩:=bp.1 hl;rw[gf];split
  ·obtain⟨c1,c2⟩:=qD l r h0 hr h1 h4;refine⟨bp.2 ⟨h2,fun s hs=>?_,c1⟩,fun n=>?_⟩
   ·rcases qC l r s hr h4 hs with h| ⟨t,ht,h⟩
    ·omega
    ·have:=h3 t ht;omega
   ·rw[aN,c2 n,aN,aN,aN];constructor
    ·rintro(h|h|h)
     ·exact Or.inr (Or.inl h)
     ·exact Or.inl h
     ·exact Or.inr (Or.inr h)
    ·rintro(h|h|h)
     ·exact Or.inr (Or.inl h)
     ·exact Or.inl h
     ·exact Or.inr (Or.inr h)
  ·split
   ·rw[if_neg (by simp),kN l r hr h4 fun s hs=>by have:=h3 s hs;omega];refine⟨bp.2 ⟨⟨h0,hr,h1⟩,fun s hs=>?_,hl⟩,fun n=>Iff.rfl⟩;rcases List.mem_cons.1 hs with rfl|hs
    ·assumption
    ·have:=h3 s hs;omega
   ·obtain⟨c1,c2⟩:=qD l (min r.1 y.1,max r.2 y.2) (by simp only;omega) (by simp only;omega) (by simp only;omega) h4;refine⟨c1,fun n=>?_⟩;rw[c2 n,aN,aN,aN];simp only;constructor
    ·rintro(h|h)
     ·by_cases k:r.1<=n∧n<=r.2
      ·exact Or.inl ⟨h.1,h.2.1,k.1,k.2⟩
      ·exact Or.inr (Or.inl (by omega))
     ·exact Or.inr (Or.inr h)
    ·rintro(h|h|h)
     ·exact Or.inl (by omega)
     ·exact Or.inl (by omega)
     ·exact Or.inr h
theorem fC:∀(l:List Pr) (r:Pr) (d:Bool),(gf r d l).length<=l.length+(if d then 0 else 1)
 |[],r,d=>by cases d<;>simp[gf]
 |y::l,r,d=>by
  rw[gf];split
  ·have:=fC l r d;simp only[List.length_cons];omega
  ·split
   ·cases d with
    |true=>have:=fC l r true;simp at*;omega
    |false=>have:=fC l r true;simp at*;omega
   ·have:=fC l (min r.1 y.1,max r.2 y.2) d;simp only[List.length_cons];omega
theorem Fu (x:Pr)(l:List Pr)(n:Int):cU (cD x::l) n↔cU (x::l) n:=by
 rw[aN,aN];simp only[cD];constructor
 ·rintro(h|h)
  ·exact Or.inl (by omega)
  ·exact Or.inr h
 ·rintro(h|h)
  ·exact Or.inl (by omega)
  ·exact Or.inr h
theorem uD (l:List Pr)(x:Pr)(h:Cn l):Cn (iY l x)∧∀n,cU (iY l x) n↔cU (x::l) n:=by
 unfold iY;by_cases c:(cD x).1<=(cD x).2
 ·rw[if_pos c];obtain⟨c1,c2⟩:=qD l (cD x) (by simp only[cD];omega) c (by simp only[cD];omega) h;exact⟨c1,fun n=>by rw[c2 n,Fu]⟩
 ·rw[if_neg c];refine⟨h,fun n=>?_⟩;rw[aN];constructor
  ·exact Or.inr
  ·rintro(k|k)
   ·simp only[cD]at c;omega
   ·exact k
theorem jG (l:List Pr)(x:Pr):(iY l x).length<=l.length+1:=by
 unfold iY;split
 ·exact fC l _ false
 ·omega
theorem hZ:∀(l m:List Pr),Cn m->Cn (l.foldl iY m)∧(∀n,cU (l.foldl iY m) n↔cU l n∨cU m n)∧(l.foldl iY m).length<=m.length+l.length
 |[],m,h=>⟨h,fun n=>by simp[dm],by simp⟩
 |x::l,m,h=>by
  obtain⟨c1,c2⟩:=uD m x h;obtain⟨d1,d2,d3⟩:=hZ l (iY m x) c1;refine⟨d1,fun n=>?_,?_⟩
  ·rw[List.foldl_cons,d2 n,c2 n,aN,aN];constructor
   ·rintro(k|k|k)
    ·exact Or.inl (Or.inr k)
    ·exact Or.inl (Or.inl k)
    ·exact Or.inr k
   ·rintro((k|k)|k)
    ·exact Or.inr (Or.inl k)
    ·exact Or.inl k
    ·exact Or.inr (Or.inr k)
  ·have:=jG m x;rw[List.foldl_cons,List.length_cons];omega
theorem jH (l:List Pr):Cn (nY l):=(hZ l [] Cn.nil).1
theorem kO (l:List Pr)(n:Int):cU (nY l) n↔cU l n:=by
 rw[nY,(hZ l [] Cn.nil).2.1 n];simp[dm]
theorem qE (l:List Pr):(nY l).length<=l.length:=by
 have:=(hZ l [] Cn.nil).2.2;rw[nY];simpa using this
theorem Fv {s l:List Pr}(h:Cn s)(k:∀n,cU s n↔cU l n):s=nY l:=qz _ _ h (jH l) fun n=>by rw[k n,kO]
theorem tF {s:List Pr}(h:Cn s):nY s=s:=(Fv h fun _=>Iff.rfl).symm
theorem wS:∀(l m:List Pr) (r:Pr),0<=r.1->r.2<=4294967295->r.1<=r.2->Cn m->(∀y∈l,0<=y.1∧y.1<=y.2∧y.2<=4294967295)->
    Cn (l.foldl (fun nx y=>iY (iY nx (y.1,min y.2 (r.1-1))) (max y.1 (r.2+1),y.2)) m)∧(∀n,cU (l.foldl (fun nx y=>iY (iY nx (y.1,min y.2 (r.1-1))) (max y.1 (r.2+1),y.2)) m) n↔(cU l n∧¬(r.1<=n∧n<=r.2))∨cU m n)∧
    (l.foldl (fun nx y=>iY (iY nx (y.1,min y.2 (r.1-1))) (max y.1 (r.2+1),y.2)) m).length<=m.length+2*l.length
  | [],m,_,_,_,_,hm,_=>⟨hm,fun n=>by simp[dm],by simp⟩
  | y::l,m,r,h0,h1,h2,hm,hy=>by
    obtain⟨c1,c2⟩:=uD m (y.1,min y.2 (r.1-1)) hm;obtain⟨d1,d2⟩:=uD _ (max y.1 (r.2+1),y.2) c1;obtain⟨e1,e2,e3⟩:=wS l _ r h0 h1 h2 d1 fun z hz=>hy z (by simp[hz]);refine⟨e1,fun n=>?_,?_⟩
    · rw[List.foldl_cons,e2 n,d2 n,aN,c2 n,aN,aN];simp only;constructor
      · rintro(⟨k1,k2⟩|k|k|k)
        · exact Or.inl ⟨Or.inr k1,k2⟩
        · exact Or.inl ⟨Or.inl (by omega),by omega⟩
        · exact Or.inl ⟨Or.inl (by omega),by omega⟩
        · exact Or.inr k
      · rintro(⟨k1|k1,k2⟩|k)
        · by_cases c:n<r.1
          · exact Or.inr (Or.inr (Or.inl (by omega)))
          · exact Or.inr (Or.inl (by omega))
        · exact Or.inl ⟨k1,k2⟩
        · exact Or.inr (Or.inr (Or.inr k))
    · have a:=jG m (y.1,min y.2 (r.1-1));have b:=jG (iY m (y.1,min y.2 (r.1-1))) (max y.1 (r.2+1),y.2);rw[List.foldl_cons,List.length_cons];omega
theorem Km (out:List Pr)(x:Pr)(h:Cn out):Cn (Dq out x)∧(∀n,cU (Dq out x) n↔cU out n∧¬cU [x] n):=by
 unfold Dq SL;by_cases c:(cD x).1<=(cD x).2
 ·rw[if_pos c];obtain⟨c1,c2,_⟩:=wS out [] (cD x) (by simp only[cD];omega) (by simp only[cD];omega) c Cn.nil h.1;refine⟨c1,fun n=>?_⟩;rw[c2 n,eK];constructor
  ·rintro(⟨k1,k2⟩|k)
   ·refine⟨k1,fun k3=>k2 ?_⟩;simp only[cD];omega
   ·exact absurd k (dm _)
  ·rintro⟨k1,k2⟩;refine Or.inl ⟨k1,fun k3=>k2 ?_⟩;simp only[cD]at k3;have:=k1.1;have:=k1.2.1;omega
 ·rw[if_neg c];refine⟨h,fun n=>⟨fun k=>⟨k,fun k2=>?_⟩,fun k=>k.1⟩⟩;rw[eK]at k2;simp only[cD]at c;omega
theorem uE:∀(b m:List Pr),Cn m->Cn (b.foldl Dq m)∧∀n,cU (b.foldl Dq m) n↔cU m n∧¬cU b n
 |[],m,h=>⟨h,fun n=>by simp[dm]⟩
 |x::b,m,h=>by
  obtain⟨c1,c2⟩:=Km m x h;obtain⟨d1,d2⟩:=uE b _ c1;refine⟨d1,fun n=>?_⟩;rw[List.foldl_cons,d2 n,c2 n,eK,aN];constructor
  ·rintro⟨⟨k1,k2⟩,k3⟩;exact⟨k1,fun k=>k.elim k2 k3⟩
  ·rintro⟨k1,k2⟩;exact⟨⟨k1,fun k=>k2 (Or.inl k)⟩,fun k=>k2 (Or.inr k)⟩
theorem Fw (a b:List Pr):Cn (Pp a b):=(uE b _ (jH a)).1
theorem ze (a b:List Pr)(n:Int):cU (Pp a b) n↔cU a n∧¬cU b n:=by rw[Pp,(uE b _ (jH a)).2 n,kO]
theorem mV (a b:List Pr):Cn (tE a b):=Fw _ _
theorem mW (a b:List Pr)(n:Int):cU (tE a b) n↔cU a n∧cU b n:=by
 rw[tE,ze,ze];constructor
 ·rintro⟨h1,h2⟩;refine⟨h1,?_⟩;by_cases c:cU b n
  ·exact c
  ·exact absurd ⟨h1,c⟩ h2
 ·rintro⟨h1,h2⟩;exact⟨h1,fun h=>h.2 h2⟩
theorem Fx (a b:List Pr):Cn (A5 a b):=jH _
theorem uF (a b:List Pr)(n:Int):cU (A5 a b) n↔cU a n∨cU b n:=by rw[A5,kO,et]
theorem Pq {s a b:List Pr}(h:Cn s)(k:∀n,cU s n↔cU a n∧¬cU b n):s=Pp a b:=qz _ _ h (Fw a b) fun n=>by rw[k n,ze]
theorem Fy {s a b:List Pr}(h:Cn s)(k:∀n,cU s n↔cU a n∧cU b n):s=tE a b:=qz _ _ h (mV a b) fun n=>by rw[k n,mW]
end
section
def ja (l:List Pr):List Pr:=(l.map cD).filter fun r=>decide (r.1<=r.2)
theorem Kn (l:List Pr):∀r∈ja l,0<=r.1∧r.1<=r.2∧r.2<=4294967295:=fun r hr=>by
 obtain⟨h1,h2⟩:=List.mem_filter.1 hr;obtain⟨x,_,rfl⟩:=List.mem_map.1 h1;rw[decide_eq_true_eq]at h2;simp only[cD]at*;omega
theorem Ko (l:List Pr)(n:Int):cU (ja l) n↔cU l n:=by
 constructor
 ·rintro⟨h1,h2,r,hr,h3,h4⟩;obtain⟨hm,_⟩:=List.mem_filter.1 hr;obtain⟨x,hx,rfl⟩:=List.mem_map.1 hm;simp only[cD]at h3 h4;exact⟨h1,h2,x,hx,by omega,by omega⟩
 ·rintro⟨h1,h2,r,hr,h3,h4⟩;refine⟨h1,h2,cD r,List.mem_filter.2 ⟨List.mem_map.2 ⟨r,hr,rfl⟩,?_⟩,?_,?_⟩
  ·rw[decide_eq_true_eq];simp only[cD];omega
  ·simp only[cD];omega
  ·simp only[cD];omega
theorem jI (l:List Pr):(ja l).length<=l.length:=by
 have:=List.length_filter_le (fun r=>decide (r.1<=r.2)) (l.map cD);rw[List.length_map]at this;exact this
theorem sL (l:List Pr)(x:Pr)(h:(cD x).1<=(cD x).2):ja (l++[x])=ja l++[cD x]:=by
 unfold ja;rw[List.map_append,List.filter_append];simp[h]
theorem uG (l:List Pr)(x:Pr)(h:¬(cD x).1<=(cD x).2):ja (l++[x])=ja l:=by
 unfold ja;rw[List.map_append,List.filter_append];simp[h]
theorem Fz {l m:List Pr}(h:∀x,x∈l↔x∈m)(n:Int):cU l n↔cU m n:=by
 constructor
 ·rintro⟨h1,h2,r,hr,h3⟩;exact⟨h1,h2,r,(h r).1 hr,h3⟩
 ·rintro⟨h1,h2,r,hr,h3⟩;exact⟨h1,h2,r,(h r).2 hr,h3⟩
def NI (t:List Pr):Prop:=(∀r∈t,0<=r.1∧r.1<=r.2∧r.2<=4294967295)∧t.Pairwise fun r s=>r.1<=s.1
structure jJ (done rest set:List Pr):Prop where
 cn:Cn set
 same:∀n,cU set n↔cU done n
 le:∀r∈set,∀x∈rest,r.1<=x.1
 len:set.length<=done.length
theorem jJ.start (t:List Pr):jJ [] t []:=⟨Cn.nil,fun _=>Iff.rfl,fun _ h=>by simp at h,Nat.le_refl _⟩
theorem jJ.join {done rest pre:List Pr}{a b:Int}{x:Pr}(h:jJ done (x::rest) (pre++[(a,b)]))(ht:NI (x::rest))(h2:x.1<=b+1):jJ (done++[x]) rest (pre++[(a,max b x.2)]):=by
 obtain⟨c1,c2,c3⟩:=jZ.1 h.cn;simp only at c2 c3;have hx:=ht.1 x (by simp);have hax:a<=x.1:=h.le (a,b) (by simp) x (by simp);refine⟨jZ.2 ⟨c1,c2,by simp only;omega⟩,fun n=>?_,fun r hr y hy=>?_,?_⟩
 ·rw[et done,<-h.same n,et,et,eK,eK,eK];simp only;constructor
  ·rintro(k|k)
   ·exact Or.inl (Or.inl k)
   ·by_cases c:n<=b
    ·exact Or.inl (Or.inr (by omega))
    ·exact Or.inr (by omega)
  ·rintro((k|k)|k)
   ·exact Or.inl k
   ·exact Or.inr (by omega)
   ·exact Or.inr (by omega)
 ·rcases List.mem_append.1 hr with hr|hr
  ·exact h.le r (by simp[hr]) y (by simp[hy])
  ·rw[List.mem_singleton.1 hr];exact h.le (a,b) (by simp) y (by simp[hy])
 ·have:=h.len;simp only[List.length_append,List.length_cons,List.length_nil]at*;omega
theorem jJ.add {done rest set:List Pr}{x:Pr}(h:jJ done (x::rest) set)(ht:NI (x::rest))(h2:∀r∈set,r.2+1<x.1):jJ (done++[x]) rest (set++[x]):=by
 refine⟨jZ.2 ⟨h.cn,h2,ht.1 x (by simp)⟩,fun n=>?_,fun r hr y hy=>?_,?_⟩
 ·rw[et,et,h.same n]
 ·rcases List.mem_append.1 hr with hr|hr
  ·exact h.le r hr y (by simp[hy])
  ·rw[List.mem_singleton.1 hr];exact(List.pairwise_cons.1 ht.2).1 y hy
 ·have:=h.len;simp only[List.length_append,List.length_cons,List.length_nil]at*;omega
theorem Cn.Kp {pre:List Pr}{r:Pr}(h:Cn (pre++[r])){m:Int}(hm:r.2+1<m):∀s∈pre++[r],s.2+1<m:=fun s hs=>by
 obtain⟨_,c2,c3⟩:=jZ.1 h;rcases List.mem_append.1 hs with hs|hs
 ·have:=c2 s hs;omega
 ·rw[List.mem_singleton.1 hs];exact hm
def mr (x y:Pr):List Pr:=if max x.1 y.1<=min x.2 y.2 then [(max x.1 y.1,min x.2 y.2)]else []
structure jK (a b a' b' both:List Pr):Prop where
 ca:Cn a'
 cb:Cn b'
 cn:Cn both
 same:∀n,(cU a n∧cU b n)↔cU both n∨(cU a' n∧cU b' n)
 lt:∀r∈both,∀n,cU a' n->cU b' n->r.2+1<n
 len:both.length+a'.length+b'.length<=a.length+b.length
theorem jK.start {a b:List Pr}(ha:Cn a)(hb:Cn b):jK a b a b []:=⟨ha,hb,Cn.nil,fun n=>by simp[dm],fun _ h=>by simp at h,by simp⟩
theorem FC (x y:Pr)(n:Int):cU (mr x y) n↔0<=n∧n<=4294967295∧x.1<=n∧n<=x.2∧y.1<=n∧n<=y.2:=by
 unfold mr;split
 ·rw[eK];simp only;omega
 ·constructor
  ·intro h;exact absurd h (dm n)
  ·intro h;omega
theorem NK {both:List Pr}{x y:Pr}(h:Cn both)(hx:0<=x.1∧x.1<=x.2∧x.2<=4294967295)(hy:0<=y.1∧y.1<=y.2∧y.2<=4294967295)(hlt:∀r∈both,∀n,x.1<=n->n<=x.2->y.1<=n->n<=y.2->r.2+1<n):Cn (both++mr x y):=by
 unfold mr;split
 ·refine jZ.2 ⟨h,fun s hs=>?_,by simp only;omega⟩;exact hlt s hs (max x.1 y.1) (by omega) (by omega) (by omega) (by omega)
 ·rw[List.append_nil];exact h
theorem FD {x y r:Pr}(h:r∈mr x y):r.2=min x.2 y.2:=by
 unfold mr at h;split at h
 ·rw[List.mem_singleton.1 h]
 ·simp at h
theorem tG (x y:Pr):(mr x y).length<=1:=by unfold mr;split<;>simp
theorem jK.left {a b a' b' both:List Pr}{x y:Pr}(h:jK a b (x::a') (y::b') both)(hl:x.2<y.2):jK a b a' (y::b') (both++mr x y):=by
 obtain⟨a1,a2,a3⟩:=bp.1 h.ca;obtain⟨b1,b2,b3⟩:=bp.1 h.cb;refine⟨a3,h.cb,NK h.cn a1 b1 fun r hr n k1 k2 k3 k4=>h.lt r hr n (h.ca.dQ k1 k2) (h.cb.dQ k3 k4),fun n=>?_,fun r hr n k1 k2=>?_,?_⟩
 ·rw[h.same n,et,FC,aN x a' n,aN y b' n];constructor
  ·rintro(k| ⟨k1|k1,k2|k2⟩)
   ·exact Or.inl (Or.inl k)
   ·exact Or.inl (Or.inr (by omega))
   ·have:=h.cb.e8 k2;omega
   ·exact Or.inr ⟨k1,Or.inl k2⟩
   ·exact Or.inr ⟨k1,Or.inr k2⟩
  ·rintro((k|k)| ⟨k1,k2⟩)
   ·exact Or.inl k
   ·exact Or.inr ⟨Or.inl (by omega),Or.inl (by omega)⟩
   ·exact Or.inr ⟨Or.inr k1,k2⟩
 ·rcases List.mem_append.1 hr with hr|hr
  ·exact h.lt r hr n ((aN x a' n).2 (Or.inr k1)) k2
  ·have e:=FD hr;have:=h.ca.e8 k1;omega
 ·have:=h.len;have:=tG x y;simp only[List.length_append,List.length_cons]at*;omega
theorem jK.right {a b a' b' both:List Pr}{x y:Pr}(h:jK a b (x::a') (y::b') both)(hl:¬x.2<y.2):jK a b (x::a') b' (both++mr x y):=by
 obtain⟨a1,a2,a3⟩:=bp.1 h.ca;obtain⟨b1,b2,b3⟩:=bp.1 h.cb;refine⟨h.ca,b3,NK h.cn a1 b1 fun r hr n k1 k2 k3 k4=>h.lt r hr n (h.ca.dQ k1 k2) (h.cb.dQ k3 k4),fun n=>?_,fun r hr n k1 k2=>?_,?_⟩
 ·rw[h.same n,et,FC,aN x a' n,aN y b' n];constructor
  ·rintro(k| ⟨k1|k1,k2|k2⟩)
   ·exact Or.inl (Or.inl k)
   ·exact Or.inl (Or.inr (by omega))
   ·exact Or.inr ⟨Or.inl k1,k2⟩
   ·have:=h.ca.e8 k1;omega
   ·exact Or.inr ⟨Or.inr k1,k2⟩
  ·rintro((k|k)| ⟨k1,k2⟩)
   ·exact Or.inl k
   ·exact Or.inr ⟨Or.inl (by omega),Or.inl (by omega)⟩
   ·exact Or.inr ⟨k1,Or.inr k2⟩
 ·rcases List.mem_append.1 hr with hr|hr
  ·exact h.lt r hr n k1 ((aN y b' n).2 (Or.inr k2))
  ·have e:=FD hr;have:=h.cb.e8 k2;omega
 ·have:=h.len;have:=tG x y;simp only[List.length_append,List.length_cons]at*;omega
theorem jK.fin {a b a' b' both:List Pr}(h:jK a b a' b' both)(he:a'=[]∨b'=[]):both=tE a b∧both.length<=a.length+b.length:=by
 refine⟨Fy h.cn fun n=>?_,by have:=h.len;omega⟩;rw[h.same n];constructor
 ·exact Or.inl
 ·rintro(k| ⟨k1,k2⟩)
  ·exact k
  ·rcases he with rfl|rfl
   ·exact absurd k1 (dm n)
   ·exact absurd k2 (dm n)
theorem Ps (a b:List Pr):tE (nY a) (nY b)=tE a b:=Fy (mV _ _) fun n=>by rw[mW,kO,kO]
theorem FE (s:List Pr):∀n:Int,s.foldl (fun n r=>n+r.2-r.1+1) n=n+iZ s:=by
 unfold iZ
 induction s with
 |nil=>intro n;simp
 |cons r s ih=>intro n;rw[List.foldl_cons,List.foldl_cons,ih,ih (0+r.2-r.1+1)];omega
theorem oV:iZ []=0:=rfl
theorem lU (r:Pr)(s:List Pr):iZ (r::s)=(r.2-r.1+1)+iZ s:=by
 rw[iZ,List.foldl_cons,FE];omega
theorem tH {α:Type}(p q:α->Bool)(l:List α):l.countP (fun x=>p x||q x)+l.countP (fun x=>p x&&q x)=l.countP p+l.countP q:=by
 induction l with
 |nil=>simp
 |cons x l ih=>
  simp only[List.countP_cons];cases p x<;>cases q x<;>simp at* <;>omega
theorem jL (a b:Nat)(hab:a<=b):∀B:Nat,(List.range B).countP (fun k=>decide (a<=k∧k<=b))=min (b+1) B-min a B
 |0=>by simp
 |B+1=>by
  rw[List.range_succ,List.countP_append,jL a b hab B];by_cases c:a<=B∧B<=b
  ·simp[c];omega
  ·simp[c];omega
theorem qF (B:Nat)(hB:(B:Int)=4294967296):∀s:List Pr,Cn s->iZ s=((List.range B).countP (fun k:Nat=>hasB s (k:Int)):Nat)
 |[],_=>by simp[oV,hasB]
 |r::s,h=>by
  obtain⟨h1,h2,h3⟩:=bp.1 h;have ih:=qF B hB s h3;have e0:=tH (fun k:Nat=>decide (r.1.toNat<=k∧k<=r.2.toNat)) (fun k:Nat=>hasB s (k:Int)) (List.range B);have e1:=jL r.1.toNat r.2.toNat (by omega) B;have e2:(List.range B).countP (fun k:Nat=>decide (r.1.toNat<=k∧k<=r.2.toNat)&&hasB s (k:Int))=0:=by
   rw[List.countP_eq_zero];intro k _ hk;simp only[Bool.and_eq_true,decide_eq_true_eq,eU]at hk;have:=h.e8 hk.2;omega
  have e3:(List.range B).countP (fun k:Nat=>hasB (r::s) (k:Int))=(List.range B).countP (fun k:Nat=>decide (r.1.toNat<=k∧k<=r.2.toNat)||hasB s (k:Int)):=by
   apply List.countP_congr;intro k hk;have hkB:k<B:=List.mem_range.1 hk;simp only[Bool.or_eq_true,decide_eq_true_eq,eU];rw[aN];constructor
   ·rintro(k1|k1)
    ·exact Or.inl (by omega)
    ·exact Or.inr k1
   ·rintro(k1|k1)
    ·exact Or.inl (by omega)
    ·exact Or.inr k1
  rw[lU,ih,e3];omega
theorem Ds (a b:List Pr):iZ (A5 a b)+iZ (tE a b)=iZ (nY a)+iZ (nY b):=by
 obtain⟨B,hB⟩:∃B:Nat,(B:Int)=4294967296:=⟨4294967296,rfl⟩;rw[qF B hB _ (Fx a b),qF B hB _ (mV a b),qF B hB _ (jH a),qF B hB _ (jH b)];have e:=tH (fun k:Nat=>hasB a (k:Int)) (fun k:Nat=>hasB b (k:Int)) (List.range B);have c1:(fun k:Nat=>hasB (A5 a b) (k:Int))=fun k:Nat=>hasB a (k:Int)||hasB b (k:Int):=by
  funext k;exact oU (by rw[uF,Bool.or_eq_true,eU,eU])
 have c2:(fun k:Nat=>hasB (tE a b) (k:Int))=fun k:Nat=>hasB a (k:Int)&&hasB b (k:Int):=by
  funext k;exact oU (by rw[mW,Bool.and_eq_true,eU,eU])
 have c3:(fun k:Nat=>hasB (nY a) (k:Int))=fun k:Nat=>hasB a (k:Int):=by
  funext k;exact oU (by rw[kO,eU])
 have c4:(fun k:Nat=>hasB (nY b) (k:Int))=fun k:Nat=>hasB b (k:Int):=by
  funext k;exact oU (by rw[kO,eU])
 rw[c1,c2,c3,c4];omega
def Pt:List Pr->Int
 |[]=>0
 |r::_=>r.1
def Pu (s:List Pr):Bool:=!s.isEmpty
def fV:List Pr->List Pr
 |[]=>[]
 |r::l=>if r.1<r.2 then(r.1+1,r.2)::l else l
theorem fK (r:Pr)(l:List Pr):fV (r::l)=if r.1<r.2 then(r.1+1,r.2)::l else l:=rfl
theorem wT {r:Pr}{l:List Pr}(h:Cn (r::l)):Pp (r::l) [(r.1,r.1)]=fV (r::l)∧Cn (fV (r::l))∧iZ (fV (r::l))=iZ (r::l)-1∧(fV (r::l)).length<=(r::l).length∧∀n,cU (fV (r::l)) n↔cU (r::l) n∧r.1<n:=by
 obtain⟨h1,h2,h3⟩:=bp.1 h;have hc:Cn (fV (r::l)):=by
  rw[fK];split
  ·exact bp.2 ⟨by simp only;omega,h2,h3⟩
  ·exact h3
 have hi:∀n,cU (fV (r::l)) n↔cU (r::l) n∧r.1<n:=fun n=>by
  rw[fK];split
  ·rw[aN,aN];simp only;constructor
   ·rintro(k|k)
    ·exact⟨Or.inl (by omega),by omega⟩
    ·have:=h.e8 k;exact⟨Or.inr k,by omega⟩
   ·rintro⟨k|k,k2⟩
    ·exact Or.inl (by omega)
    ·exact Or.inr k
  ·rw[aN];constructor
   ·intro k;have:=h.e8 k;exact⟨Or.inr k,by omega⟩
   ·rintro⟨k|k,k2⟩
    ·omega
    ·exact k
 refine⟨(Pq hc fun n=>?_).symm,hc,?_,?_,hi⟩
 ·rw[hi n,eK];constructor
  ·rintro⟨k1,k2⟩;exact⟨k1,by simp only;omega⟩
  ·rintro⟨k1,k2⟩;have:=h.uC k1;have:=k1.1;have:=k1.2.1;simp only at k2;exact⟨k1,by omega⟩
 ·rw[fK];split
  ·rw[lU,lU];simp only;omega
  ·rw[lU];omega
 ·rw[fK];split<;>simp
end
section
def ax (x:Pr):List Value:=[.int .i64 x.1,.int .i64 x.2]
def GR (w w':World):Prop:=∃q os',w'=grow (w.drewN q) os'
theorem GR.refl (w:World):GR w w:=⟨0,#[],by rw[grow_empty];rfl⟩
theorem GR.drew {w w':World}(h:GR w w'):GR w w'.drew:=by
 obtain⟨q,os,rfl⟩:=h;exact⟨q+1,os,rfl⟩
theorem GR.alloc {w w':World}(h:GR w w')(o:Obj):GR w (w'.alloc o):=by
 obtain⟨q,os,rfl⟩:=h;exact⟨q,os++#[o],by rw[alloc_eq_grow,grow_grow]⟩
theorem GR.trans {u v w:World}(h:GR u v)(k:GR v w):GR u w:=by
 obtain⟨q,os,rfl⟩:=h;obtain⟨p,os',rfl⟩:=k;exact⟨q+p,os++os',by show grow (grow ((u.drewN q).drewN p) os) os'=_;rw[grow_grow,World.drewN_drewN]⟩
theorem GR.below {w w':World}(h:GR w w'):Below w.heap.size w w':=by
 obtain⟨q,os,rfl⟩:=h;exact⟨rfl,rfl,rfl,by rw[size_grow];exact Nat.le_add_right _ _,fun k hk=>heap_grow_old _ _ (by simpa using hk)⟩
section
variable {α:Type}[Inhabited α]
def cq (enc:α->List Value)(k:Nat)(w:World)(b off:Nat)(l:List α):Prop:=∀t,t<l.length*k->w.cell? ⟨b,off+t,none⟩=some (flatK enc k l.toArray)[t]!
def Row (enc:α->List Value)(k:Nat)(w:World)(v:Value)(l:List α):Prop:=
 ∃ao cap,v=.slice ao l.length cap∧l.length<=cap∧(ao=none->cap=0)∧(l≠[]->∃b off,ao=some ⟨b,off,none⟩∧b<w.heap.size∧cq enc k w b off l)
def Own (enc:α->List Value)(k base:Nat)(w:World)(v:Value)(l:List α):Prop:=
 ∃ao cap,v=.slice ao l.length cap∧l.length<=cap∧(ao=none->cap=0)∧(l≠[]->∃b off,ao=some ⟨b,off,none⟩∧base<=b∧b<w.heap.size∧HoldsK enc k w b off l.toArray)
variable {enc:α->List Value}{k base:Nat}{w w':World}{v:Value}{l:List α}
theorem gP {b off:Nat}(h:HoldsK enc k w b off l.toArray):cq enc k w b off l:=fun t ht=>(h t (by simpa using ht)).1
theorem Own.row (h:Own enc k base w v l):Row enc k w v l:=by
 obtain⟨ao,cap,e,h1,h2,h3⟩:=h;refine⟨ao,cap,e,h1,h2,fun hne=>?_⟩;obtain⟨b,off,e2,_,hb,hH⟩:=h3 hne;exact⟨b,off,e2,hb,gP hH⟩
theorem Row.below (h:Row enc k w v l)(hb:Below w.heap.size w w'):Row enc k w' v l:=by
 obtain⟨ao,cap,e,h1,h2,h3⟩:=h;refine⟨ao,cap,e,h1,h2,fun hne=>?_⟩;obtain⟨b,off,e2,hlt,hH⟩:=h3 hne;exact⟨b,off,e2,Nat.lt_of_lt_of_le hlt hb.size,fun t ht=>(hb.cell (p:=⟨b,off+t,none⟩) hlt).trans (hH t ht)⟩
theorem Own.below (h:Own enc k base w v l)(hb:Below w.heap.size w w'):Own enc k base w' v l:=by
 obtain⟨ao,cap,e,h1,h2,h3⟩:=h;refine⟨ao,cap,e,h1,h2,fun hne=>?_⟩;obtain⟨b,off,e2,zg,hlt,hH⟩:=h3 hne;exact⟨b,off,e2,zg,Nat.lt_of_lt_of_le hlt hb.size,fun t ht=>⟨(hb.cell (p:=⟨b,off+t,none⟩) hlt).trans (hH t ht).1,(hb.frozen (p:=⟨b,off+t,none⟩) hlt).trans (hH t ht).2⟩⟩
theorem Own.mono {base':Nat}(h:Own enc k base w v l)(hb:base'<=base):Own enc k base' w v l:=by
 obtain⟨ao,cap,e,h1,h2,h3⟩:=h;refine⟨ao,cap,e,h1,h2,fun hne=>?_⟩;obtain⟨b,off,e2,zg,r⟩:=h3 hne;exact⟨b,off,e2,Nat.le_trans hb zg,r⟩
theorem Own.nil:Own enc k base w (.slice none 0 0) ([]:List α):=⟨none,0,rfl,Nat.le_refl _,fun _=>rfl,fun h=>absurd rfl h⟩
theorem ij {e:TypeId}{g n:Nat}{cur:Array Value}(hb:w.heap[g]? =some (.cells cur e (0,0)))(hn:l.length=n)(hs:n*k<=cur.size)(ht:cur.toList.take (n*k)=(flatK enc k l.toArray).toList):HoldsK enc k w g 0 l.toArray:=by
 intro t Pv;have ht':t<n*k:=by rw[<-hn];simpa using Pv
 refine⟨?_,by simp[World.frozen?,hb]⟩;have h1:(cur.toList.take (n*k))[t]? =(flatK enc k l.toArray).toList[t]? :=by rw[ht]
 rw[List.getElem?_take_of_lt ht',List.getElem?_eq_getElem (by simpa using(by omega:t<cur.size)),List.getElem?_eq_getElem (by rw[Array.length_toList];exact Pv)]at h1;simp only[World.cell?,hb,Nat.zero_add];rw[getElem!_pos _ t Pv];have h2:=Option.some.inj h1;simp only[Array.getElem_toList]at h2;rw[Array.getElem?_eq_getElem (by omega),h2];rfl
theorem bX {e:TypeId}{n:Nat}(hk:0<k)(h:w.ownsRow base e k v n (flatK enc k l.toArray).toList):Own enc k base w v l:=by
 obtain⟨h0,h1⟩:=h;have hn:l.length=n:=by
  have:l.length*k=n*k:=by simpa using h0
  exact Nat.eq_of_mul_eq_mul_right hk this
 rcases h1 with⟨rfl,rfl⟩| ⟨g,cap,cur,rfl,hb,hh,hc,hm,hs,ht⟩
 ·obtain rfl:l=[]:=List.length_eq_zero_iff.1 hn;exact Own.nil
 ·subst hn;refine⟨some ⟨g,0,none⟩,cap,rfl,hc,(fun h=>by cases h),fun hne=>⟨g,0,rfl,hb,(Array.getElem?_eq_some_iff.1 hh).1,ij hh rfl (by rw[hs];exact Nat.mul_le_mul_right k hc) ht⟩⟩
theorem cm (h1:∀x,∀v∈enc x,v.oneCell'=true)(hk:∀x,(enc x).length=k):∀u∈(flatK enc k l.toArray).toList,u.oneCell'=true:=fun u hu=>by
 obtain⟨t,ht,rfl⟩:=List.getElem_of_mem hu;have ht':t<l.length*k:=by simpa using ht
 have hk0:0<k:=by
  rcases Nat.eq_zero_or_pos k with h|h
  ·subst h;omega
  ·exact h
 have e:=get_flatK enc k l.toArray t (by simpa using ht');rw[getElem!_pos _ t (by simpa using ht')]at e;rw[Array.getElem_toList,e];refine h1 l.toArray[t/k]! _ ?_;rw[getElem!_pos (enc l.toArray[t/k]!) (t%k) (by rw[hk];exact Nat.mod_lt _ hk0)];exact List.getElem_mem _
end
theorem bY (x:Pr):(ax x).length=2:=rfl
theorem dS (x:Pr):∀v∈ax x,v.oneCell'=true:=fun v hv=>by simp[ax]at hv;rcases hv with rfl|rfl<;>rfl
theorem dT:(Tryz.prog.info? 116).map (fun i=>(i.zero,i.size,i.bytes))=some (some (.agg #[.int .i64 0,.int .i64 0]),2,16):=by kernel_rfl
section
variable {α:Type}[Inhabited α]
theorem iw (d:Array α)(i:Nat):d[i]! =d.toList[i]! :=by
 by_cases h:i<d.size
 ·rw[getElem!_pos d i h,getElem!_pos d.toList i (by simpa using h)];simp
 ·rw[getElem!_neg d i h,getElem!_neg d.toList i (by simpa using h)]
theorem ik {l l':List α}(hs:l.length=l'.length)(h:∀i,i<l.length->l[i]! =l'[i]!):l=l':=by
 apply List.ext_getElem hs;intro i h1 h2;have:=h i h1
 rwa [getElem!_pos l i h1,getElem!_pos l' i h2]at this
theorem qG (l r:List α)(i:Nat)(h:i<l.length):(l++r)[i]! =l[i]! :=by
 rw[getElem!_pos l i h,getElem!_pos (l++r) i (by simp;omega)];exact List.getElem_append_left h
theorem mX (l r:List α)(i:Nat):(l++r)[l.length+i]! =r[i]! :=by
 by_cases h:i<r.length
 ·rw[getElem!_pos r i h,getElem!_pos (l++r) _ (by simp;omega)];simp
 ·rw[getElem!_neg r i h,getElem!_neg (l++r) _ (by simp;omega)]
theorem dD {W:World}{base:Nat}{e:TypeId}{k:Nat}{v:Value}{n:Nat}{xs:List Value}(h:W.ownsRow base e k v n xs)(m:Nat)(os:Array Obj):(grow (W.drewN m) os).ownsRow base e k v n xs:=by
 obtain⟨h1,h2⟩:=h;refine⟨h1,?_⟩;rcases h2 with h2| ⟨g,cap,cur,hv,hg,hh,r⟩
 ·exact Or.inl h2
 ·exact Or.inr ⟨g,cap,cur,hv,hg,by rw[heap_grow_old _ _ (by exact(Array.getElem?_eq_some_iff.1 hh).1)];exact hh,r⟩
theorem bH (enc:α->List Value)(k:Nat)(hk:∀x,(enc x).length=k)(l:List α)(x:α):(flatK enc k (l++[x]).toArray).toList=(flatK enc k l.toArray).toList++enc x:=by
 apply ik
 ·simp[hk,Nat.add_mul]
 ·intro t ht;have ht':t< (l.length+1)*k:=by simpa using ht
  have hk0:0<k:=by
   rcases Nat.eq_zero_or_pos k with h|h
   ·subst h;omega
   ·exact h
  rw[<-iw (flatK enc k (l++[x]).toArray) t,get_flatK _ _ _ _ (by simpa using ht')];by_cases c:t<l.length*k
  ·rw[qG _ _ _ (by simpa using c),<-iw (flatK enc k l.toArray) t,get_flatK _ _ _ _ (by simpa using c)];have:t/k<l.length:=(Nat.div_lt_iff_lt_mul hk0).2 c
   congr 2
   rw[getElem!_pos _ _ (by simp;omega),getElem!_pos _ _ (by simpa using this)];simp[this]
  ·obtain⟨s,rfl⟩:∃s,t=(flatK enc k l.toArray).toList.length+s:=⟨t-l.length*k,by simp;omega⟩;rw[mX];have hs:s<k:=by
    rw[Nat.add_mul,Nat.one_mul]at ht';simp at ht';omega
   have e1:((flatK enc k l.toArray).toList.length+s)/k=l.length:=by
    rw[Array.length_toList,size_flatK,List.size_toArray,Nat.mul_comm,Nat.mul_add_div hk0,Nat.div_eq_of_lt hs,Nat.add_zero]
   have e2:((flatK enc k l.toArray).toList.length+s)%k=s:=by
    rw[Array.length_toList,size_flatK,List.size_toArray,Nat.mul_comm,Nat.mul_add_mod,Nat.mod_eq_of_lt hs]
   rw[e1,e2,getElem!_pos (l++[x]).toArray l.length (by simp)];simp
end
theorem dO {W:World}{base:Nat}{e:TypeId}{k:Nat}{v:Value}{n:Nat}{xs:List Value}(h:W.ownsRow base e k v n xs):v.ownBlock=none∨∃r,v.ownBlock=some r∧base<=r:=by
 rcases h.2 with⟨rfl,_⟩| ⟨g,cap,cur,rfl,hg,_⟩
 ·exact Or.inl rfl
 ·exact Or.inr ⟨g,rfl,hg⟩
theorem mY (a b c d:Int)(w:World):(Op.equalIn 10000 116 (.agg #[.int .i64 a,.int .i64 b]) (.agg #[.int .i64 c,.int .i64 d])).run Tryz.prog w=.ok (decide ((a,b)=(c,d))) w:=by
 have u3:=Tryz.underlying3;have a3:=Tryz.isAgg3;have z3:=Tryz.sizeOf3;have hS:Tryz.prog.underlying 116=some (.struct (Tryz.prog.fieldsOf 116)):=by kernel_rfl
 have hp:Tryz.prog.stoodInHeld 116=false:=by kernel_rfl
 rw[show(10000:Nat)=9999+1 from rfl,run_equalIn_agg w 9999 116 _ _ hS hp];simp only[Program.fieldsOf,Tryz.underlying116];go_simp;by_cases h1:a=c<;>by_cases h2:b=d<;>simp[h1,h2]
theorem uH (x y:Pr)(w:World):Sem.run Tryz.prog (binOp .neq 116 (.agg (ax x).toArray) (.agg (ax y).toArray)) w=.ok (.bool (!decide (x=y))) w:=by
 obtain⟨a,b⟩:=x;obtain⟨c,d⟩:=y;simp only[ax];rw[run_neq_struct,mY];rfl
theorem zh (op:BinOp)(a b:Operand)(x y:Pr)(w:World):Sem.run Tryz.prog (eqGuard op 116 a b (.agg (ax x).toArray) (.agg (ax y).toArray)) w=.ok () w:=
 GuardAt.agg (P:=Tryz.prog) (T:=116) (fun x:Pr=>(ax x).toArray) (by kernel_rfl) op a b x y w
theorem dw {w wr:World}{ao:Option Addr}{l:List Pr}(h3:l≠[]->∃b off,ao=some ⟨b,off,none⟩∧b<w.heap.size∧cq ax 2 w b off l)(i:Nat)(hi:i<l.length)(hb:Below w.heap.size w wr):
  ∃b off,ao=some ⟨b,off,none⟩∧b<w.heap.size∧wr.cell? ⟨b,off+i*2,none⟩=some (.int .i64 l[i]!.1)∧wr.cell? ⟨b,off+i*2+1,none⟩=some (.int .i64 l[i]!.2):=by
 obtain⟨b,off,e,hlt,hc⟩:=h3 (by intro h;rw[h]at hi;simp at hi);refine⟨b,off,e,hlt,?_,?_⟩
 ·rw[hb.cell (p:=⟨b,off+i*2,none⟩) hlt,hc (i*2) (by omega),get_flatK _ _ _ _ (by simp;omega),show i*2/2=i by omega,show i*2%2=0 by omega];simp[ax]
 ·rw[Nat.add_assoc,hb.cell (p:=⟨b,off+(i*2+1),none⟩) hlt,hc (i*2+1) (by omega),get_flatK _ _ _ _ (by simp;omega),show(i*2+1)/2=i by omega,show(i*2+1)%2=1 by omega];simp[ax]
theorem FH {x y:Pr}{f:Bool}(h:decide (x=y)=f)(W:World):Sem.run Tryz.prog (binOp .neq 116 (.agg #[.int .i64 x.1,.int .i64 x.2]) (.agg #[.int .i64 y.1,.int .i64 y.2])) W=.ok (.bool !f) W:=by
 have:=uH x y W;rw[h]at this;exact this
theorem SN (x y:Pr)(op:BinOp)(a b:Operand)(W:World):Sem.run Tryz.prog (eqGuard op 116 a b (.agg #[.int .i64 x.1,.int .i64 x.2]) (.agg #[.int .i64 y.1,.int .i64 y.2])) W=.ok () W:=zh op a b x y W
theorem dx {α:Type}[Inhabited α]{l:List α}{i:Nat}(h:i<l.length):l.take (i+1)=l.take i++[l[i]!]:=by
 rw[List.take_add_one,List.getElem?_eq_getElem h,getElem!_pos l i h];rfl
theorem jM {α:Type}[Inhabited α]{l:List α}{i:Nat}(h:i<l.length):l[i]! ∈l:=by
 rw[getElem!_pos l i h];exact List.getElem_mem h
theorem mZ {α:Type}[Inhabited α]{l:List α}{i:Nat}(h:i<l.length):l.drop i=l[i]! ::l.drop (i+1):=by
 rw[List.drop_eq_getElem_cons h,getElem!_pos l i h]
theorem below_grown {B:Nat}{w W:World}(h:Below B w W)(hB:B<=W.heap.size)(n:Nat)(os:Array Obj):Below B w (grow (W.drewN n) os):=h.trans ((GR.below (w:=W) ⟨n,os,rfl⟩).mono hB)
abbrev aW (base:Nat)(W:World)(v:Value)(l:List Pr):Prop:=W.ownsRow base 116 2 v l.length (flatK ax 2 l.toArray).toList
theorem aW.empty (base:Nat)(W:World):aW base W (.slice none 0 0) []:=by unfold aW;simpa[flatK]using World.ownsRow_nil W base 116 2
theorem aW.own {base:Nat}{W:World}{v:Value}{l:List Pr}(h:aW base W v l):Own ax 2 base W v l:=bX (by decide) h
theorem aW.step {base:Nat}{W w1:World}{v v':Value}{l:List Pr}{x:Pr}(hbase:base<=W.heap.size)(h:aW base W v l)(hgrow:W.grownBy w1 v.ownBlock)(hown:w1.ownsRow base 116 2 v' (l.length+1) ((flatK ax 2 l.toArray).toList++ax x)):
  aW base w1 v' (l++[x])∧∀w0,Below base w0 W->Below base w0 w1:=by
 refine⟨?_,fun w0 hb=>hb.grown hgrow hbase fun k hk=>?_⟩
 ·show w1.ownsRow base 116 2 v' (l++[x]).length (flatK ax 2 (l++[x]).toArray).toList;rw[List.length_append,List.length_singleton,bH ax 2 bY];exact hown
 ·rcases dO h with hr| ⟨r,hr,hle⟩
  ·rw[hr]at hk;cases hk
  ·rw[hr]at hk;cases hk;exact hle
theorem FI {ops:Array Oper}{rest:List Oper}{o:Oper}{a:Act}{Q:Exit->Act->World->Prop}{w:World}(hgd:o.guard=.none)(s x:Operand)
  (ho:o.op=.call {callee:=.builtin .append,args:=#[s,x],argTypes:=#[62,62]})(base:Nat)(v:Value)(l:List Pr)(hs:a.eval s=v)(hown:aW base w v l)
  (b off c:Nat)(hx:a.eval x=.slice (some ⟨b,off,.none⟩) 1 c)(y:Pr)(c0:w.cell? ⟨b,off,.none⟩=some (.int .i64 y.1))(c1:w.cell? ⟨b,off+1,.none⟩=some (.int .i64 y.2))(hl:l.length<1000000)(hbase:base<=w.heap.size)
  (h:∀ao n c w',aW base w' (.slice ao n c) (l++[y])->(∀w0,Below base w0 w->Below base w0 w')->wpList Tryz.prog ops Q rest (a.put o.dst (.slice ao n c)) w'):wpList Tryz.prog ops Q (o::rest) a w:=by
 obtain⟨i0,hi,hz0,hz1,hz2⟩:=info_parts dT;refine wpList_append_own w hgd s x 62 ho base 116 i0 _ 2 16 Tryz.underlying62 hi hz0 hz1 hz2 rfl (by decide) v _ _ hs hown ⟨b,off,.none⟩ 1 c (ax y) hx rfl ?_ (dS y) (by unfold maxLen;omega) (by omega) hbase ?_
 ·intro j u hj;simp only[ax]at hj
  match j,hj with
  |0,hj=>simp at hj;subst hj;simpa[Addr.add]using c0
  |1,hj=>simp at hj;subst hj;simpa[Addr.add]using c1
 ·intro v' w' h1 h2 _;obtain⟨s1,s2⟩:=aW.step hbase hown h2 h1;obtain⟨dG,n',c',rfl⟩:∃ao n c,v'=.slice ao n c:=by
   rcases h1.2 with⟨h,_⟩| ⟨g,cap,cur,h,_⟩
   ·exact⟨_,_,_,h⟩
   ·exact⟨_,_,_,h⟩
  exact h _ _ _ _ s1 s2
theorem bB {α:Type}[Inhabited α](enc:α->List Value)(k:Nat)(hk:∀x,(enc x).length=k):∀(m l:List α),(flatK enc k (l++m).toArray).toList=(flatK enc k l.toArray).toList++(flatK enc k m.toArray).toList
 |[],l=>by simp[flatK]
 |x::m,l=>by
  have e1:l++x::m=(l++[x])++m:=by simp
  have e2:(flatK enc k (x::m).toArray).toList=enc x++(flatK enc k m.toArray).toList:=by
   have h:=bB enc k hk m [x];have h2:=bH enc k hk [] x;rw[List.nil_append]at h2;rw[h2]at h;simpa[flatK]using h
  rw[e1,bB enc k hk m (l++[x]),bH enc k hk,e2,List.append_assoc]
theorem qH {ops:Array Oper}{rest:List Oper}{o:Oper}{a:Act}{Q:Exit->Act->World->Prop}{w:World}(hgd:o.guard=.none)(s x:Operand)
    (ho:o.op=.call {callee:=.builtin .append,args:=#[s,x],argTypes:=#[62,62]})(base:Nat)(v:Value)(l:List Pr)(hs:a.eval s=v)(hown:aW base w v l)
    (u:Value)(m:List Pr)(hx:a.eval x=u)(hu:Row ax 2 w u m)(hl:l.length+m.length<1000000)(hbase:base<=w.heap.size)(lm:List Pr)(hlm:l++m=lm)
    (h:∀ao n c w',aW base w' (.slice ao n c) lm->(∀w0,Below base w0 w->Below base w0 w')->wpList Tryz.prog ops Q rest (a.put o.dst (.slice ao n c)) w'):wpList Tryz.prog ops Q (o::rest) a w:=by
  subst hlm;obtain⟨i0,hi,hz0,hz1,hz2⟩:=info_parts dT;obtain⟨ao,cap,rfl,h1,h2,h3⟩:=hu;obtain⟨av,nv,cv,rfl⟩:∃ao n c,v=.slice ao n c:=by
    rcases hown.2 with⟨h,_⟩| ⟨g,cap,cur,h,_⟩
    · exact⟨_,_,_,h⟩
    · exact⟨_,_,_,h⟩
  cases ao with
  | none=>
    have hm:m=[]:=by
      rcases List.eq_nil_or_concat m with e| ⟨m',y,e⟩
      · exact e
      · obtain⟨b,off,e2,_⟩:=h3 (by rw[e];simp);cases e2
    subst hm;rw[h2 rfl]at hx;refine wpList_append_own_none hgd s x 62 ho base 116 i0 2 Tryz.underlying62 hi _ _ _ hs hown hx ?_;exact h _ _ _ _ (by rw[List.append_nil];exact hown) (fun _ hb=>hb)
  | some ad=>
    refine wpList_append_own w hgd s x 62 ho base 116 i0 _ 2 16 Tryz.underlying62 hi hz0 hz1 hz2 rfl (by decide) _ _ _ hs hown ad m.length cap (flatK ax 2 m.toArray).toList hx (by simp) ?_ (cm dS bY) (by unfold maxLen;omega) (by omega) hbase ?_
    · intro j u hj;obtain⟨hj1,hj2⟩:=List.getElem?_eq_some_iff.1 hj;have jv:j<m.length*2:=by simpa using hj1
      obtain⟨b,off,e2,_,hc⟩:=h3 (by intro e;rw[e]at jv;simp at jv);cases e2;rw[Go.WideShapes.add_plain,hc j jv,getElem!_pos _ j (by simpa using jv),<-hj2];simp
    · intro v' w' g1 g2 _;obtain⟨dG,n',c',rfl⟩:∃ao n c,v'=.slice ao n c:=by
        rcases g1.2 with⟨h,_⟩| ⟨g,cap,cur,h,_⟩
        · exact⟨_,_,_,h⟩
        · exact⟨_,_,_,h⟩
      refine h _ _ _ _ ?_ (fun w0 hb=>hb.grown g2 hbase fun k hk=>?_)
      · show w'.ownsRow base 116 2 _ (l++m).length (flatK ax 2 (l++m).toArray).toList;rw[List.length_append,bB ax 2 bY];exact g1
      · rcases dO hown with hr| ⟨r,hr,hle⟩
        · rw[hr]at hk;cases hk
        · rw[hr]at hk;cases hk;exact hle
theorem ownsRow_below {W W':World}{base:Nat}{e:TypeId}{k:Nat}{v:Value}{n:Nat}{xs:List Value}(h:W.ownsRow base e k v n xs)(hb:Below W.heap.size W W'):W'.ownsRow base e k v n xs:=by
 obtain⟨h1,h2⟩:=h;refine⟨h1,?_⟩;rcases h2 with h2| ⟨g,cap,cur,hv,hg,hh,r⟩
 ·exact Or.inl h2
 ·exact Or.inr ⟨g,cap,cur,hv,hg,by rw[hb.block g (Array.getElem?_eq_some_iff.1 hh).1];exact hh,r⟩
def sN (lo:Nat)(w:World)(v:Value)(l:List Pr):Prop:=
 ∃ao cap,v=.slice ao l.length cap∧l.length<=cap∧(ao=none->cap=0)∧(l≠[]->∃b off,ao=some ⟨b,off,none⟩∧b≠lo∧b<w.heap.size∧cq ax 2 w b off l)
def Kept (lo:Nat)(w W:World):Prop:=w.heap.size<=W.heap.size∧∀p:Addr,p.block≠lo->p.block<w.heap.size->W.cell? p=w.cell? p
theorem qI {lo:Nat}{w:World}{v:Value}{x:Pr}{l:List Pr}(h:sN lo w v (x::l)):
  ∃b off cap,v=.slice (some ⟨b,off,none⟩) (l.length+1) cap∧l.length+1<=cap∧b≠lo∧b<w.heap.size∧w.cell? ⟨b,off,none⟩=some (.int .i64 x.1)∧w.cell? ⟨b,off+1,none⟩=some (.int .i64 x.2)∧
   ∀ao,(l≠[]->ao=some ⟨b,off+2,none⟩)->(ao=none->cap-1=0)->sN lo w (.slice ao l.length (cap-1)) l:=by
 obtain⟨ao,cap,rfl,h1,h2,h3⟩:=h;obtain⟨b,off,rfl,hlo,hb,hc⟩:=h3 (by simp);have hlen:(x::l).length=l.length+1:=rfl;have c0:=hc 0 (by rw[hlen];omega);have c1:=hc 1 (by rw[hlen];omega);rw[get_flatK _ _ _ _ (by simp)]at c0;rw[get_flatK _ _ _ _ (by simp;omega)]at c1;refine⟨b,off,cap,rfl,h1,hlo,hb,by simpa[ax]using c0,by simpa[ax]using c1,fun ao ha hn=>⟨ao,cap-1,rfl,by rw[hlen]at h1;omega,hn,fun hne=>⟨b,off+2,ha hne,hlo,hb,fun t ht=>?_⟩⟩⟩;have ct:=hc (t+2) (by rw[hlen];omega);rw[get_flatK _ _ _ _ (by simp;omega)]at ct;rw[get_flatK _ _ _ _ (by simpa using ht),show off+2+t=off+(t+2) by omega,ct];have e1:(t+2)/2=t/2+1:=by omega
 have e2:(t+2)%2=t%2:=by omega
 rw[e1,e2]
 congr 3
 have ht2:t/2<l.length:=by omega
 rw[getElem!_pos _ _ (by simp;omega),getElem!_pos _ _ (by simpa using ht2)];simp
theorem iy {α:Type}[Inhabited α]{enc:α->List Value}{k:Nat}{w:World}{b n:Nat}{T:TypeId}{fr:Nat×Nat}{cs:Array Value}{l:List α}(hb:w.heap[b]? =some (.cells cs T fr))(hcs:cs=flatK enc k l.toArray)(hn:l.length=n):Row enc k w (.slice (some ⟨b,0,none⟩) n n) l:=by
 subst hn;refine⟨_,_,rfl,Nat.le_refl _,(fun h=>by cases h),fun _=>⟨b,0,rfl,(Array.getElem?_eq_some_iff.1 hb).1,fun t ht=>?_⟩⟩;simp only[World.cell?,hb,Nat.zero_add,hcs];have ht':t< (flatK enc k l.toArray).size:=by simpa using ht
 rw[Array.getElem?_eq_getElem ht',getElem!_pos _ t ht'];rfl
end
section
theorem bC {fn:Func}{p:Tmp}{ty:TypeId}(h:fn.results=#[.cell p ty])(tmps:Array Value)(P:Program)(w:World):
  (results fn tmps).run P w=((asAddr (tmps.getD p undef)).run P w).andThen fun a w₁=>(loadVar ty a).run P w₁:=by
 simp only[results,h];simp[Sem.run_bind,Result.andThen]
theorem qJ (x:Pr):#[Value.int .i64 x.1,Value.int .i64 x.2]=flatK ax 2 [x].toArray:=by
 apply Array.ext';have:=bH ax 2 bY [] x;rw[List.nil_append]at this;rw[this];simp[flatK,ax]
theorem FK (x:Pr)(w:World):Calls Tryz.prog 138 #[.agg #[.int .i64 x.1,.int .i64 x.2]] w fun e w'=>e=.returned (.agg #[.int .i64 (cD x).1,.int .i64 (cD x).2])∧GR w w':=by
  go_enter Tryz.func138,Tryz.ntmps138;go_wp2
  (try simp only[Exit.inBlock,Exit.then])
  refine bodyPost_ret (v:=.agg #[.int .i64 (max x.1 0),.int .i64 (min x.2 4294967295)]) ?_ rfl ⟨rfl,?_⟩
  · rw[bC rfl];go_simp
  · exact((GR.refl w).alloc _).alloc _
theorem qK (x y:Pr)(W:World):Calls Tryz.prog 140 #[.agg #[.int .i64 x.1,.int .i64 x.2],.agg #[.int .i64 y.1,.int .i64 y.2]] W fun e w'=>e=.returned (.int .i64 (Lib.compareInt x.1 y.1))∧∃q os',w'=grow (W.drewN q) os':=by
 have hcon:=fun W'=>AnyG.cmp_Compare_int Tryz.OS x.1 y.1 W';change ∀W',Calls Tryz.prog 141 _ _ _ at hcon;generalize Lib.compareInt x.1 y.1=r at hcon⊢;go_enter Tryz.func140,Tryz.ntmps140
 go_wp2_with (go_at_call 141;refine(hcon _).mono ?_;rintro e w' ⟨rfl,rfl⟩)
 go_ret;exact⟨rfl,0,_,by rw[alloc_eq_grow,alloc_eq_grow,grow_grow];rfl⟩
theorem zj (n:Int)(w:World):Calls Tryz.prog 194 #[.int .i64 n] w fun e w'=>∃v,e=.returned v∧Row ax 2 w' v [(n,n)]∧Below w.heap.size w w':=by
 go_enter Tryz.func194,Tryz.ntmps194;go_wp2;go_ret;refine⟨_,rfl,iy (cs:=#[.int .i64 n,.int .i64 n]) (heap_alloc_new _ _) (qJ (n,n)) rfl,?_⟩;exact(Below.refl _ w).alloc (Nat.le_refl _) _
theorem FO (x:Pr)(n:Int)(b:Nat)(W:World)(hb:W.cell? ⟨b,0,none⟩=some (.int .i64 n)):Calls Tryz.prog 197 #[.agg #[.int .i64 x.1,.int .i64 x.2],.pointer (some ⟨b,0,none⟩)] W fun e w'=>e=.returned (.bool (Po n x))∧Below W.heap.size W w':=by
 have hb2:(W.alloc (.cells #[.int .i64 x.1,.int .i64 x.2] 116)).cell? ⟨b,0,none⟩=some (.int .i64 n):=Lib.cell?_alloc_some _ hb;clear hb;unfold Po;by_cases h1:x.1<=n
 ·by_cases h2:n<=x.2
  ·go_enter Tryz.func197,Tryz.ntmps197;go_wp2;go_ret;exact⟨by simp[h1,h2],(Below.refl _ W).alloc (Nat.le_refl _) _⟩
  ·go_enter Tryz.func197,Tryz.ntmps197;go_wp2;go_ret;exact⟨by simp[h2],(Below.refl _ W).alloc (Nat.le_refl _) _⟩
 ·go_enter Tryz.func197,Tryz.ntmps197;go_wp2;go_ret;exact⟨by rw[decide_eq_false (by omega:¬x.1<=n)];simp,(Below.refl _ W).alloc (Nat.le_refl _) _⟩
theorem wU (ao:Option Addr)(cap:Nat)(f:Value)(w:World):Calls Tryz.prog 232 #[.slice ao 0 cap,f] w fun e w'=>e=.returned (.int .i64 (-1))∧w'=w:=by
 go_enter Tryz.func232,Tryz.ntmps232;go_wp2;refine wp_loop_rounds 1 ?_;rw[rounds_succ];go_wp2;go_ret;exact⟨rfl,rfl⟩
theorem qL (ao:Option Addr)(cap:Nat)(f:Value)(w:World):Calls Tryz.prog 196 #[.slice ao 0 cap,f] w fun e w'=>e=.returned (.bool false)∧w'=w:=by
 have C:Hid _:=wU ao cap f w;go_enter Tryz.func196,Tryz.ntmps196
 go_wp2_with (go_at_call 232;refine Calls.mono C.out ?_;rintro e w' ⟨rfl,rfl⟩)
 go_ret;exact⟨rfl,rfl⟩
theorem uI (v:Value)(l:List Pr)(n:Int)(b:Nat)(w:World)(h:Row ax 2 w v l)(hl:l.length<=1000000)(hb:w.cell? ⟨b,0,none⟩=some (.int .i64 n))(hlt:b<w.heap.size):
  Calls Tryz.prog 196 #[v,.func (.func 197) #[] #[.pointer (some ⟨b,0,none⟩)]] w fun e w'=>e=.returned (.bool (l.any (Po n)))∧Below w.heap.size w w':=by
 obtain⟨ao,cap,rfl,h1,h2,h3⟩:=h;by_cases hne:l=[]
 ·subst hne;refine(qL ao cap _ w).mono ?_;rintro e w' ⟨rfl,rfl⟩;exact⟨rfl,Below.refl _ _⟩
 ·obtain⟨b',off,rfl,hb',hc⟩:=h3 hne;have C:=AnyQ.slices_ContainsFunc Tryz.wC 2 Tryz.isAgg116 Tryz.sizeOf116 ax bY (Po n) 197 #[.pointer (some ⟨b,0,none⟩)] (enters_of Tryz.func197 (by kernel_rfl) rfl) b' off l.length cap l w
   (fun W x hB=>(FO x n b W ((hB.cell (p:=⟨b,0,none⟩) hlt).trans hb)).mono fun e w' ⟨he,hb2⟩=>⟨he,hB.trans (hb2.mono hB.size)⟩) (Nat.le_refl _) (by omega) hb' (fun j hj i u hi=>?_)
  ·rw[List.take_length]at C;exact C
  ·have hi2:i<2:=by
    have:=(List.getElem?_eq_some_iff.1 hi).1
    rwa [bY]at this
   rw[Nat.add_assoc,hc (j*2+i) (by omega),get_flatK _ _ _ _ (by simp;omega)];have e1:(j*2+i)/2=j:=by omega
   have e2:(j*2+i)%2=i:=by omega
   rw[e1,e2];have e3:l.toArray[j]! =l[j]! :=by simp
   rw[e3];have:=List.getElem?_eq_some_iff.1 hi;rw[getElem!_pos _ i this.1,this.2]
theorem Pw (l:List Pr)(n:Int)(h0:0<=n)(h1:n<=4294967295):l.any (Po n)=hasB l n:=by
 unfold hasB;rw[decide_eq_true h0,decide_eq_true h1];rfl
theorem Kq (v:Value)(l:List Pr)(n:Int)(w:World)(h:Row ax 2 w v l)(hl:l.length<=1000000):
  Calls Tryz.prog 161 #[v,.int .i64 n] w fun e w'=>e=.returned (.bool (hasB l n))∧Below w.heap.size w w':=by
 have B:Hid (Below w.heap.size w (w.alloc (.cells #[.int .i64 n] 3))):=(Below.refl _ w).alloc (Nat.le_refl _) _;have C:Hid _:=uI v l n w.heap.size (w.alloc (.cells #[.int .i64 n] 3)) (h.below B.out) hl (by simp) (by simp);by_cases h0:0<=n
 ·by_cases h1:n<=4294967295
  ·rw[Pw l n h0 h1]at C;obtain⟨f,hf⟩:∃f,hasB l n=f:=⟨_,rfl⟩;rw[hf]at C⊢;have hz:(w.alloc (.cells #[.int .i64 n] 3)).heap.size=w.heap.size+1:=by simp
   clear h hf;go_enter Tryz.func161,Tryz.ntmps161
   go_wp2_with (go_at_call 196;refine Calls.mono C.out ?_;rintro e w' ⟨rfl,hb⟩)
   all_goals
    go_ret;exact⟨rfl,B.out.trans (hb.mono (by omega))⟩
  ·have e:hasB l n=false:=iX fun k=>h1 k.2.1;rw[e];clear h C e;go_enter Tryz.func161,Tryz.ntmps161;go_wp2;go_ret;exact⟨rfl,B.out⟩
 ·have e:hasB l n=false:=iX fun k=>h0 k.1;rw[e];clear h C e;go_enter Tryz.func161,Tryz.ntmps161;go_wp2;go_ret;exact⟨rfl,B.out⟩
end
section
section
variable {w w':World}{q i k:Nat}{cs:Array Value}{t:TypeId}
def Cl (w:World)(q:Nat)(cs:Array Value)(t:TypeId):Prop:=w.heap[q]? =some (.cells cs t (0,0))
theorem Cl.lt (h:Cl w q cs t):q<w.heap.size:=(Array.getElem?_eq_some_iff.1 h).1
theorem Cl.cell (h:Cl w q cs t)(i:Nat):w.cell? ⟨q,i,none⟩=cs[i]? :=by unfold Cl at h;simp[World.cell?,h]
theorem Cl.frozen (h:Cl w q cs t)(i:Nat):w.frozen? ⟨q,i,none⟩=false:=by unfold Cl at h;simp[World.frozen?,h]
theorem Cl.set (h:Cl w q cs t)(i:Nat)(v:Value):Cl (w.setCell ⟨q,i,none⟩ v) q (cs.setIfInBounds i v) t:=by
 unfold Cl at h⊢;simp[World.setCell,Array.getElem?_modify,h]
theorem Cl.new (w:World)(cs:Array Value)(t:TypeId):Cl (w.alloc (.cells cs t)) w.heap.size cs t:=by
 show(w.heap.push _)[w.heap.size]? =_;simp
theorem Cl.below {B:Nat}(h:Cl w q cs t)(b:Below B w w')(hq:q<B):Cl w' q cs t:=(b.block q hq).trans h
theorem Cl.on (h:Cl w q cs t)(b:Below w.heap.size w w'):Cl w' q cs t:=h.below b h.lt
theorem Cl.alloc (h:Cl w q cs t)(o:Obj):Cl (w.alloc o) q cs t:=h.on ((Below.refl _ _).alloc (Nat.le_refl _) _)
theorem Cl.two {a b:Value}(h:Cl w q #[a,b] t):w.cell? ⟨q,0,none⟩=some a∧w.cell? ⟨q,1,none⟩=some b:=⟨h.cell 0,h.cell 1⟩
theorem Cl.set2 {x y:Value}(h:Cl w q #[x,y] t)(a b:Value):Cl ((w.setCell ⟨q,0,none⟩ a).setCell ⟨q,1,none⟩ b) q #[a,b] t:=(h.set 0 a).set 1 b
end
end
section
theorem aW.other {base:Nat}{W:World}{v:Value}{l:List Pr}(h:aW base W v l){j:Nat}(hj:W.heap.size<=j):v.ownBlock≠some j:=by
 rcases h.2 with⟨rfl,_⟩| ⟨g,cap,cur,rfl,hg,hh,_⟩
 ·simp[Value.ownBlock]
 ·have:=(Array.getElem?_eq_some_iff.1 hh).1;simp only[Value.ownBlock,ne_eq,Option.some.injEq];omega
theorem oW {ops:Array Oper}{rest:List Oper}{o:Oper}{a:Act}{Q:Exit->Act->World->Prop}{w:World}(hgd:o.guard=.none)(s x:Operand)
  (ho:o.op=.call {callee:=.builtin .append,args:=#[s,x],argTypes:=#[62,62]})(base:Nat)(v:Value)(l:List Pr)(hs:a.eval s=v)(hown:aW base w v l)
  (b off c:Nat)(hx:a.eval x=.slice (some ⟨b,off,.none⟩) 1 c)(y:Pr)(c0:w.cell? ⟨b,off,.none⟩=some (.int .i64 y.1))(c1:w.cell? ⟨b,off+1,.none⟩=some (.int .i64 y.2))(hl:l.length<1000000)(hbase:base<=w.heap.size)
  (h:∀ao n c w',aW base w' (.slice ao n c) (l++[y])->(∀w0,Below base w0 w->Below base w0 w')->(∀j,j<w.heap.size->v.ownBlock≠some j->w'.heap[j]? =w.heap[j]?)->wpList Tryz.prog ops Q rest (a.put o.dst (.slice ao n c)) w'):wpList Tryz.prog ops Q (o::rest) a w:=by
 obtain⟨i0,hi,hz0,hz1,hz2⟩:=info_parts dT;refine wpList_append_own w hgd s x 62 ho base 116 i0 _ 2 16 Tryz.underlying62 hi hz0 hz1 hz2 rfl (by decide) v _ _ hs hown ⟨b,off,.none⟩ 1 c (ax y) hx rfl ?_ (dS y) (by unfold maxLen;omega) (by omega) hbase ?_
 ·intro j u hj;simp only[ax]at hj
  match j,hj with
  |0,hj=>simp at hj;subst hj;simpa[Addr.add]using c0
  |1,hj=>simp at hj;subst hj;simpa[Addr.add]using c1
 ·intro v' w' h1 h2 _;obtain⟨s1,s2⟩:=aW.step hbase hown h2 h1;obtain⟨dG,n',c',rfl⟩:∃ao n c,v'=.slice ao n c:=by
   rcases h1.2 with⟨h,_⟩| ⟨g,cap,cur,h,_⟩
   ·exact⟨_,_,_,h⟩
   ·exact⟨_,_,_,h⟩
  exact h _ _ _ _ s1 s2 fun j hj hne=>h2.block j hj fun e=>hne e.symm
theorem RQ {z:Int}(h0:-4294967296<=z)(h1:z<=17179869184):wrap64 z=z:=by unfold wrap64;omega
end
section
end
end
end Go.Proofs.YtceoeaemenhbhaaGreatDoor
namespace Go.Proofs.YtceoeaemenhbhaaGreatDoor
section
open Go.RowKit
structure TX where
 free:List Pr
 pages:Nat
 fresh:Fr
 cnt:Nat
def cI (pages:Int)(room:Nat):Nat:=(max 2 (min pages (room:Int))).toNat
def TX.new (fr:List Pr)(pages:Int)(room:Nat):TX:=⟨tE fr [(2,(cI pages room:Int)-1)],cI pages room,fun _=>none,0⟩
def TX.alloc (x:TX)(room:Nat):(Int×Int)×TX:=
 match x.free with
 |r::s=>((r.1,0),⟨fV (r::s),x.pages,gq x.fresh r.1 c0,x.cnt+1⟩)
 |[]=>if room<=x.pages then((0,2),x)else(((x.pages:Int),0),⟨[],x.pages+1,gq x.fresh x.pages c0,x.cnt+1⟩)
def TX.drop (x:TX)(id:Int):TX:=if(x.fresh id).isSome=true then⟨A5 x.free [(id,id)],x.pages,qu x.fresh id,x.cnt⟩else x
def TX.put (x:TX)(id:Int)(kind:UInt8)(s:ByteArray):Int×TX:=
 if(x.fresh id).isSome=true then(if 240<s.size then(50,x)else(0,⟨x.free,x.pages,gq x.fresh id ⟨true,kind,s⟩,x.cnt+1⟩))else(1,x)
structure TX.Ok (x:TX)(room:Nat):Prop where
 cn:Cn x.free
 p2:2<=x.pages
 pr:x.pages<=room
 fr:∀n,cU x.free n->2<=n∧n<x.pages
 fs:∀n,(x.fresh n).isSome=true->2<=n∧n<x.pages
 dj:∀n,cU x.free n->(x.fresh n).isSome=false
theorem FQ {p:Int}:∀(l:List Pr) (f:Int),f<=p->Cn l->(∀n,cU l n->f<=n∧n<p)->(l.length:Int)+f<=p
 |[],f,hf,_,_=>by simpa using hf
 |r::l,f,hf,hc,h=>by
  obtain⟨⟨r0,r1,r2⟩,_,hl⟩:=bp.1 hc;have a1:=h r.1 (hc.dQ (Int.le_refl _) r1);have a2:=h r.2 (hc.dQ r1 (Int.le_refl _));have ih:=FQ l (r.2+1) (by omega) hl (fun n hn=>⟨by have:=hc.e8 hn;omega,(h n ((aN _ _ _).2 (.inr hn))).2⟩);simp only[List.length_cons];omega
theorem TX.Ok.len {x:TX}{room:Nat}(h:x.Ok room):x.free.length<=x.pages:=by
 have:=FQ (p:=x.pages) x.free 2 (by have:=h.p2;omega) h.cn h.fr;omega
theorem zk (pages:Int){room:Nat}(h:2<=room):2<=cI pages room∧cI pages room<=room:=by unfold cI;omega
theorem TX.uz (fr:List Pr)(pages:Int){room:Nat}(h:2<=room):(TX.new fr pages room).Ok room:=by
 obtain⟨h2,h3⟩:=zk pages h;refine⟨mV _ _,h2,h3,fun n hn=>?_,(fun n hn=>by cases hn),fun n hn=>rfl⟩;have:=(mW _ _ n).1 hn;have:=(eK _ _).1 this.2;show _∧n< (cI pages room:Int);simp only at this;omega
theorem dy (g:Fr)(k:Int)(c:C3)(q:Int):(gq g k c q).isSome=(decide (q=k)||(g q).isSome):=by
 unfold gq;by_cases h:q=k<;>simp[h]
theorem nc (g:Fr)(k:Int)(q:Int):(qu g k q).isSome=(!decide (q=k)&&(g q).isSome):=by
 unfold qu;by_cases h:q=k<;>simp[h]
theorem TX.qM {x:TX}{room:Nat}(h:x.Ok room):(x.alloc room).2.Ok room:=by
 obtain⟨fr,p,g,c⟩:=x;unfold TX.alloc;cases fr with
 |cons r s=>
  obtain⟨_,d1,_,_,d2⟩:=wT h.cn;have r1:=h.fr r.1 (h.cn.dQ (Int.le_refl _) (bp.1 h.cn).1.2.1);refine⟨d1,h.p2,h.pr,fun n hn=>h.fr n ((d2 n).1 hn).1,fun n hn=>?_,fun n hn=>?_⟩
  ·rw[dy]at hn;rcases Bool.or_eq_true_iff.1 hn with e|e
   ·rw[of_decide_eq_true e];exact r1
   ·exact h.fs n e
  ·have k:=(d2 n).1 hn;have:=h.dj n k.1;simp only at this;rw[dy,this];simp;omega
 |nil=>
  simp only;split
  ·exact h
  ·rename_i hp
   have h2:=h.p2;simp only at h2;refine⟨Cn.nil,by simp only;omega,by simp only;omega,fun n hn=>absurd hn (dm n),fun n hn=>?_,fun n hn=>absurd hn (dm n)⟩;rw[dy]at hn;simp only;rcases Bool.or_eq_true_iff.1 hn with e|e
   ·rw[of_decide_eq_true e];omega
   ·have:=h.fs n e;simp only at this;omega
theorem TX.A6 {x:TX}{room:Nat}(h:x.Ok room)(id:Int):(x.drop id).Ok room:=by
 unfold TX.drop;split
 ·rename_i hi
  have k:=h.fs id hi;refine⟨Fx _ _,h.p2,h.pr,fun n hn=>?_,fun n hn=>?_,fun n hn=>?_⟩
  ·rcases(uF _ _ n).1 hn with e|e
   ·exact h.fr n e
   ·have:=(eK _ _).1 e;simp only at this;have e2:n=id:=by omega
    rw[e2];exact k
  ·rw[nc]at hn;exact h.fs n (Bool.and_eq_true_iff.1 hn).2
  ·rw[nc];rcases(uF _ _ n).1 hn with e|e
   ·rw[h.dj n e];simp
   ·have:=(eK _ _).1 e;simp only at this;have e2:n=id:=by omega
    simp[e2]
 ·exact h
theorem TX.zl {x:TX}{room:Nat}(h:x.Ok room)(id:Int)(kind:UInt8)(s:ByteArray):(x.put id kind s).2.Ok room:=by
 unfold TX.put;split
 ·rename_i hi
  split
  ·exact h
  ·have k:=h.fs id hi;refine⟨h.cn,h.p2,h.pr,h.fr,fun n hn=>?_,fun n hn=>?_⟩
   ·rw[dy]at hn;rcases Bool.or_eq_true_iff.1 hn with e|e
    ·rw[of_decide_eq_true e];exact k
    ·exact h.fs n e
   ·rw[dy,h.dj n hn];have:n≠id:=fun e=>by
     have:=h.dj n hn;rw[e,hi]at this;cases this
    simp[this]
 ·exact h
end
section
open Go.RowKit
def Kr (r:(ByteArray×Int)×Dk):(ByteArray×Int)×Dk:=((r.1.1,if r.1.2=40 then 3 else r.1.2),r.2)
def TX.get (x:TX)(d:Dk)(id:Int)(kind:UInt8):(ByteArray×Int)×Dk:=
 match x.fresh id with
 |some c=>if c.there=true∧c.kind=kind then((c.body,0),d)else((ByteArray.empty,3),d)
 |none=>if(x.pages:Int)<=id∨hasB x.free id=true then((ByteArray.empty,3),d)else Kr (d.rd id kind)
end
end Go.Proofs.YtceoeaemenhbhaaGreatDoor
