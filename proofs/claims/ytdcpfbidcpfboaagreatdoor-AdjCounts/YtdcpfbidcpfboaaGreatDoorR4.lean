/- Walks of the package cowtree and of what it stands on: lemmas, made short. -/
import Derived.Sort.Statements
import Derived.Lib.Small
import Derived.Shelf.SlSortCmp.KitK
import Derived.Shelf.SlSortCmp.QuietGrown
import Derived.Lib.SliceRun
import Derived.Laws.AppendOwnNone
import Derived.WalkKit
import Derived.WalkSpells
import Derived.WalkLawsBesides
import Derived.Deep.RegionHeld3
import Derived.Test.YtdcpfbidcpfboaaGreatDoorProg
import Derived.Test.YtdcpfbidcpfboaaGreatDoorR1
import Derived.BigQuiet
import Derived.Deep.DeepCutAuto
import Derived.Test.YtdcpfbidcpfboaaGreatDoorR3
import Derived.Test.YtdcpfbidcpfboaaGreatDoorR2
set_option maxHeartbeats 16000000
set_option maxRecDepth 100000
set_option linter.unusedVariables false
set_option linter.unusedSimpArgs false
namespace Go.Proofs.YtdcpfbidcpfboaaGreatDoor
open Go.Shelf Go.RowKit Go.Lib Go.Sort
section
section
abbrev Pr:=Int×Int
def cX (l:List Pr)(n:Int):Prop:=0<=n∧n<=4294967295∧∃r∈l,r.1<=n∧n<=r.2
def Qp (n:Int)(r:Pr):Bool:=decide (r.1<=n)&&decide (n<=r.2)
def hasB (l:List Pr)(n:Int):Bool:=(decide (0<=n)&&decide (n<=4294967295))&&l.any (Qp n)
theorem fj (l:List Pr)(n:Int):hasB l n=true↔cX l n:=by
 unfold hasB cX Qp;simp only[Bool.and_eq_true,decide_eq_true_eq,List.any_eq_true];constructor
 ·rintro⟨⟨h1,h2⟩,h3⟩;exact⟨h1,h2,h3⟩
 ·rintro⟨h1,h2,h3⟩;exact⟨⟨h1,h2⟩,h3⟩
theorem GZ {l:List Pr}{n:Int}(h:cX l n):hasB l n=true:=(fj l n).2 h
theorem jv {l:List Pr}{n:Int}(h:¬cX l n):hasB l n=false:=by
 cases e:hasB l n with
 |false=>rfl
 |true=>exact absurd ((fj l n).1 e) h
theorem p8 {l:List Pr}{n:Int}{b:Bool}(h:cX l n↔b=true):hasB l n=b:=by
 cases b with
 |true=>exact GZ (h.2 rfl)
 |false=>exact jv fun k=>by have:=h.1 k;cases this
def Cn (l:List Pr):Prop:=(∀r∈l,0<=r.1∧r.1<=r.2∧r.2<=4294967295)∧l.Pairwise fun r s=>r.2+1<s.1
theorem Cn.nil:Cn []:=⟨fun _ h=>by simp at h,List.Pairwise.nil⟩
theorem bD {r:Pr}{l:List Pr}:Cn (r::l)↔(0<=r.1∧r.1<=r.2∧r.2<=4294967295)∧(∀s∈l,r.2+1<s.1)∧Cn l:=by
 unfold Cn;rw[List.pairwise_cons];constructor
 ·rintro⟨h1,h2,h3⟩;exact⟨h1 r (by simp),h2,fun s hs=>h1 s (by simp[hs]),h3⟩
 ·rintro⟨h1,h2,h3,h4⟩;refine⟨fun s hs=>?_,h2,h4⟩;rcases List.mem_cons.1 hs with rfl|hs
  ·exact h1
  ·exact h3 s hs
theorem kF {r:Pr}{l:List Pr}:Cn (l++[r])↔Cn l∧(∀s∈l,s.2+1<r.1)∧(0<=r.1∧r.1<=r.2∧r.2<=4294967295):=by
 unfold Cn;rw[List.pairwise_append];constructor
 ·rintro⟨h1,h2,_,h4⟩;exact⟨⟨fun s hs=>h1 s (by simp[hs]),h2⟩,fun s hs=>h4 s hs r (by simp),h1 r (by simp)⟩
 ·rintro⟨⟨h1,h2⟩,h3,h4⟩;refine⟨fun s hs=>?_,h2,by simp,fun s hs t ht=>?_⟩
  ·rcases List.mem_append.1 hs with hs|hs
   ·exact h1 s hs
   ·rw[List.mem_singleton.1 hs];exact h4
  ·rw[List.mem_singleton.1 ht];exact h3 s hs
theorem dt (n:Int):¬cX [] n:=fun⟨_,_,r,h,_⟩=>by simp at h
theorem aU (r:Pr)(l:List Pr)(n:Int):cX (r::l) n↔(0<=n∧n<=4294967295∧r.1<=n∧n<=r.2)∨cX l n:=by
 unfold cX;constructor
 ·rintro⟨h1,h2,s,hs,h3,h4⟩;rcases List.mem_cons.1 hs with rfl|hs
  ·exact Or.inl ⟨h1,h2,h3,h4⟩
  ·exact Or.inr ⟨h1,h2,s,hs,h3,h4⟩
 ·rintro(⟨h1,h2,h3,h4⟩| ⟨h1,h2,s,hs,h3,h4⟩)
  ·exact⟨h1,h2,r,by simp,h3,h4⟩
  ·exact⟨h1,h2,s,by simp[hs],h3,h4⟩
theorem eR (l m:List Pr)(n:Int):cX (l++m) n↔cX l n∨cX m n:=by
 induction l with
 |nil=>simp[dt]
 |cons r l ih=>rw[List.cons_append,aU,aU,ih];exact or_assoc.symm
theorem eY (r:Pr)(n:Int):cX [r] n↔0<=n∧n<=4294967295∧r.1<=n∧n<=r.2:=by
 rw[aU];simp[dt]
theorem Cn.ft {r:Pr}{l:List Pr}(h:Cn (r::l)){n:Int}(hn:cX l n):r.2+1<n:=by
 obtain⟨_,h2,_⟩:=bD.1 h;obtain⟨_,_,s,hs,h3,_⟩:=hn;have:=h2 s hs;omega
theorem Cn.vW {r:Pr}{l:List Pr}(h:Cn (r::l)){n:Int}(hn:cX (r::l) n):r.1<=n:=by
 obtain⟨h1,_,_⟩:=bD.1 h;rcases(aU r l n).1 hn with h2|h2
 ·omega
 ·have:=h.ft h2;omega
theorem Cn.dV {r:Pr}{l:List Pr}(h:Cn (r::l)){n:Int}(h1:r.1<=n)(h2:n<=r.2):cX (r::l) n:=by
 obtain⟨h3,_,_⟩:=bD.1 h;exact(aU r l n).2 (Or.inl ⟨by omega,by omega,h1,h2⟩)
theorem Cn.Cc {r:Pr}{l:List Pr}(h:Cn (r::l))(n:Int):cX l n↔cX (r::l) n∧r.2<n:=by
 constructor
 ·intro hn;have:=h.ft hn;exact⟨(aU r l n).2 (Or.inr hn),by omega⟩
 ·rintro⟨h1,h2⟩;rcases(aU r l n).1 h1 with h3|h3
  ·omega
  ·exact h3
theorem rW:∀(l m:List Pr),Cn l->Cn m->(∀n,cX l n↔cX m n)->l=m
 |[],[],_,_,_=>rfl
 |[],s::m,_,hm,h=>by
  obtain⟨h1,_,_⟩:=bD.1 hm;exact absurd ((h s.1).2 (hm.dV (Int.le_refl _) (by omega))) (dt _)
 |r::l,[],hl,_,h=>by
  obtain⟨h1,_,_⟩:=bD.1 hl;exact absurd ((h r.1).1 (hl.dV (Int.le_refl _) (by omega))) (dt _)
 |r::l,s::m,hl,hm,h=>by
  have hr:=(bD.1 hl).1;have hs:=(bD.1 hm).1;have e1:r.1=s.1:=by
   have a:=hm.vW ((h r.1).1 (hl.dV (Int.le_refl _) (by omega)));have b:=hl.vW ((h s.1).2 (hm.dV (Int.le_refl _) (by omega)));omega
  have e2:r.2=s.2:=by
   rcases Int.lt_trichotomy r.2 s.2 with c|c|c
   ·have a:=(h (r.2+1)).2 (hm.dV (by omega) (by omega));rcases(aU r l _).1 a with a|a
    ·omega
    ·have:=hl.ft a;omega
   ·exact c
   ·have a:=(h (s.2+1)).1 (hl.dV (by omega) (by omega));rcases(aU s m _).1 a with a|a
    ·omega
    ·have:=hm.ft a;omega
  have e:r=s:=by
   obtain⟨a,b⟩:=r;obtain⟨c,d⟩:=s;rw[Prod.mk.injEq];exact⟨e1,e2⟩
  subst e;rw[rW l m (bD.1 hl).2.2 (bD.1 hm).2.2 fun n=>by rw[hl.Cc,hm.Cc,h n]]
def cF (r:Pr):Pr:=(max r.1 0,min r.2 4294967295)
def gF (r:Pr)(done:Bool):List Pr->List Pr
 |[]=>if done then []else [r]
 |y::l=>
  if y.2+1<r.1 then y::gF r done l
  else if r.2+1<y.1 then(if done then y::gF r done l else r::y::gF r true l)
  else gF (min r.1 y.1,max r.2 y.2) done l
def jw (l:List Pr)(x:Pr):List Pr:=if(cF x).1<=(cF x).2 then gF (cF x) false l else l
def oY (l:List Pr):List Pr:=l.foldl jw []
def Ce (a b:List Pr):List Pr:=oY (a++b)
def Uo (out:List Pr)(r:Pr):List Pr:=out.foldl (fun nx y=>jw (jw nx (y.1,min y.2 (r.1-1))) (max y.1 (r.2+1),y.2)) []
def Ep (out:List Pr)(x:Pr):List Pr:=if(cF x).1<=(cF x).2 then Uo out (cF x)else out
def Qq (a b:List Pr):List Pr:=b.foldl Ep (oY a)
def uF (a b:List Pr):List Pr:=Qq a (Qq a b)
def jx (s:List Pr):Int:=s.foldl (fun n r=>n+r.2-r.1+1) 0
theorem lQ:∀(l:List Pr) (r:Pr),r.1<=r.2->Cn l->(∀y∈l,r.2+1<y.1)->gF r true l=l
 |[],_,_,_,_=>rfl
 |y::l,r,hr,hl,h=>by
  have h1:=h y (by simp);obtain⟨h2,_,h4⟩:=bD.1 hl;rw[gF,if_neg (by omega),if_pos h1,if_pos rfl,lQ l r hr h4 fun z hz=>h z (by simp[hz])]
theorem rX:∀(l:List Pr) (r:Pr) (z:Pr),r.1<=r.2->Cn l->z∈gF r false l->r.1<=z.1∨∃y∈l,y.1<=z.1
 |[],r,z,_,_,hz=>by
  simp[gF]at hz;rw[hz];exact Or.inl (Int.le_refl _)
 |y::l,r,z,hr,hl,hz=>by
  obtain⟨h2,h3,h4⟩:=bD.1 hl;rw[gF]at hz;split at hz
  ·rcases List.mem_cons.1 hz with rfl|hz
   ·exact Or.inr ⟨z,by simp,Int.le_refl _⟩
   ·rcases rX l r z hr h4 hz with h| ⟨s,hs,h⟩
    ·exact Or.inl h
    ·exact Or.inr ⟨s,by simp[hs],h⟩
  ·split at hz
   ·rw[if_neg (by simp),lQ l r hr h4 fun s hs=>by have:=h3 s hs;omega]at hz;rcases List.mem_cons.1 hz with rfl|hz
    ·exact Or.inl (Int.le_refl _)
    ·exact Or.inr ⟨z,hz,Int.le_refl _⟩
   ·rcases rX l _ z (by simp only;omega) h4 hz with h| ⟨s,hs,h⟩
    ·simp only at h;rcases Int.le_total r.1 y.1 with c|c
     ·exact Or.inl (by omega)
     ·exact Or.inr ⟨y,by simp,by omega⟩
    ·exact Or.inr ⟨s,by simp[hs],h⟩
theorem rY:∀(l:List Pr) (r:Pr),0<=r.1->r.1<=r.2->r.2<=4294967295->Cn l->Cn (gF r false l)∧∀n,cX (gF r false l) n↔cX (r::l) n
 |[],r,h0,hr,h1,_=>by
  refine⟨?_,fun n=>Iff.rfl⟩;show Cn [r];exact bD.2 ⟨⟨h0,hr,h1⟩,fun _ h=>by simp at h,Cn.nil⟩
 |y::l,r,h0,hr,h1,hl=>by
  obtain⟨h2,h3,h4⟩:=bD.1 hl;rw[gF];split
  ·obtain⟨c1,c2⟩:=rY l r h0 hr h1 h4;refine⟨bD.2 ⟨h2,fun s hs=>?_,c1⟩,fun n=>?_⟩
   ·rcases rX l r s hr h4 hs with h| ⟨t,ht,h⟩
    ·omega
    ·have:=h3 t ht;omega
   ·rw[aU,c2 n,aU,aU,aU];constructor
    ·rintro(h|h|h)
     ·exact Or.inr (Or.inl h)
     ·exact Or.inl h
     ·exact Or.inr (Or.inr h)
    ·rintro(h|h|h)
     ·exact Or.inr (Or.inl h)
     ·exact Or.inl h
     ·exact Or.inr (Or.inr h)
  ·split
   ·rw[if_neg (by simp),lQ l r hr h4 fun s hs=>by have:=h3 s hs;omega];refine⟨bD.2 ⟨⟨h0,hr,h1⟩,fun s hs=>?_,hl⟩,fun n=>Iff.rfl⟩;rcases List.mem_cons.1 hs with rfl|hs
    ·assumption
    ·have:=h3 s hs;omega
   ·obtain⟨c1,c2⟩:=rY l (min r.1 y.1,max r.2 y.2) (by simp only;omega) (by simp only;omega) (by simp only;omega) h4;refine⟨c1,fun n=>?_⟩;rw[c2 n,aU,aU,aU];simp only;constructor
    ·rintro(h|h)
     ·by_cases k:r.1<=n∧n<=r.2
      ·exact Or.inl ⟨h.1,h.2.1,k.1,k.2⟩
      ·exact Or.inr (Or.inl (by omega))
     ·exact Or.inr (Or.inr h)
    ·rintro(h|h|h)
     ·exact Or.inl (by omega)
     ·exact Or.inl (by omega)
     ·exact Or.inr h
theorem fQ:∀(l:List Pr) (r:Pr) (d:Bool),(gF r d l).length<=l.length+(if d then 0 else 1)
 |[],r,d=>by cases d<;>simp[gF]
 |y::l,r,d=>by
  rw[gF];split
  ·have:=fQ l r d;simp only[List.length_cons];omega
  ·split
   ·cases d with
    |true=>have:=fQ l r true;simp at*;omega
    |false=>have:=fQ l r true;simp at*;omega
   ·have:=fQ l (min r.1 y.1,max r.2 y.2) d;simp only[List.length_cons];omega
theorem G4 (x:Pr)(l:List Pr)(n:Int):cX (cF x::l) n↔cX (x::l) n:=by
 rw[aU,aU];simp only[cF];constructor
 ·rintro(h|h)
  ·exact Or.inl (by omega)
  ·exact Or.inr h
 ·rintro(h|h)
  ·exact Or.inl (by omega)
  ·exact Or.inr h
theorem vX (l:List Pr)(x:Pr)(h:Cn l):Cn (jw l x)∧∀n,cX (jw l x) n↔cX (x::l) n:=by
 unfold jw;by_cases c:(cF x).1<=(cF x).2
 ·rw[if_pos c];obtain⟨c1,c2⟩:=rY l (cF x) (by simp only[cF];omega) c (by simp only[cF];omega) h;exact⟨c1,fun n=>by rw[c2 n,G4]⟩
 ·rw[if_neg c];refine⟨h,fun n=>?_⟩;rw[aU];constructor
  ·exact Or.inr
  ·rintro(k|k)
   ·simp only[cF]at c;omega
   ·exact k
theorem jX (l:List Pr)(x:Pr):(jw l x).length<=l.length+1:=by
 unfold jw;split
 ·exact fQ l _ false
 ·omega
theorem iv:∀(l m:List Pr),Cn m->Cn (l.foldl jw m)∧(∀n,cX (l.foldl jw m) n↔cX l n∨cX m n)∧(l.foldl jw m).length<=m.length+l.length
 |[],m,h=>⟨h,fun n=>by simp[dt],by simp⟩
 |x::l,m,h=>by
  obtain⟨c1,c2⟩:=vX m x h;obtain⟨d1,d2,d3⟩:=iv l (jw m x) c1;refine⟨d1,fun n=>?_,?_⟩
  ·rw[List.foldl_cons,d2 n,c2 n,aU,aU];constructor
   ·rintro(k|k|k)
    ·exact Or.inl (Or.inr k)
    ·exact Or.inl (Or.inl k)
    ·exact Or.inr k
   ·rintro((k|k)|k)
    ·exact Or.inr (Or.inl k)
    ·exact Or.inl k
    ·exact Or.inr (Or.inr k)
  ·have:=jX m x;rw[List.foldl_cons,List.length_cons];omega
theorem jY (l:List Pr):Cn (oY l):=(iv l [] Cn.nil).1
theorem lR (l:List Pr)(n:Int):cX (oY l) n↔cX l n:=by
 rw[oY,(iv l [] Cn.nil).2.1 n];simp[dt]
theorem rZ (l:List Pr):(oY l).length<=l.length:=by
 have:=(iv l [] Cn.nil).2.2;rw[oY];simpa using this
theorem G5 {s l:List Pr}(h:Cn s)(k:∀n,cX s n↔cX l n):s=oY l:=rW _ _ h (jY l) fun n=>by rw[k n,lR]
theorem uG {s:List Pr}(h:Cn s):oY s=s:=(G5 h fun _=>Iff.rfl).symm
theorem yl:∀(l m:List Pr) (r:Pr),0<=r.1->r.2<=4294967295->r.1<=r.2->Cn m->(∀y∈l,0<=y.1∧y.1<=y.2∧y.2<=4294967295)->
    Cn (l.foldl (fun nx y=>jw (jw nx (y.1,min y.2 (r.1-1))) (max y.1 (r.2+1),y.2)) m)∧(∀n,cX (l.foldl (fun nx y=>jw (jw nx (y.1,min y.2 (r.1-1))) (max y.1 (r.2+1),y.2)) m) n↔(cX l n∧¬(r.1<=n∧n<=r.2))∨cX m n)∧
    (l.foldl (fun nx y=>jw (jw nx (y.1,min y.2 (r.1-1))) (max y.1 (r.2+1),y.2)) m).length<=m.length+2*l.length
  | [],m,_,_,_,_,hm,_=>⟨hm,fun n=>by simp[dt],by simp⟩
  | y::l,m,r,h0,h1,h2,hm,hy=>by
    obtain⟨c1,c2⟩:=vX m (y.1,min y.2 (r.1-1)) hm;obtain⟨d1,d2⟩:=vX _ (max y.1 (r.2+1),y.2) c1;obtain⟨e1,e2,e3⟩:=yl l _ r h0 h1 h2 d1 fun z hz=>hy z (by simp[hz]);refine⟨e1,fun n=>?_,?_⟩
    · rw[List.foldl_cons,e2 n,d2 n,aU,c2 n,aU,aU];simp only;constructor
      · rintro(⟨k1,k2⟩|k|k|k)
        · exact Or.inl ⟨Or.inr k1,k2⟩
        · exact Or.inl ⟨Or.inl (by omega),by omega⟩
        · exact Or.inl ⟨Or.inl (by omega),by omega⟩
        · exact Or.inr k
      · rintro(⟨k1|k1,k2⟩|k)
        · by_cases c:n<r.1
          · exact Or.inr (Or.inr (Or.inl (by omega)))
          · exact Or.inr (Or.inl (by omega))
        · exact Or.inl ⟨k1,k2⟩
        · exact Or.inr (Or.inr (Or.inr k))
    · have a:=jX m (y.1,min y.2 (r.1-1));have b:=jX (jw m (y.1,min y.2 (r.1-1))) (max y.1 (r.2+1),y.2);rw[List.foldl_cons,List.length_cons];omega
theorem LO (out:List Pr)(x:Pr)(h:Cn out):Cn (Ep out x)∧(∀n,cX (Ep out x) n↔cX out n∧¬cX [x] n):=by
 unfold Ep Uo;by_cases c:(cF x).1<=(cF x).2
 ·rw[if_pos c];obtain⟨c1,c2,_⟩:=yl out [] (cF x) (by simp only[cF];omega) (by simp only[cF];omega) c Cn.nil h.1;refine⟨c1,fun n=>?_⟩;rw[c2 n,eY];constructor
  ·rintro(⟨k1,k2⟩|k)
   ·refine⟨k1,fun k3=>k2 ?_⟩;simp only[cF];omega
   ·exact absurd k (dt _)
  ·rintro⟨k1,k2⟩;refine Or.inl ⟨k1,fun k3=>k2 ?_⟩;simp only[cF]at k3;have:=k1.1;have:=k1.2.1;omega
 ·rw[if_neg c];refine⟨h,fun n=>⟨fun k=>⟨k,fun k2=>?_⟩,fun k=>k.1⟩⟩;rw[eY]at k2;simp only[cF]at c;omega
theorem vY:∀(b m:List Pr),Cn m->Cn (b.foldl Ep m)∧∀n,cX (b.foldl Ep m) n↔cX m n∧¬cX b n
 |[],m,h=>⟨h,fun n=>by simp[dt]⟩
 |x::b,m,h=>by
  obtain⟨c1,c2⟩:=LO m x h;obtain⟨d1,d2⟩:=vY b _ c1;refine⟨d1,fun n=>?_⟩;rw[List.foldl_cons,d2 n,c2 n,eY,aU];constructor
  ·rintro⟨⟨k1,k2⟩,k3⟩;exact⟨k1,fun k=>k.elim k2 k3⟩
  ·rintro⟨k1,k2⟩;exact⟨⟨k1,fun k=>k2 (Or.inl k)⟩,fun k=>k2 (Or.inr k)⟩
theorem G6 (a b:List Pr):Cn (Qq a b):=(vY b _ (jY a)).1
theorem Ar (a b:List Pr)(n:Int):cX (Qq a b) n↔cX a n∧¬cX b n:=by rw[Qq,(vY b _ (jY a)).2 n,lR]
theorem om (a b:List Pr):Cn (uF a b):=G6 _ _
theorem oo (a b:List Pr)(n:Int):cX (uF a b) n↔cX a n∧cX b n:=by
 rw[uF,Ar,Ar];constructor
 ·rintro⟨h1,h2⟩;refine⟨h1,?_⟩;by_cases c:cX b n
  ·exact c
  ·exact absurd ⟨h1,c⟩ h2
 ·rintro⟨h1,h2⟩;exact⟨h1,fun h=>h.2 h2⟩
theorem G7 (a b:List Pr):Cn (Ce a b):=jY _
theorem vZ (a b:List Pr)(n:Int):cX (Ce a b) n↔cX a n∨cX b n:=by rw[Ce,lR,eR]
theorem Qr {s a b:List Pr}(h:Cn s)(k:∀n,cX s n↔cX a n∧¬cX b n):s=Qq a b:=rW _ _ h (G6 a b) fun n=>by rw[k n,Ar]
theorem G8 {s a b:List Pr}(h:Cn s)(k:∀n,cX s n↔cX a n∧cX b n):s=uF a b:=rW _ _ h (om a b) fun n=>by rw[k n,oo]
end
section
def jy (l:List Pr):List Pr:=(l.map cF).filter fun r=>decide (r.1<=r.2)
theorem LP (l:List Pr):∀r∈jy l,0<=r.1∧r.1<=r.2∧r.2<=4294967295:=fun r hr=>by
 obtain⟨h1,h2⟩:=List.mem_filter.1 hr;obtain⟨x,_,rfl⟩:=List.mem_map.1 h1;rw[decide_eq_true_eq]at h2;simp only[cF]at*;omega
theorem LQ (l:List Pr)(n:Int):cX (jy l) n↔cX l n:=by
 constructor
 ·rintro⟨h1,h2,r,hr,h3,h4⟩;obtain⟨hm,_⟩:=List.mem_filter.1 hr;obtain⟨x,hx,rfl⟩:=List.mem_map.1 hm;simp only[cF]at h3 h4;exact⟨h1,h2,x,hx,by omega,by omega⟩
 ·rintro⟨h1,h2,r,hr,h3,h4⟩;refine⟨h1,h2,cF r,List.mem_filter.2 ⟨List.mem_map.2 ⟨r,hr,rfl⟩,?_⟩,?_,?_⟩
  ·rw[decide_eq_true_eq];simp only[cF];omega
  ·simp only[cF];omega
  ·simp only[cF];omega
theorem jZ (l:List Pr):(jy l).length<=l.length:=by
 have:=List.length_filter_le (fun r=>decide (r.1<=r.2)) (l.map cF);rw[List.length_map]at this;exact this
theorem tR (l:List Pr)(x:Pr)(h:(cF x).1<=(cF x).2):jy (l++[x])=jy l++[cF x]:=by
 unfold jy;rw[List.map_append,List.filter_append];simp[h]
theorem wh (l:List Pr)(x:Pr)(h:¬(cF x).1<=(cF x).2):jy (l++[x])=jy l:=by
 unfold jy;rw[List.map_append,List.filter_append];simp[h]
theorem G9 {l m:List Pr}(h:∀x,x∈l↔x∈m)(n:Int):cX l n↔cX m n:=by
 constructor
 ·rintro⟨h1,h2,r,hr,h3⟩;exact⟨h1,h2,r,(h r).1 hr,h3⟩
 ·rintro⟨h1,h2,r,hr,h3⟩;exact⟨h1,h2,r,(h r).2 hr,h3⟩
def OM (t:List Pr):Prop:=(∀r∈t,0<=r.1∧r.1<=r.2∧r.2<=4294967295)∧t.Pairwise fun r s=>r.1<=s.1
structure j4 (done rest set:List Pr):Prop where
 cn:Cn set
 same:∀n,cX set n↔cX done n
 le:∀r∈set,∀x∈rest,r.1<=x.1
 len:set.length<=done.length
theorem j4.start (t:List Pr):j4 [] t []:=⟨Cn.nil,fun _=>Iff.rfl,fun _ h=>by simp at h,Nat.le_refl _⟩
theorem j4.join {done rest pre:List Pr}{a b:Int}{x:Pr}(h:j4 done (x::rest) (pre++[(a,b)]))(ht:OM (x::rest))(h2:x.1<=b+1):j4 (done++[x]) rest (pre++[(a,max b x.2)]):=by
 obtain⟨c1,c2,c3⟩:=kF.1 h.cn;simp only at c2 c3;have hx:=ht.1 x (by simp);have hax:a<=x.1:=h.le (a,b) (by simp) x (by simp);refine⟨kF.2 ⟨c1,c2,by simp only;omega⟩,fun n=>?_,fun r hr y hy=>?_,?_⟩
 ·rw[eR done,<-h.same n,eR,eR,eY,eY,eY];simp only;constructor
  ·rintro(k|k)
   ·exact Or.inl (Or.inl k)
   ·by_cases c:n<=b
    ·exact Or.inl (Or.inr (by omega))
    ·exact Or.inr (by omega)
  ·rintro((k|k)|k)
   ·exact Or.inl k
   ·exact Or.inr (by omega)
   ·exact Or.inr (by omega)
 ·rcases List.mem_append.1 hr with hr|hr
  ·exact h.le r (by simp[hr]) y (by simp[hy])
  ·rw[List.mem_singleton.1 hr];exact h.le (a,b) (by simp) y (by simp[hy])
 ·have:=h.len;simp only[List.length_append,List.length_cons,List.length_nil]at*;omega
theorem j4.add {done rest set:List Pr}{x:Pr}(h:j4 done (x::rest) set)(ht:OM (x::rest))(h2:∀r∈set,r.2+1<x.1):j4 (done++[x]) rest (set++[x]):=by
 refine⟨kF.2 ⟨h.cn,h2,ht.1 x (by simp)⟩,fun n=>?_,fun r hr y hy=>?_,?_⟩
 ·rw[eR,eR,h.same n]
 ·rcases List.mem_append.1 hr with hr|hr
  ·exact h.le r hr y (by simp[hy])
  ·rw[List.mem_singleton.1 hr];exact(List.pairwise_cons.1 ht.2).1 y hy
 ·have:=h.len;simp only[List.length_append,List.length_cons,List.length_nil]at*;omega
theorem Cn.LR {pre:List Pr}{r:Pr}(h:Cn (pre++[r])){m:Int}(hm:r.2+1<m):∀s∈pre++[r],s.2+1<m:=fun s hs=>by
 obtain⟨_,c2,c3⟩:=kF.1 h;rcases List.mem_append.1 hs with hs|hs
 ·have:=c2 s hs;omega
 ·rw[List.mem_singleton.1 hs];exact hm
def mr (x y:Pr):List Pr:=if max x.1 y.1<=min x.2 y.2 then [(max x.1 y.1,min x.2 y.2)]else []
structure j5 (a b a' b' both:List Pr):Prop where
 ca:Cn a'
 cb:Cn b'
 cn:Cn both
 same:∀n,(cX a n∧cX b n)↔cX both n∨(cX a' n∧cX b' n)
 lt:∀r∈both,∀n,cX a' n->cX b' n->r.2+1<n
 len:both.length+a'.length+b'.length<=a.length+b.length
theorem j5.start {a b:List Pr}(ha:Cn a)(hb:Cn b):j5 a b a b []:=⟨ha,hb,Cn.nil,fun n=>by simp[dt],fun _ h=>by simp at h,by simp⟩
theorem Ha (x y:Pr)(n:Int):cX (mr x y) n↔0<=n∧n<=4294967295∧x.1<=n∧n<=x.2∧y.1<=n∧n<=y.2:=by
 unfold mr;split
 ·rw[eY];simp only;omega
 ·constructor
  ·intro h;exact absurd h (dt n)
  ·intro h;omega
theorem OO {both:List Pr}{x y:Pr}(h:Cn both)(hx:0<=x.1∧x.1<=x.2∧x.2<=4294967295)(hy:0<=y.1∧y.1<=y.2∧y.2<=4294967295)(hlt:∀r∈both,∀n,x.1<=n->n<=x.2->y.1<=n->n<=y.2->r.2+1<n):Cn (both++mr x y):=by
 unfold mr;split
 ·refine kF.2 ⟨h,fun s hs=>?_,by simp only;omega⟩;exact hlt s hs (max x.1 y.1) (by omega) (by omega) (by omega) (by omega)
 ·rw[List.append_nil];exact h
theorem Hb {x y r:Pr}(h:r∈mr x y):r.2=min x.2 y.2:=by
 unfold mr at h;split at h
 ·rw[List.mem_singleton.1 h]
 ·simp at h
theorem uH (x y:Pr):(mr x y).length<=1:=by unfold mr;split<;>simp
theorem j5.left {a b a' b' both:List Pr}{x y:Pr}(h:j5 a b (x::a') (y::b') both)(hl:x.2<y.2):j5 a b a' (y::b') (both++mr x y):=by
 obtain⟨a1,a2,a3⟩:=bD.1 h.ca;obtain⟨b1,b2,b3⟩:=bD.1 h.cb;refine⟨a3,h.cb,OO h.cn a1 b1 fun r hr n k1 k2 k3 k4=>h.lt r hr n (h.ca.dV k1 k2) (h.cb.dV k3 k4),fun n=>?_,fun r hr n k1 k2=>?_,?_⟩
 ·rw[h.same n,eR,Ha,aU x a' n,aU y b' n];constructor
  ·rintro(k| ⟨k1|k1,k2|k2⟩)
   ·exact Or.inl (Or.inl k)
   ·exact Or.inl (Or.inr (by omega))
   ·have:=h.cb.ft k2;omega
   ·exact Or.inr ⟨k1,Or.inl k2⟩
   ·exact Or.inr ⟨k1,Or.inr k2⟩
  ·rintro((k|k)| ⟨k1,k2⟩)
   ·exact Or.inl k
   ·exact Or.inr ⟨Or.inl (by omega),Or.inl (by omega)⟩
   ·exact Or.inr ⟨Or.inr k1,k2⟩
 ·rcases List.mem_append.1 hr with hr|hr
  ·exact h.lt r hr n ((aU x a' n).2 (Or.inr k1)) k2
  ·have e:=Hb hr;have:=h.ca.ft k1;omega
 ·have:=h.len;have:=uH x y;simp only[List.length_append,List.length_cons]at*;omega
theorem j5.right {a b a' b' both:List Pr}{x y:Pr}(h:j5 a b (x::a') (y::b') both)(hl:¬x.2<y.2):j5 a b (x::a') b' (both++mr x y):=by
 obtain⟨a1,a2,a3⟩:=bD.1 h.ca;obtain⟨b1,b2,b3⟩:=bD.1 h.cb;refine⟨h.ca,b3,OO h.cn a1 b1 fun r hr n k1 k2 k3 k4=>h.lt r hr n (h.ca.dV k1 k2) (h.cb.dV k3 k4),fun n=>?_,fun r hr n k1 k2=>?_,?_⟩
 ·rw[h.same n,eR,Ha,aU x a' n,aU y b' n];constructor
  ·rintro(k| ⟨k1|k1,k2|k2⟩)
   ·exact Or.inl (Or.inl k)
   ·exact Or.inl (Or.inr (by omega))
   ·exact Or.inr ⟨Or.inl k1,k2⟩
   ·have:=h.ca.ft k1;omega
   ·exact Or.inr ⟨Or.inr k1,k2⟩
  ·rintro((k|k)| ⟨k1,k2⟩)
   ·exact Or.inl k
   ·exact Or.inr ⟨Or.inl (by omega),Or.inl (by omega)⟩
   ·exact Or.inr ⟨k1,Or.inr k2⟩
 ·rcases List.mem_append.1 hr with hr|hr
  ·exact h.lt r hr n k1 ((aU y b' n).2 (Or.inr k2))
  ·have e:=Hb hr;have:=h.cb.ft k2;omega
 ·have:=h.len;have:=uH x y;simp only[List.length_append,List.length_cons]at*;omega
theorem j5.fin {a b a' b' both:List Pr}(h:j5 a b a' b' both)(he:a'=[]∨b'=[]):both=uF a b∧both.length<=a.length+b.length:=by
 refine⟨G8 h.cn fun n=>?_,by have:=h.len;omega⟩;rw[h.same n];constructor
 ·exact Or.inl
 ·rintro(k| ⟨k1,k2⟩)
  ·exact k
  ·rcases he with rfl|rfl
   ·exact absurd k1 (dt n)
   ·exact absurd k2 (dt n)
theorem Qs (a b:List Pr):uF (oY a) (oY b)=uF a b:=G8 (om _ _) fun n=>by rw[oo,lR,lR]
theorem Hc (s:List Pr):∀n:Int,s.foldl (fun n r=>n+r.2-r.1+1) n=n+jx s:=by
 unfold jx
 induction s with
 |nil=>intro n;simp
 |cons r s ih=>intro n;rw[List.foldl_cons,List.foldl_cons,ih,ih (0+r.2-r.1+1)];omega
theorem qg:jx []=0:=rfl
theorem mQ (r:Pr)(s:List Pr):jx (r::s)=(r.2-r.1+1)+jx s:=by
 rw[jx,List.foldl_cons,Hc];omega
theorem uI {α:Type}(p q:α->Bool)(l:List α):l.countP (fun x=>p x||q x)+l.countP (fun x=>p x&&q x)=l.countP p+l.countP q:=by
 induction l with
 |nil=>simp
 |cons x l ih=>
  simp only[List.countP_cons];cases p x<;>cases q x<;>simp at* <;>omega
theorem j6 (a b:Nat)(hab:a<=b):∀B:Nat,(List.range B).countP (fun k=>decide (a<=k∧k<=b))=min (b+1) B-min a B
 |0=>by simp
 |B+1=>by
  rw[List.range_succ,List.countP_append,j6 a b hab B];by_cases c:a<=B∧B<=b
  ·simp[c];omega
  ·simp[c];omega
theorem sg (B:Nat)(hB:(B:Int)=4294967296):∀s:List Pr,Cn s->jx s=((List.range B).countP (fun k:Nat=>hasB s (k:Int)):Nat)
 |[],_=>by simp[qg,hasB]
 |r::s,h=>by
  obtain⟨h1,h2,h3⟩:=bD.1 h;have ih:=sg B hB s h3;have e0:=uI (fun k:Nat=>decide (r.1.toNat<=k∧k<=r.2.toNat)) (fun k:Nat=>hasB s (k:Int)) (List.range B);have e1:=j6 r.1.toNat r.2.toNat (by omega) B;have e2:(List.range B).countP (fun k:Nat=>decide (r.1.toNat<=k∧k<=r.2.toNat)&&hasB s (k:Int))=0:=by
   rw[List.countP_eq_zero];intro k _ hk;simp only[Bool.and_eq_true,decide_eq_true_eq,fj]at hk;have:=h.ft hk.2;omega
  have e3:(List.range B).countP (fun k:Nat=>hasB (r::s) (k:Int))=(List.range B).countP (fun k:Nat=>decide (r.1.toNat<=k∧k<=r.2.toNat)||hasB s (k:Int)):=by
   apply List.countP_congr;intro k hk;have hkB:k<B:=List.mem_range.1 hk;simp only[Bool.or_eq_true,decide_eq_true_eq,fj];rw[aU];constructor
   ·rintro(k1|k1)
    ·exact Or.inl (by omega)
    ·exact Or.inr k1
   ·rintro(k1|k1)
    ·exact Or.inl (by omega)
    ·exact Or.inr k1
  rw[mQ,ih,e3];omega
theorem Es (a b:List Pr):jx (Ce a b)+jx (uF a b)=jx (oY a)+jx (oY b):=by
 obtain⟨B,hB⟩:∃B:Nat,(B:Int)=4294967296:=⟨4294967296,rfl⟩;rw[sg B hB _ (G7 a b),sg B hB _ (om a b),sg B hB _ (jY a),sg B hB _ (jY b)];have e:=uI (fun k:Nat=>hasB a (k:Int)) (fun k:Nat=>hasB b (k:Int)) (List.range B);have c1:(fun k:Nat=>hasB (Ce a b) (k:Int))=fun k:Nat=>hasB a (k:Int)||hasB b (k:Int):=by
  funext k;exact p8 (by rw[vZ,Bool.or_eq_true,fj,fj])
 have c2:(fun k:Nat=>hasB (uF a b) (k:Int))=fun k:Nat=>hasB a (k:Int)&&hasB b (k:Int):=by
  funext k;exact p8 (by rw[oo,Bool.and_eq_true,fj,fj])
 have c3:(fun k:Nat=>hasB (oY a) (k:Int))=fun k:Nat=>hasB a (k:Int):=by
  funext k;exact p8 (by rw[lR,fj])
 have c4:(fun k:Nat=>hasB (oY b) (k:Int))=fun k:Nat=>hasB b (k:Int):=by
  funext k;exact p8 (by rw[lR,fj])
 rw[c1,c2,c3,c4];omega
def Qt:List Pr->Int
 |[]=>0
 |r::_=>r.1
def Qu (s:List Pr):Bool:=!s.isEmpty
def gA:List Pr->List Pr
 |[]=>[]
 |r::l=>if r.1<r.2 then(r.1+1,r.2)::l else l
theorem fY (r:Pr)(l:List Pr):gA (r::l)=if r.1<r.2 then(r.1+1,r.2)::l else l:=rfl
theorem ym {r:Pr}{l:List Pr}(h:Cn (r::l)):Qq (r::l) [(r.1,r.1)]=gA (r::l)∧Cn (gA (r::l))∧jx (gA (r::l))=jx (r::l)-1∧(gA (r::l)).length<=(r::l).length∧∀n,cX (gA (r::l)) n↔cX (r::l) n∧r.1<n:=by
 obtain⟨h1,h2,h3⟩:=bD.1 h;have hc:Cn (gA (r::l)):=by
  rw[fY];split
  ·exact bD.2 ⟨by simp only;omega,h2,h3⟩
  ·exact h3
 have hi:∀n,cX (gA (r::l)) n↔cX (r::l) n∧r.1<n:=fun n=>by
  rw[fY];split
  ·rw[aU,aU];simp only;constructor
   ·rintro(k|k)
    ·exact⟨Or.inl (by omega),by omega⟩
    ·have:=h.ft k;exact⟨Or.inr k,by omega⟩
   ·rintro⟨k|k,k2⟩
    ·exact Or.inl (by omega)
    ·exact Or.inr k
  ·rw[aU];constructor
   ·intro k;have:=h.ft k;exact⟨Or.inr k,by omega⟩
   ·rintro⟨k|k,k2⟩
    ·omega
    ·exact k
 refine⟨(Qr hc fun n=>?_).symm,hc,?_,?_,hi⟩
 ·rw[hi n,eY];constructor
  ·rintro⟨k1,k2⟩;exact⟨k1,by simp only;omega⟩
  ·rintro⟨k1,k2⟩;have:=h.vW k1;have:=k1.1;have:=k1.2.1;simp only at k2;exact⟨k1,by omega⟩
 ·rw[fY];split
  ·rw[mQ,mQ];simp only;omega
  ·rw[mQ];omega
 ·rw[fY];split<;>simp
end
section
def aG (x:Pr):List Value:=[.int .i64 x.1,.int .i64 x.2]
def GR (w w':World):Prop:=∃q os',w'=grow (w.drewN q) os'
theorem GR.refl (w:World):GR w w:=⟨0,#[],by rw[grow_empty];rfl⟩
theorem GR.drew {w w':World}(h:GR w w'):GR w w'.drew:=by
 obtain⟨q,os,rfl⟩:=h;exact⟨q+1,os,rfl⟩
theorem GR.alloc {w w':World}(h:GR w w')(o:Obj):GR w (w'.alloc o):=by
 obtain⟨q,os,rfl⟩:=h;exact⟨q,os++#[o],by rw[alloc_eq_grow,grow_grow]⟩
theorem GR.trans {u v w:World}(h:GR u v)(k:GR v w):GR u w:=by
 obtain⟨q,os,rfl⟩:=h;obtain⟨p,os',rfl⟩:=k;exact⟨q+p,os++os',by show grow (grow ((u.drewN q).drewN p) os) os'=_;rw[grow_grow,World.drewN_drewN]⟩
theorem GR.below {w w':World}(h:GR w w'):Below w.heap.size w w':=by
 obtain⟨q,os,rfl⟩:=h;exact⟨rfl,rfl,rfl,by rw[size_grow];exact Nat.le_add_right _ _,fun k hk=>heap_grow_old _ _ (by simpa using hk)⟩
section
variable {α:Type}[Inhabited α]
def cG (enc:α->List Value)(k:Nat)(w:World)(b off:Nat)(l:List α):Prop:=∀t,t<l.length*k->w.cell? ⟨b,off+t,none⟩=some (flatK enc k l.toArray)[t]!
def Row (enc:α->List Value)(k:Nat)(w:World)(v:Value)(l:List α):Prop:=
 ∃ao cap,v=.slice ao l.length cap∧l.length<=cap∧(ao=none->cap=0)∧(l≠[]->∃b off,ao=some ⟨b,off,none⟩∧b<w.heap.size∧cG enc k w b off l)
def Own (enc:α->List Value)(k base:Nat)(w:World)(v:Value)(l:List α):Prop:=
 ∃ao cap,v=.slice ao l.length cap∧l.length<=cap∧(ao=none->cap=0)∧(l≠[]->∃b off,ao=some ⟨b,off,none⟩∧base<=b∧b<w.heap.size∧HoldsK enc k w b off l.toArray)
variable {enc:α->List Value}{k base:Nat}{w w':World}{v:Value}{l:List α}
theorem ib {b off:Nat}(h:HoldsK enc k w b off l.toArray):cG enc k w b off l:=fun t ht=>(h t (by simpa using ht)).1
theorem Own.row (h:Own enc k base w v l):Row enc k w v l:=by
 obtain⟨ao,cap,e,h1,h2,h3⟩:=h;refine⟨ao,cap,e,h1,h2,fun hne=>?_⟩;obtain⟨b,off,e2,_,hb,hH⟩:=h3 hne;exact⟨b,off,e2,hb,ib hH⟩
theorem Row.below (h:Row enc k w v l)(hb:Below w.heap.size w w'):Row enc k w' v l:=by
 obtain⟨ao,cap,e,h1,h2,h3⟩:=h;refine⟨ao,cap,e,h1,h2,fun hne=>?_⟩;obtain⟨b,off,e2,hlt,hH⟩:=h3 hne;exact⟨b,off,e2,Nat.lt_of_lt_of_le hlt hb.size,fun t ht=>(hb.cell (p:=⟨b,off+t,none⟩) hlt).trans (hH t ht)⟩
theorem Own.below (h:Own enc k base w v l)(hb:Below w.heap.size w w'):Own enc k base w' v l:=by
 obtain⟨ao,cap,e,h1,h2,h3⟩:=h;refine⟨ao,cap,e,h1,h2,fun hne=>?_⟩;obtain⟨b,off,e2,Ae,hlt,hH⟩:=h3 hne;exact⟨b,off,e2,Ae,Nat.lt_of_lt_of_le hlt hb.size,fun t ht=>⟨(hb.cell (p:=⟨b,off+t,none⟩) hlt).trans (hH t ht).1,(hb.frozen (p:=⟨b,off+t,none⟩) hlt).trans (hH t ht).2⟩⟩
theorem Own.mono {base':Nat}(h:Own enc k base w v l)(hb:base'<=base):Own enc k base' w v l:=by
 obtain⟨ao,cap,e,h1,h2,h3⟩:=h;refine⟨ao,cap,e,h1,h2,fun hne=>?_⟩;obtain⟨b,off,e2,Ae,r⟩:=h3 hne;exact⟨b,off,e2,Nat.le_trans hb Ae,r⟩
theorem Own.nil:Own enc k base w (.slice none 0 0) ([]:List α):=⟨none,0,rfl,Nat.le_refl _,fun _=>rfl,fun h=>absurd rfl h⟩
theorem iA {e:TypeId}{g n:Nat}{cur:Array Value}(hb:w.heap[g]? =some (.cells cur e (0,0)))(hn:l.length=n)(hs:n*k<=cur.size)(ht:cur.toList.take (n*k)=(flatK enc k l.toArray).toList):HoldsK enc k w g 0 l.toArray:=by
 intro t Qa;have ht':t<n*k:=by rw[<-hn];simpa using Qa
 refine⟨?_,by simp[World.frozen?,hb]⟩;have h1:(cur.toList.take (n*k))[t]? =(flatK enc k l.toArray).toList[t]? :=by rw[ht]
 rw[List.getElem?_take_of_lt ht',List.getElem?_eq_getElem (by simpa using(by omega:t<cur.size)),List.getElem?_eq_getElem (by rw[Array.length_toList];exact Qa)]at h1;simp only[World.cell?,hb,Nat.zero_add];rw[getElem!_pos _ t Qa];have h2:=Option.some.inj h1;simp only[Array.getElem_toList]at h2;rw[Array.getElem?_eq_getElem (by omega),h2];rfl
theorem cj {e:TypeId}{n:Nat}(hk:0<k)(h:w.ownsRow base e k v n (flatK enc k l.toArray).toList):Own enc k base w v l:=by
 obtain⟨h0,h1⟩:=h;have hn:l.length=n:=by
  have:l.length*k=n*k:=by simpa using h0
  exact Nat.eq_of_mul_eq_mul_right hk this
 rcases h1 with⟨rfl,rfl⟩| ⟨g,cap,cur,rfl,hb,hh,hc,hm,hs,ht⟩
 ·obtain rfl:l=[]:=List.length_eq_zero_iff.1 hn;exact Own.nil
 ·subst hn;refine⟨some ⟨g,0,none⟩,cap,rfl,hc,(fun h=>by cases h),fun hne=>⟨g,0,rfl,hb,(Array.getElem?_eq_some_iff.1 hh).1,iA hh rfl (by rw[hs];exact Nat.mul_le_mul_right k hc) ht⟩⟩
theorem cD (h1:∀x,∀v∈enc x,v.oneCell'=true)(hk:∀x,(enc x).length=k):∀u∈(flatK enc k l.toArray).toList,u.oneCell'=true:=fun u hu=>by
 obtain⟨t,ht,rfl⟩:=List.getElem_of_mem hu;have ht':t<l.length*k:=by simpa using ht
 have hk0:0<k:=by
  rcases Nat.eq_zero_or_pos k with h|h
  ·subst h;omega
  ·exact h
 have e:=get_flatK enc k l.toArray t (by simpa using ht');rw[getElem!_pos _ t (by simpa using ht')]at e;rw[Array.getElem_toList,e];refine h1 l.toArray[t/k]! _ ?_;rw[getElem!_pos (enc l.toArray[t/k]!) (t%k) (by rw[hk];exact Nat.mod_lt _ hk0)];exact List.getElem_mem _
end
theorem cm (x:Pr):(aG x).length=2:=rfl
theorem dX (x:Pr):∀v∈aG x,v.oneCell'=true:=fun v hv=>by simp[aG]at hv;rcases hv with rfl|rfl<;>rfl
theorem dY:(Tryz.prog.info? 123).map (fun i=>(i.zero,i.size,i.bytes))=some (some (.agg #[.int .i64 0,.int .i64 0]),2,16):=by kernel_rfl
section
variable {α:Type}[Inhabited α]
theorem iN (d:Array α)(i:Nat):d[i]! =d.toList[i]! :=by
 by_cases h:i<d.size
 ·rw[getElem!_pos d i h,getElem!_pos d.toList i (by simpa using h)];simp
 ·rw[getElem!_neg d i h,getElem!_neg d.toList i (by simpa using h)]
theorem iB {l l':List α}(hs:l.length=l'.length)(h:∀i,i<l.length->l[i]! =l'[i]!):l=l':=by
 apply List.ext_getElem hs;intro i h1 h2;have:=h i h1
 rwa [getElem!_pos l i h1,getElem!_pos l' i h2]at this
theorem rF (l r:List α)(i:Nat)(h:i<l.length):(l++r)[i]! =l[i]! :=by
 rw[getElem!_pos l i h,getElem!_pos (l++r) i (by simp;omega)];exact List.getElem_append_left h
theorem nT (l r:List α)(i:Nat):(l++r)[l.length+i]! =r[i]! :=by
 by_cases h:i<r.length
 ·rw[getElem!_pos r i h,getElem!_pos (l++r) _ (by simp;omega)];simp
 ·rw[getElem!_neg r i h,getElem!_neg (l++r) _ (by simp;omega)]
theorem dH {W:World}{base:Nat}{e:TypeId}{k:Nat}{v:Value}{n:Nat}{xs:List Value}(h:W.ownsRow base e k v n xs)(m:Nat)(os:Array Obj):(grow (W.drewN m) os).ownsRow base e k v n xs:=by
 obtain⟨h1,h2⟩:=h;refine⟨h1,?_⟩;rcases h2 with h2| ⟨g,cap,cur,hv,hg,hh,r⟩
 ·exact Or.inl h2
 ·exact Or.inr ⟨g,cap,cur,hv,hg,by rw[heap_grow_old _ _ (by exact(Array.getElem?_eq_some_iff.1 hh).1)];exact hh,r⟩
theorem bM (enc:α->List Value)(k:Nat)(hk:∀x,(enc x).length=k)(l:List α)(x:α):(flatK enc k (l++[x]).toArray).toList=(flatK enc k l.toArray).toList++enc x:=by
 apply iB
 ·simp[hk,Nat.add_mul]
 ·intro t ht;have ht':t< (l.length+1)*k:=by simpa using ht
  have hk0:0<k:=by
   rcases Nat.eq_zero_or_pos k with h|h
   ·subst h;omega
   ·exact h
  rw[<-iN (flatK enc k (l++[x]).toArray) t,get_flatK _ _ _ _ (by simpa using ht')];by_cases c:t<l.length*k
  ·rw[rF _ _ _ (by simpa using c),<-iN (flatK enc k l.toArray) t,get_flatK _ _ _ _ (by simpa using c)];have:t/k<l.length:=(Nat.div_lt_iff_lt_mul hk0).2 c
   congr 2
   rw[getElem!_pos _ _ (by simp;omega),getElem!_pos _ _ (by simpa using this)];simp[this]
  ·obtain⟨s,rfl⟩:∃s,t=(flatK enc k l.toArray).toList.length+s:=⟨t-l.length*k,by simp;omega⟩;rw[nT];have hs:s<k:=by
    rw[Nat.add_mul,Nat.one_mul]at ht';simp at ht';omega
   have e1:((flatK enc k l.toArray).toList.length+s)/k=l.length:=by
    rw[Array.length_toList,size_flatK,List.size_toArray,Nat.mul_comm,Nat.mul_add_div hk0,Nat.div_eq_of_lt hs,Nat.add_zero]
   have e2:((flatK enc k l.toArray).toList.length+s)%k=s:=by
    rw[Array.length_toList,size_flatK,List.size_toArray,Nat.mul_comm,Nat.mul_add_mod,Nat.mod_eq_of_lt hs]
   rw[e1,e2,getElem!_pos (l++[x]).toArray l.length (by simp)];simp
end
theorem dQ {W:World}{base:Nat}{e:TypeId}{k:Nat}{v:Value}{n:Nat}{xs:List Value}(h:W.ownsRow base e k v n xs):v.ownBlock=none∨∃r,v.ownBlock=some r∧base<=r:=by
 rcases h.2 with⟨rfl,_⟩| ⟨g,cap,cur,rfl,hg,_⟩
 ·exact Or.inl rfl
 ·exact Or.inr ⟨g,rfl,hg⟩
theorem nU (a b c d:Int)(w:World):(Op.equalIn 10000 123 (.agg #[.int .i64 a,.int .i64 b]) (.agg #[.int .i64 c,.int .i64 d])).run Tryz.prog w=.ok (decide ((a,b)=(c,d))) w:=by
 have u3:=Tryz.underlying3;have a3:=Tryz.isAgg3;have z3:=Tryz.sizeOf3;have hS:Tryz.prog.underlying 123=some (.struct (Tryz.prog.fieldsOf 123)):=by kernel_rfl
 have hp:Tryz.prog.stoodInHeld 123=false:=by kernel_rfl
 rw[show(10000:Nat)=9999+1 from rfl,run_equalIn_agg w 9999 123 _ _ hS hp];simp only[Program.fieldsOf,Tryz.underlying123];go_simp;by_cases h1:a=c<;>by_cases h2:b=d<;>simp[h1,h2]
theorem vI (x y:Pr)(w:World):Sem.run Tryz.prog (binOp .neq 123 (.agg (aG x).toArray) (.agg (aG y).toArray)) w=.ok (.bool (!decide (x=y))) w:=by
 obtain⟨a,b⟩:=x;obtain⟨c,d⟩:=y;simp only[aG];rw[run_neq_struct,nU];rfl
theorem Af (op:BinOp)(a b:Operand)(x y:Pr)(w:World):Sem.run Tryz.prog (eqGuard op 123 a b (.agg (aG x).toArray) (.agg (aG y).toArray)) w=.ok () w:=
 GuardAt.agg (P:=Tryz.prog) (T:=123) (fun x:Pr=>(aG x).toArray) (by kernel_rfl) op a b x y w
theorem ew {w wr:World}{ao:Option Addr}{l:List Pr}(h3:l≠[]->∃b off,ao=some ⟨b,off,none⟩∧b<w.heap.size∧cG aG 2 w b off l)(i:Nat)(hi:i<l.length)(hb:Below w.heap.size w wr):
  ∃b off,ao=some ⟨b,off,none⟩∧b<w.heap.size∧wr.cell? ⟨b,off+i*2,none⟩=some (.int .i64 l[i]!.1)∧wr.cell? ⟨b,off+i*2+1,none⟩=some (.int .i64 l[i]!.2):=by
 obtain⟨b,off,e,hlt,hc⟩:=h3 (by intro h;rw[h]at hi;simp at hi);refine⟨b,off,e,hlt,?_,?_⟩
 ·rw[hb.cell (p:=⟨b,off+i*2,none⟩) hlt,hc (i*2) (by omega),get_flatK _ _ _ _ (by simp;omega),show i*2/2=i by omega,show i*2%2=0 by omega];simp[aG]
 ·rw[Nat.add_assoc,hb.cell (p:=⟨b,off+(i*2+1),none⟩) hlt,hc (i*2+1) (by omega),get_flatK _ _ _ _ (by simp;omega),show(i*2+1)/2=i by omega,show(i*2+1)%2=1 by omega];simp[aG]
theorem Gh {x y:Pr}{f:Bool}(h:decide (x=y)=f)(W:World):Sem.run Tryz.prog (binOp .neq 123 (.agg #[.int .i64 x.1,.int .i64 x.2]) (.agg #[.int .i64 y.1,.int .i64 y.2])) W=.ok (.bool !f) W:=by
 have:=vI x y W;rw[h]at this;exact this
theorem T6 (x y:Pr)(op:BinOp)(a b:Operand)(W:World):Sem.run Tryz.prog (eqGuard op 123 a b (.agg #[.int .i64 x.1,.int .i64 x.2]) (.agg #[.int .i64 y.1,.int .i64 y.2])) W=.ok () W:=Af op a b x y W
theorem cY {α:Type}[Inhabited α]{l:List α}{i:Nat}(h:i<l.length):l.take (i+1)=l.take i++[l[i]!]:=by
 rw[List.take_add_one,List.getElem?_eq_getElem h,getElem!_pos l i h];rfl
theorem jS {α:Type}[Inhabited α]{l:List α}{i:Nat}(h:i<l.length):l[i]! ∈l:=by
 rw[getElem!_pos l i h];exact List.getElem_mem h
theorem nV {α:Type}[Inhabited α]{l:List α}{i:Nat}(h:i<l.length):l.drop i=l[i]! ::l.drop (i+1):=by
 rw[List.drop_eq_getElem_cons h,getElem!_pos l i h]
theorem below_grown {B:Nat}{w W:World}(h:Below B w W)(hB:B<=W.heap.size)(n:Nat)(os:Array Obj):Below B w (grow (W.drewN n) os):=h.trans ((GR.below (w:=W) ⟨n,os,rfl⟩).mono hB)
abbrev bc (base:Nat)(W:World)(v:Value)(l:List Pr):Prop:=W.ownsRow base 123 2 v l.length (flatK aG 2 l.toArray).toList
theorem bc.empty (base:Nat)(W:World):bc base W (.slice none 0 0) []:=by unfold bc;simpa[flatK]using World.ownsRow_nil W base 123 2
theorem bc.own {base:Nat}{W:World}{v:Value}{l:List Pr}(h:bc base W v l):Own aG 2 base W v l:=cj (by decide) h
theorem bc.step {base:Nat}{W w1:World}{v v':Value}{l:List Pr}{x:Pr}(hbase:base<=W.heap.size)(h:bc base W v l)(hgrow:W.grownBy w1 v.ownBlock)(hown:w1.ownsRow base 123 2 v' (l.length+1) ((flatK aG 2 l.toArray).toList++aG x)):
  bc base w1 v' (l++[x])∧∀w0,Below base w0 W->Below base w0 w1:=by
 refine⟨?_,fun w0 hb=>hb.grown hgrow hbase fun k hk=>?_⟩
 ·show w1.ownsRow base 123 2 v' (l++[x]).length (flatK aG 2 (l++[x]).toArray).toList;rw[List.length_append,List.length_singleton,bM aG 2 cm];exact hown
 ·rcases dQ h with hr| ⟨r,hr,hle⟩
  ·rw[hr]at hk;cases hk
  ·rw[hr]at hk;cases hk;exact hle
theorem Gi {ops:Array Oper}{rest:List Oper}{o:Oper}{a:Act}{Q:Exit->Act->World->Prop}{w:World}(hgd:o.guard=.none)(s x:Operand)
  (ho:o.op=.call {callee:=.builtin .append,args:=#[s,x],argTypes:=#[120,120]})(base:Nat)(v:Value)(l:List Pr)(hs:a.eval s=v)(hown:bc base w v l)
  (b off c:Nat)(hx:a.eval x=.slice (some ⟨b,off,.none⟩) 1 c)(y:Pr)(c0:w.cell? ⟨b,off,.none⟩=some (.int .i64 y.1))(c1:w.cell? ⟨b,off+1,.none⟩=some (.int .i64 y.2))(hl:l.length<1000000)(hbase:base<=w.heap.size)
  (h:∀ao n c w',bc base w' (.slice ao n c) (l++[y])->(∀w0,Below base w0 w->Below base w0 w')->wpList Tryz.prog ops Q rest (a.put o.dst (.slice ao n c)) w'):wpList Tryz.prog ops Q (o::rest) a w:=by
 obtain⟨i0,hi,hz0,hz1,hz2⟩:=info_parts dY;refine wpList_append_own w hgd s x 120 ho base 123 i0 _ 2 16 Tryz.underlying120 hi hz0 hz1 hz2 rfl (by decide) v _ _ hs hown ⟨b,off,.none⟩ 1 c (aG y) hx rfl ?_ (dX y) (by unfold maxLen;omega) (by omega) hbase ?_
 ·intro j u hj;simp only[aG]at hj
  match j,hj with
  |0,hj=>simp at hj;subst hj;simpa[Addr.add]using c0
  |1,hj=>simp at hj;subst hj;simpa[Addr.add]using c1
 ·intro v' w' h1 h2 _;obtain⟨s1,s2⟩:=bc.step hbase hown h2 h1;obtain⟨dJ,n',c',rfl⟩:∃ao n c,v'=.slice ao n c:=by
   rcases h1.2 with⟨h,_⟩| ⟨g,cap,cur,h,_⟩
   ·exact⟨_,_,_,h⟩
   ·exact⟨_,_,_,h⟩
  exact h _ _ _ _ s1 s2
theorem bH {α:Type}[Inhabited α](enc:α->List Value)(k:Nat)(hk:∀x,(enc x).length=k):∀(m l:List α),(flatK enc k (l++m).toArray).toList=(flatK enc k l.toArray).toList++(flatK enc k m.toArray).toList
 |[],l=>by simp[flatK]
 |x::m,l=>by
  have e1:l++x::m=(l++[x])++m:=by simp
  have e2:(flatK enc k (x::m).toArray).toList=enc x++(flatK enc k m.toArray).toList:=by
   have h:=bH enc k hk m [x];have h2:=bM enc k hk [] x;rw[List.nil_append]at h2;rw[h2]at h;simpa[flatK]using h
  rw[e1,bH enc k hk m (l++[x]),bM enc k hk,e2,List.append_assoc]
theorem rG {ops:Array Oper}{rest:List Oper}{o:Oper}{a:Act}{Q:Exit->Act->World->Prop}{w:World}(hgd:o.guard=.none)(s x:Operand)
    (ho:o.op=.call {callee:=.builtin .append,args:=#[s,x],argTypes:=#[120,120]})(base:Nat)(v:Value)(l:List Pr)(hs:a.eval s=v)(hown:bc base w v l)
    (u:Value)(m:List Pr)(hx:a.eval x=u)(hu:Row aG 2 w u m)(hl:l.length+m.length<1000000)(hbase:base<=w.heap.size)(lm:List Pr)(hlm:l++m=lm)
    (h:∀ao n c w',bc base w' (.slice ao n c) lm->(∀w0,Below base w0 w->Below base w0 w')->wpList Tryz.prog ops Q rest (a.put o.dst (.slice ao n c)) w'):wpList Tryz.prog ops Q (o::rest) a w:=by
  subst hlm;obtain⟨i0,hi,hz0,hz1,hz2⟩:=info_parts dY;obtain⟨ao,cap,rfl,h1,h2,h3⟩:=hu;obtain⟨av,nv,cv,rfl⟩:∃ao n c,v=.slice ao n c:=by
    rcases hown.2 with⟨h,_⟩| ⟨g,cap,cur,h,_⟩
    · exact⟨_,_,_,h⟩
    · exact⟨_,_,_,h⟩
  cases ao with
  | none=>
    have hm:m=[]:=by
      rcases List.eq_nil_or_concat m with e| ⟨m',y,e⟩
      · exact e
      · obtain⟨b,off,e2,_⟩:=h3 (by rw[e];simp);cases e2
    subst hm;rw[h2 rfl]at hx;refine wpList_append_own_none hgd s x 120 ho base 123 i0 2 Tryz.underlying120 hi _ _ _ hs hown hx ?_;exact h _ _ _ _ (by rw[List.append_nil];exact hown) (fun _ hb=>hb)
  | some ad=>
    refine wpList_append_own w hgd s x 120 ho base 123 i0 _ 2 16 Tryz.underlying120 hi hz0 hz1 hz2 rfl (by decide) _ _ _ hs hown ad m.length cap (flatK aG 2 m.toArray).toList hx (by simp) ?_ (cD dX cm) (by unfold maxLen;omega) (by omega) hbase ?_
    · intro j u hj;obtain⟨hj1,hj2⟩:=List.getElem?_eq_some_iff.1 hj;have jL:j<m.length*2:=by simpa using hj1
      obtain⟨b,off,e2,_,hc⟩:=h3 (by intro e;rw[e]at jL;simp at jL);cases e2;rw[Go.WideShapes.add_plain,hc j jL,getElem!_pos _ j (by simpa using jL),<-hj2];simp
    · intro v' w' g1 g2 _;obtain⟨dJ,n',c',rfl⟩:∃ao n c,v'=.slice ao n c:=by
        rcases g1.2 with⟨h,_⟩| ⟨g,cap,cur,h,_⟩
        · exact⟨_,_,_,h⟩
        · exact⟨_,_,_,h⟩
      refine h _ _ _ _ ?_ (fun w0 hb=>hb.grown g2 hbase fun k hk=>?_)
      · show w'.ownsRow base 123 2 _ (l++m).length (flatK aG 2 (l++m).toArray).toList;rw[List.length_append,bH aG 2 cm];exact g1
      · rcases dQ hown with hr| ⟨r,hr,hle⟩
        · rw[hr]at hk;cases hk
        · rw[hr]at hk;cases hk;exact hle
theorem ownsRow_below {W W':World}{base:Nat}{e:TypeId}{k:Nat}{v:Value}{n:Nat}{xs:List Value}(h:W.ownsRow base e k v n xs)(hb:Below W.heap.size W W'):W'.ownsRow base e k v n xs:=by
 obtain⟨h1,h2⟩:=h;refine⟨h1,?_⟩;rcases h2 with h2| ⟨g,cap,cur,hv,hg,hh,r⟩
 ·exact Or.inl h2
 ·exact Or.inr ⟨g,cap,cur,hv,hg,by rw[hb.block g (Array.getElem?_eq_some_iff.1 hh).1];exact hh,r⟩
def tM (lo:Nat)(w:World)(v:Value)(l:List Pr):Prop:=
 ∃ao cap,v=.slice ao l.length cap∧l.length<=cap∧(ao=none->cap=0)∧(l≠[]->∃b off,ao=some ⟨b,off,none⟩∧b≠lo∧b<w.heap.size∧cG aG 2 w b off l)
def Kept (lo:Nat)(w W:World):Prop:=w.heap.size<=W.heap.size∧∀p:Addr,p.block≠lo->p.block<w.heap.size->W.cell? p=w.cell? p
theorem rH {lo:Nat}{w:World}{v:Value}{x:Pr}{l:List Pr}(h:tM lo w v (x::l)):
  ∃b off cap,v=.slice (some ⟨b,off,none⟩) (l.length+1) cap∧l.length+1<=cap∧b≠lo∧b<w.heap.size∧w.cell? ⟨b,off,none⟩=some (.int .i64 x.1)∧w.cell? ⟨b,off+1,none⟩=some (.int .i64 x.2)∧
   ∀ao,(l≠[]->ao=some ⟨b,off+2,none⟩)->(ao=none->cap-1=0)->tM lo w (.slice ao l.length (cap-1)) l:=by
 obtain⟨ao,cap,rfl,h1,h2,h3⟩:=h;obtain⟨b,off,rfl,hlo,hb,hc⟩:=h3 (by simp);have hlen:(x::l).length=l.length+1:=rfl;have c0:=hc 0 (by rw[hlen];omega);have c1:=hc 1 (by rw[hlen];omega);rw[get_flatK _ _ _ _ (by simp)]at c0;rw[get_flatK _ _ _ _ (by simp;omega)]at c1;refine⟨b,off,cap,rfl,h1,hlo,hb,by simpa[aG]using c0,by simpa[aG]using c1,fun ao ha hn=>⟨ao,cap-1,rfl,by rw[hlen]at h1;omega,hn,fun hne=>⟨b,off+2,ha hne,hlo,hb,fun t ht=>?_⟩⟩⟩;have ct:=hc (t+2) (by rw[hlen];omega);rw[get_flatK _ _ _ _ (by simp;omega)]at ct;rw[get_flatK _ _ _ _ (by simpa using ht),show off+2+t=off+(t+2) by omega,ct];have e1:(t+2)/2=t/2+1:=by omega
 have e2:(t+2)%2=t%2:=by omega
 rw[e1,e2]
 congr 3
 have ht2:t/2<l.length:=by omega
 rw[getElem!_pos _ _ (by simp;omega),getElem!_pos _ _ (by simpa using ht2)];simp
theorem iO {α:Type}[Inhabited α]{enc:α->List Value}{k:Nat}{w:World}{b n:Nat}{T:TypeId}{fr:Nat×Nat}{cs:Array Value}{l:List α}(hb:w.heap[b]? =some (.cells cs T fr))(hcs:cs=flatK enc k l.toArray)(hn:l.length=n):Row enc k w (.slice (some ⟨b,0,none⟩) n n) l:=by
 subst hn;refine⟨_,_,rfl,Nat.le_refl _,(fun h=>by cases h),fun _=>⟨b,0,rfl,(Array.getElem?_eq_some_iff.1 hb).1,fun t ht=>?_⟩⟩;simp only[World.cell?,hb,Nat.zero_add,hcs];have ht':t< (flatK enc k l.toArray).size:=by simpa using ht
 rw[Array.getElem?_eq_getElem ht',getElem!_pos _ t ht'];rfl
end
section
theorem bC {fn:Func}{p:Tmp}{ty:TypeId}(h:fn.results=#[.cell p ty])(tmps:Array Value)(P:Program)(w:World):
  (results fn tmps).run P w=((asAddr (tmps.getD p undef)).run P w).andThen fun a w₁=>(loadVar ty a).run P w₁:=by
 simp only[results,h];simp[Sem.run_bind,Result.andThen]
theorem rI (x:Pr):#[Value.int .i64 x.1,Value.int .i64 x.2]=flatK aG 2 [x].toArray:=by
 apply Array.ext';have:=bM aG 2 cm [] x;rw[List.nil_append]at this;rw[this];simp[flatK,aG]
theorem Hd (x:Pr)(w:World):Calls Tryz.prog 151 #[.agg #[.int .i64 x.1,.int .i64 x.2]] w fun e w'=>e=.returned (.agg #[.int .i64 (cF x).1,.int .i64 (cF x).2])∧GR w w':=by
  go_enter Tryz.func151,Tryz.ntmps151;go_wp2
  (try simp only[Exit.inBlock,Exit.then])
  refine bodyPost_ret (v:=.agg #[.int .i64 (max x.1 0),.int .i64 (min x.2 4294967295)]) ?_ rfl ⟨rfl,?_⟩
  · rw[bC rfl];go_simp
  · exact((GR.refl w).alloc _).alloc _
theorem rJ (x y:Pr)(W:World):Calls Tryz.prog 153 #[.agg #[.int .i64 x.1,.int .i64 x.2],.agg #[.int .i64 y.1,.int .i64 y.2]] W fun e w'=>e=.returned (.int .i64 (Lib.compareInt x.1 y.1))∧∃q os',w'=grow (W.drewN q) os':=by
 have hcon:=fun W'=>AnyG.cmp_Compare_int Tryz.PO x.1 y.1 W';change ∀W',Calls Tryz.prog 154 _ _ _ at hcon;generalize Lib.compareInt x.1 y.1=r at hcon⊢;go_enter Tryz.func153,Tryz.ntmps153
 go_wp2_with (go_at_call 154;refine(hcon _).mono ?_;rintro e w' ⟨rfl,rfl⟩)
 go_ret;exact⟨rfl,0,_,by rw[alloc_eq_grow,alloc_eq_grow,grow_grow];rfl⟩
theorem Au (n:Int)(w:World):Calls Tryz.prog 171 #[.int .i64 n] w fun e w'=>∃v,e=.returned v∧Row aG 2 w' v [(n,n)]∧Below w.heap.size w w':=by
 go_enter Tryz.func171,Tryz.ntmps171;go_wp2;go_ret;refine⟨_,rfl,iO (cs:=#[.int .i64 n,.int .i64 n]) (heap_alloc_new _ _) (rI (n,n)) rfl,?_⟩;exact(Below.refl _ w).alloc (Nat.le_refl _) _
theorem He (x:Pr)(n:Int)(b:Nat)(W:World)(hb:W.cell? ⟨b,0,none⟩=some (.int .i64 n)):Calls Tryz.prog 215 #[.agg #[.int .i64 x.1,.int .i64 x.2],.pointer (some ⟨b,0,none⟩)] W fun e w'=>e=.returned (.bool (Qp n x))∧Below W.heap.size W w':=by
 have hb2:(W.alloc (.cells #[.int .i64 x.1,.int .i64 x.2] 123)).cell? ⟨b,0,none⟩=some (.int .i64 n):=Lib.cell?_alloc_some _ hb;clear hb;unfold Qp;by_cases h1:x.1<=n
 ·by_cases h2:n<=x.2
  ·go_enter Tryz.func215,Tryz.ntmps215;go_wp2;go_ret;exact⟨by simp[h1,h2],(Below.refl _ W).alloc (Nat.le_refl _) _⟩
  ·go_enter Tryz.func215,Tryz.ntmps215;go_wp2;go_ret;exact⟨by simp[h2],(Below.refl _ W).alloc (Nat.le_refl _) _⟩
 ·go_enter Tryz.func215,Tryz.ntmps215;go_wp2;go_ret;exact⟨by rw[decide_eq_false (by omega:¬x.1<=n)];simp,(Below.refl _ W).alloc (Nat.le_refl _) _⟩
theorem yn (ao:Option Addr)(cap:Nat)(f:Value)(w:World):Calls Tryz.prog 238 #[.slice ao 0 cap,f] w fun e w'=>e=.returned (.int .i64 (-1))∧w'=w:=by
 go_enter Tryz.func238,Tryz.ntmps238;go_wp2;refine wp_loop_rounds 1 ?_;rw[rounds_succ];go_wp2;go_ret;exact⟨rfl,rfl⟩
theorem sk (ao:Option Addr)(cap:Nat)(f:Value)(w:World):Calls Tryz.prog 214 #[.slice ao 0 cap,f] w fun e w'=>e=.returned (.bool false)∧w'=w:=by
 have C:Hid _:=yn ao cap f w;go_enter Tryz.func214,Tryz.ntmps214
 go_wp2_with (go_at_call 238;refine Calls.mono C.out ?_;rintro e w' ⟨rfl,rfl⟩)
 go_ret;exact⟨rfl,rfl⟩
theorem wo (v:Value)(l:List Pr)(n:Int)(b:Nat)(w:World)(h:Row aG 2 w v l)(hl:l.length<=1000000)(hb:w.cell? ⟨b,0,none⟩=some (.int .i64 n))(hlt:b<w.heap.size):
  Calls Tryz.prog 214 #[v,.func (.func 215) #[] #[.pointer (some ⟨b,0,none⟩)]] w fun e w'=>e=.returned (.bool (l.any (Qp n)))∧Below w.heap.size w w':=by
 obtain⟨ao,cap,rfl,h1,h2,h3⟩:=h;by_cases hne:l=[]
 ·subst hne;refine(sk ao cap _ w).mono ?_;rintro e w' ⟨rfl,rfl⟩;exact⟨rfl,Below.refl _ _⟩
 ·obtain⟨b',off,rfl,hb',hc⟩:=h3 hne;have C:=AnyQ.slices_ContainsFunc Tryz.xJ 2 Tryz.isAgg123 Tryz.sizeOf123 aG cm (Qp n) 215 #[.pointer (some ⟨b,0,none⟩)] (enters_of Tryz.func215 (by kernel_rfl) rfl) b' off l.length cap l w
   (fun W x hB=>(He x n b W ((hB.cell (p:=⟨b,0,none⟩) hlt).trans hb)).mono fun e w' ⟨he,hb2⟩=>⟨he,hB.trans (hb2.mono hB.size)⟩) (Nat.le_refl _) (by omega) hb' (fun j hj i u hi=>?_)
  ·rw[List.take_length]at C;exact C
  ·have hi2:i<2:=by
    have:=(List.getElem?_eq_some_iff.1 hi).1
    rwa [cm]at this
   rw[Nat.add_assoc,hc (j*2+i) (by omega),get_flatK _ _ _ _ (by simp;omega)];have e1:(j*2+i)/2=j:=by omega
   have e2:(j*2+i)%2=i:=by omega
   rw[e1,e2];have e3:l.toArray[j]! =l[j]! :=by simp
   rw[e3];have:=List.getElem?_eq_some_iff.1 hi;rw[getElem!_pos _ i this.1,this.2]
theorem Qv (l:List Pr)(n:Int)(h0:0<=n)(h1:n<=4294967295):l.any (Qp n)=hasB l n:=by
 unfold hasB;rw[decide_eq_true h0,decide_eq_true h1];rfl
theorem LU (v:Value)(l:List Pr)(n:Int)(w:World)(h:Row aG 2 w v l)(hl:l.length<=1000000):
  Calls Tryz.prog 181 #[v,.int .i64 n] w fun e w'=>e=.returned (.bool (hasB l n))∧Below w.heap.size w w':=by
 have B:Hid (Below w.heap.size w (w.alloc (.cells #[.int .i64 n] 3))):=(Below.refl _ w).alloc (Nat.le_refl _) _;have C:Hid _:=wo v l n w.heap.size (w.alloc (.cells #[.int .i64 n] 3)) (h.below B.out) hl (by simp) (by simp);by_cases h0:0<=n
 ·by_cases h1:n<=4294967295
  ·rw[Qv l n h0 h1]at C;obtain⟨f,hf⟩:∃f,hasB l n=f:=⟨_,rfl⟩;rw[hf]at C⊢;have hz:(w.alloc (.cells #[.int .i64 n] 3)).heap.size=w.heap.size+1:=by simp
   clear h hf;go_enter Tryz.func181,Tryz.ntmps181
   go_wp2_with (go_at_call 214;refine Calls.mono C.out ?_;rintro e w' ⟨rfl,hb⟩)
   all_goals
    go_ret;exact⟨rfl,B.out.trans (hb.mono (by omega))⟩
  ·have e:hasB l n=false:=jv fun k=>h1 k.2.1;rw[e];clear h C e;go_enter Tryz.func181,Tryz.ntmps181;go_wp2;go_ret;exact⟨rfl,B.out⟩
 ·have e:hasB l n=false:=jv fun k=>h0 k.1;rw[e];clear h C e;go_enter Tryz.func181,Tryz.ntmps181;go_wp2;go_ret;exact⟨rfl,B.out⟩
end
section
section
variable {w w':World}{q i k:Nat}{cs:Array Value}{t:TypeId}
def Cl (w:World)(q:Nat)(cs:Array Value)(t:TypeId):Prop:=w.heap[q]? =some (.cells cs t (0,0))
theorem Cl.lt (h:Cl w q cs t):q<w.heap.size:=(Array.getElem?_eq_some_iff.1 h).1
theorem Cl.cell (h:Cl w q cs t)(i:Nat):w.cell? ⟨q,i,none⟩=cs[i]? :=by unfold Cl at h;simp[World.cell?,h]
theorem Cl.frozen (h:Cl w q cs t)(i:Nat):w.frozen? ⟨q,i,none⟩=false:=by unfold Cl at h;simp[World.frozen?,h]
theorem Cl.set (h:Cl w q cs t)(i:Nat)(v:Value):Cl (w.setCell ⟨q,i,none⟩ v) q (cs.setIfInBounds i v) t:=by
 unfold Cl at h⊢;simp[World.setCell,Array.getElem?_modify,h]
theorem Cl.new (w:World)(cs:Array Value)(t:TypeId):Cl (w.alloc (.cells cs t)) w.heap.size cs t:=by
 show(w.heap.push _)[w.heap.size]? =_;simp
theorem Cl.below {B:Nat}(h:Cl w q cs t)(b:Below B w w')(hq:q<B):Cl w' q cs t:=(b.block q hq).trans h
theorem Cl.on (h:Cl w q cs t)(b:Below w.heap.size w w'):Cl w' q cs t:=h.below b h.lt
theorem Cl.alloc (h:Cl w q cs t)(o:Obj):Cl (w.alloc o) q cs t:=h.on ((Below.refl _ _).alloc (Nat.le_refl _) _)
theorem Cl.two {a b:Value}(h:Cl w q #[a,b] t):w.cell? ⟨q,0,none⟩=some a∧w.cell? ⟨q,1,none⟩=some b:=⟨h.cell 0,h.cell 1⟩
theorem Cl.set2 {x y:Value}(h:Cl w q #[x,y] t)(a b:Value):Cl ((w.setCell ⟨q,0,none⟩ a).setCell ⟨q,1,none⟩ b) q #[a,b] t:=(h.set 0 a).set 1 b
end
end
section
theorem bc.other {base:Nat}{W:World}{v:Value}{l:List Pr}(h:bc base W v l){j:Nat}(hj:W.heap.size<=j):v.ownBlock≠some j:=by
 rcases h.2 with⟨rfl,_⟩| ⟨g,cap,cur,rfl,hg,hh,_⟩
 ·simp[Value.ownBlock]
 ·have:=(Array.getElem?_eq_some_iff.1 hh).1;simp only[Value.ownBlock,ne_eq,Option.some.injEq];omega
theorem qh {ops:Array Oper}{rest:List Oper}{o:Oper}{a:Act}{Q:Exit->Act->World->Prop}{w:World}(hgd:o.guard=.none)(s x:Operand)
  (ho:o.op=.call {callee:=.builtin .append,args:=#[s,x],argTypes:=#[120,120]})(base:Nat)(v:Value)(l:List Pr)(hs:a.eval s=v)(hown:bc base w v l)
  (b off c:Nat)(hx:a.eval x=.slice (some ⟨b,off,.none⟩) 1 c)(y:Pr)(c0:w.cell? ⟨b,off,.none⟩=some (.int .i64 y.1))(c1:w.cell? ⟨b,off+1,.none⟩=some (.int .i64 y.2))(hl:l.length<1000000)(hbase:base<=w.heap.size)
  (h:∀ao n c w',bc base w' (.slice ao n c) (l++[y])->(∀w0,Below base w0 w->Below base w0 w')->(∀j,j<w.heap.size->v.ownBlock≠some j->w'.heap[j]? =w.heap[j]?)->wpList Tryz.prog ops Q rest (a.put o.dst (.slice ao n c)) w'):wpList Tryz.prog ops Q (o::rest) a w:=by
 obtain⟨i0,hi,hz0,hz1,hz2⟩:=info_parts dY;refine wpList_append_own w hgd s x 120 ho base 123 i0 _ 2 16 Tryz.underlying120 hi hz0 hz1 hz2 rfl (by decide) v _ _ hs hown ⟨b,off,.none⟩ 1 c (aG y) hx rfl ?_ (dX y) (by unfold maxLen;omega) (by omega) hbase ?_
 ·intro j u hj;simp only[aG]at hj
  match j,hj with
  |0,hj=>simp at hj;subst hj;simpa[Addr.add]using c0
  |1,hj=>simp at hj;subst hj;simpa[Addr.add]using c1
 ·intro v' w' h1 h2 _;obtain⟨s1,s2⟩:=bc.step hbase hown h2 h1;obtain⟨dJ,n',c',rfl⟩:∃ao n c,v'=.slice ao n c:=by
   rcases h1.2 with⟨h,_⟩| ⟨g,cap,cur,h,_⟩
   ·exact⟨_,_,_,h⟩
   ·exact⟨_,_,_,h⟩
  exact h _ _ _ _ s1 s2 fun j hj hne=>h2.block j hj fun e=>hne e.symm
theorem Tu {z:Int}(h0:-4294967296<=z)(h1:z<=17179869184):wrap64 z=z:=by unfold wrap64;omega
end
section
end
end
end Go.Proofs.YtdcpfbidcpfboaaGreatDoor
namespace Go.Proofs.YtdcpfbidcpfboaaGreatDoor
section
open Go.RowKit
structure TX where
 free:List Pr
 pages:Nat
 fresh:Fr
 cnt:Nat
def cO (pages:Int)(room:Nat):Nat:=(max 2 (min pages (room:Int))).toNat
def TX.new (fr:List Pr)(pages:Int)(room:Nat):TX:=⟨uF fr [(2,(cO pages room:Int)-1)],cO pages room,fun _=>none,0⟩
def TX.alloc (x:TX)(room:Nat):(Int×Int)×TX:=
 match x.free with
 |r::s=>((r.1,0),⟨gA (r::s),x.pages,gN x.fresh r.1 c0,x.cnt+1⟩)
 |[]=>if room<=x.pages then((0,2),x)else(((x.pages:Int),0),⟨[],x.pages+1,gN x.fresh x.pages c0,x.cnt+1⟩)
def TX.drop (x:TX)(id:Int):TX:=if(x.fresh id).isSome=true then⟨Ce x.free [(id,id)],x.pages,rU x.fresh id,x.cnt⟩else x
def TX.put (x:TX)(id:Int)(kind:UInt8)(s:ByteArray):Int×TX:=
 if(x.fresh id).isSome=true then(if 240<s.size then(50,x)else(0,⟨x.free,x.pages,gN x.fresh id ⟨true,kind,s⟩,x.cnt+1⟩))else(1,x)
structure TX.Ok (x:TX)(room:Nat):Prop where
 cn:Cn x.free
 p2:2<=x.pages
 pr:x.pages<=room
 fr:∀n,cX x.free n->2<=n∧n<x.pages
 fs:∀n,(x.fresh n).isSome=true->2<=n∧n<x.pages
 dj:∀n,cX x.free n->(x.fresh n).isSome=false
theorem Hf {p:Int}:∀(l:List Pr) (f:Int),f<=p->Cn l->(∀n,cX l n->f<=n∧n<p)->(l.length:Int)+f<=p
 |[],f,hf,_,_=>by simpa using hf
 |r::l,f,hf,hc,h=>by
  obtain⟨⟨r0,r1,r2⟩,_,hl⟩:=bD.1 hc;have a1:=h r.1 (hc.dV (Int.le_refl _) r1);have a2:=h r.2 (hc.dV r1 (Int.le_refl _));have ih:=Hf l (r.2+1) (by omega) hl (fun n hn=>⟨by have:=hc.ft hn;omega,(h n ((aU _ _ _).2 (.inr hn))).2⟩);simp only[List.length_cons];omega
theorem TX.Ok.len {x:TX}{room:Nat}(h:x.Ok room):x.free.length<=x.pages:=by
 have:=Hf (p:=x.pages) x.free 2 (by have:=h.p2;omega) h.cn h.fr;omega
theorem Av (pages:Int){room:Nat}(h:2<=room):2<=cO pages room∧cO pages room<=room:=by unfold cO;omega
theorem TX.Al (fr:List Pr)(pages:Int){room:Nat}(h:2<=room):(TX.new fr pages room).Ok room:=by
 obtain⟨h2,h3⟩:=Av pages h;refine⟨om _ _,h2,h3,fun n hn=>?_,(fun n hn=>by cases hn),fun n hn=>rfl⟩;have:=(oo _ _ n).1 hn;have:=(eY _ _).1 this.2;show _∧n< (cO pages room:Int);simp only at this;omega
theorem dA (g:Fr)(k:Int)(c:C3)(q:Int):(gN g k c q).isSome=(decide (q=k)||(g q).isSome):=by
 unfold gN;by_cases h:q=k<;>simp[h]
theorem oq (g:Fr)(k:Int)(q:Int):(rU g k q).isSome=(!decide (q=k)&&(g q).isSome):=by
 unfold rU;by_cases h:q=k<;>simp[h]
theorem TX.sq {x:TX}{room:Nat}(h:x.Ok room):(x.alloc room).2.Ok room:=by
 obtain⟨fr,p,g,c⟩:=x;unfold TX.alloc;cases fr with
 |cons r s=>
  obtain⟨_,d1,_,_,d2⟩:=ym h.cn;have r1:=h.fr r.1 (h.cn.dV (Int.le_refl _) (bD.1 h.cn).1.2.1);refine⟨d1,h.p2,h.pr,fun n hn=>h.fr n ((d2 n).1 hn).1,fun n hn=>?_,fun n hn=>?_⟩
  ·rw[dA]at hn;rcases Bool.or_eq_true_iff.1 hn with e|e
   ·rw[of_decide_eq_true e];exact r1
   ·exact h.fs n e
  ·have k:=(d2 n).1 hn;have:=h.dj n k.1;simp only at this;rw[dA,this];simp;omega
 |nil=>
  simp only;split
  ·exact h
  ·rename_i hp
   have h2:=h.p2;simp only at h2;refine⟨Cn.nil,by simp only;omega,by simp only;omega,fun n hn=>absurd hn (dt n),fun n hn=>?_,fun n hn=>absurd hn (dt n)⟩;rw[dA]at hn;simp only;rcases Bool.or_eq_true_iff.1 hn with e|e
   ·rw[of_decide_eq_true e];omega
   ·have:=h.fs n e;simp only at this;omega
theorem TX.Cf {x:TX}{room:Nat}(h:x.Ok room)(id:Int):(x.drop id).Ok room:=by
 unfold TX.drop;split
 ·rename_i hi
  have k:=h.fs id hi;refine⟨G7 _ _,h.p2,h.pr,fun n hn=>?_,fun n hn=>?_,fun n hn=>?_⟩
  ·rcases(vZ _ _ n).1 hn with e|e
   ·exact h.fr n e
   ·have:=(eY _ _).1 e;simp only at this;have e2:n=id:=by omega
    rw[e2];exact k
  ·rw[oq]at hn;exact h.fs n (Bool.and_eq_true_iff.1 hn).2
  ·rw[oq];rcases(vZ _ _ n).1 hn with e|e
   ·rw[h.dj n e];simp
   ·have:=(eY _ _).1 e;simp only at this;have e2:n=id:=by omega
    simp[e2]
 ·exact h
theorem TX.Qw {x:TX}{room:Nat}(h:x.Ok room)(id:Int)(kind:UInt8)(s:ByteArray):(x.put id kind s).2.Ok room:=by
 unfold TX.put;split
 ·rename_i hi
  split
  ·exact h
  ·have k:=h.fs id hi;refine⟨h.cn,h.p2,h.pr,h.fr,fun n hn=>?_,fun n hn=>?_⟩
   ·rw[dA]at hn;rcases Bool.or_eq_true_iff.1 hn with e|e
    ·rw[of_decide_eq_true e];exact k
    ·exact h.fs n e
   ·rw[dA,h.dj n hn];have:n≠id:=fun e=>by
     have:=h.dj n hn;rw[e,hi]at this;cases this
    simp[this]
 ·exact h
end
section
open Go.RowKit
def Qx (r:(ByteArray×Int)×Dk):(ByteArray×Int)×Dk:=((r.1.1,if r.1.2=40 then 3 else r.1.2),r.2)
def TX.get (x:TX)(d:Dk)(id:Int)(kind:UInt8):(ByteArray×Int)×Dk:=
 match x.fresh id with
 |some c=>if c.there=true∧c.kind=kind then((c.body,0),d)else((ByteArray.empty,3),d)
 |none=>if(x.pages:Int)<=id∨hasB x.free id=true then((ByteArray.empty,3),d)else Qx (d.rd id kind)
end
end Go.Proofs.YtdcpfbidcpfboaaGreatDoor
namespace Go.Proofs.YtdcpfbidcpfboaaGreatDoor
open Go.Shelf Go.RowKit Go.Lib Go.Sort
namespace N
section
theorem Qy {a b:ByteArray}(h:a≠b):(a.toList==b.toList)=false:=by rw[str_eq];exact decide_eq_false h
theorem Uq (va vb:Value)(a b:List En)(w:World)(ha:Row aG 2 w va a)(hb:Row aG 2 w vb b)(hl:a.length<=1000000)(hl2:b.length<=1000000):
  Calls Tryz.prog 28 #[va,vb] w fun e w'=>e=.returned (.bool (decide (a=b)))∧Below w.heap.size w w':=by
 obtain⟨ao,ca,rfl,a1,a2,a3⟩:=ha;obtain⟨bo,cb,rfl,b1,b2,b3⟩:=hb;have A3:Aside (a≠[]->∃b off,ao=some ⟨b,off,none⟩∧b<w.heap.size∧cG aG 2 w b off a):=a3;have B3:Aside (b≠[]->∃b' off,bo=some ⟨b',off,none⟩∧b'<w.heap.size∧cG aG 2 w b' off b):=b3;clear a3 b3;by_cases hlen:a.length=b.length
 ·have HL:Hid (a.length=b.length):=hlen;have hle1:a.length<=b.length:=by omega
  have hle2:b.length<=a.length:=by omega
  have hneq:((a.length:Int) != (b.length:Int))=false:=by simp;omega
  clear hlen;go_enter Tryz.func28,Tryz.ntmps28;go_wp2
  go_loopg [5] a.length (fun kx s5 wr=>∃(i:Nat),s5=.int .i64 i∧i<=a.length∧a.length-i<=kx∧Hid (GR w wr)∧Hid (a.take i=b.take i))
  case atStart=>exact⟨0,rfl,Nat.zero_le _,Nat.le_refl _,GR.refl _,by simp[Hid]⟩
  case round=>
   obtain⟨i,rfl,hi,hki,HG,HN⟩:=hrel;by_cases hil:i<a.length
   ·have fP:(i:Int)< (a.length:Int):=by omega
    have Hg:i<b.length:=by omega
    obtain⟨ba,oa,rfl,Ae,x1,x2⟩:=ew A3.out i hil HG.out.below;obtain⟨bb,ob,rfl,hbb,y1,y2⟩:=ew B3.out i Hg HG.out.below;have T:Hid (a.take (i+1)=a.take i++[a[i]!]):=cY hil;have T2:Hid (b.take (i+1)=b.take i++[b[i]!]):=cY Hg;generalize a[i]! =x at*;generalize b[i]! =y at*;have HD:Hid (GR w wr.drew):=HG.out.drew;by_cases he:x=y
    ·have E:=fun W=>Gh (x:=x) (y:=y) (decide_eq_true he) W;have G:=T6 x y;have HE:Hid (x=y):=he;clear he;simp only[Bool.not_true]at E
     go_wp2_with fail
     go_region
     all_goals go_wp2
     all_goals go_roundg (a.length- (i+1))
     case measure=>omega
     case rel=>
      refine⟨i+1,by go_num,by omega,Nat.le_refl _,HD,?_⟩;show _=_;rw[T.out,T2.out,HN.out,HE.out]
    ·have E:=fun W=>Gh (x:=x) (y:=y) (decide_eq_false he) W;have G:=T6 x y;have HE:Hid (x≠y):=he;clear he;simp only[Bool.not_false]at E
     go_wp2_with fail
     go_region
     all_goals go_wp2
     all_goals go_ret
     all_goals
      refine⟨dC (decide_eq_false fun h=>HE.out ?_).symm,HD.out.below⟩;subst h;have:=T.out.symm.trans T2.out;simpa using this
   ·have fP:¬(i:Int)< (a.length:Int):=by omega
    obtain rfl:i=a.length:=by omega
    go_wp2;go_ret;refine⟨dC (decide_eq_true ?_).symm,HG.out.below⟩;have:=HN.out;rw[List.take_length,HL.out,List.take_length]at this;exact this
 ·have hneq:((a.length:Int) != (b.length:Int))=true:=by simp;omega
  have HL:Hid (a.length≠b.length):=hlen;clear hlen;go_enter Tryz.func28,Tryz.ntmps28;go_wp2;go_ret;exact⟨dC (decide_eq_false fun h=>HL.out (by rw[h])).symm,Below.refl _ _⟩
theorem LV (k v:ByteArray)(w:World):Calls Tryz.prog 24 #[.string k,.string v] w fun e w'=>e=.returned (.bool (cM k v))∧w=w':=by
 by_cases h1:(1:Int)<=(k.size:Int)
 ·by_cases h2:(k.size:Int)<=16
  ·by_cases h3:(v.size:Int)<=40
   ·have E:Hid (cM k v=true):=aY.2 (by omega);go_enter Tryz.func24,Tryz.ntmps24;go_wp2;go_ret;exact⟨dC E.out.symm,rfl⟩
   ·have E:Hid (cM k v=false):=by
     show _=_;cases e:cM k v
     ·rfl
     ·have:=aY.1 e;omega
    go_enter Tryz.func24,Tryz.ntmps24;go_wp2;go_ret;exact⟨dC E.out.symm,rfl⟩
  ·have E:Hid (cM k v=false):=by
    show _=_;cases e:cM k v
    ·rfl
    ·have:=aY.1 e;omega
   go_enter Tryz.func24,Tryz.ntmps24;go_wp2;go_ret;exact⟨dC E.out.symm,rfl⟩
 ·have E:Hid (cM k v=false):=by
   show _=_;cases e:cM k v
   ·rfl
   ·have:=aY.1 e;omega
  go_enter Tryz.func24,Tryz.ntmps24;go_wp2;go_ret;exact⟨dC E.out.symm,rfl⟩
theorem Zr (k v:ByteArray)(e:Bool)(he:cM k v=e)(W:World):∀m,Calls Tryz.prog 24 #[.string k,.string v] (W.drewN m) fun r w'=>r=.returned (.bool e)∧∃m',w'=W.drewN m':=fun m=>
 (LV k v (W.drewN m)).mono fun _ _ ⟨h1,h2⟩=>⟨by rw[h1,he],m,h2.symm⟩
theorem Xx (l:List En)(k:ByteArray):(iF l k).length<=l.length:=List.length_filter_le _ _
end
section
def encS (s:ByteArray):List Value:=[.string s]
theorem fk (s:ByteArray):(encS s).length=1:=rfl
theorem yo (s:ByteArray):∀v∈encS s,v.oneCell'=true:=fun v hv=>by simp[encS]at hv;subst hv;rfl
theorem mK:(Tryz.prog.info? 9).map (fun i=>(i.zero,i.size,i.bytes))=some (some (.string ⟨#[]⟩),1,16):=by kernel_rfl
abbrev cH (base:Nat)(W:World)(v:Value)(l:List ByteArray):Prop:=W.ownsRow base 9 1 v l.length (flatK encS 1 l.toArray).toList
theorem cH.empty (base:Nat)(W:World):cH base W (.slice none 0 0) []:=by unfold cH;simpa[flatK]using World.ownsRow_nil W base 9 1
theorem Hh (x y:ByteArray):(flatK encS 1 [x,y].toArray).toList=[.string x,.string y]:=by
 have h:=bH encS 1 fk [x,y] [];have h1:=bM encS 1 fk [] x;have h2:=bM encS 1 fk [x] y;rw[List.nil_append]at h1;rw[show [x]++[y]=[x,y]from rfl,h1]at h2;rw[h2];simp[flatK,encS]
theorem Cg {ops:Array Oper}{rest:List Oper}{o:Oper}{a:Act}{Q:Exit->Act->World->Prop}{w:World}(hgd:o.guard=.none)(s x:Operand)
    (ho:o.op=.call {callee:=.builtin .append,args:=#[s,x],argTypes:=#[54,54]})(base:Nat)(v:Value)(l:List ByteArray)(hs:a.eval s=v)(hown:cH base w v l)
    (q:Nat)(y z:ByteArray)(hx:a.eval x=.slice (some ⟨q,0,none⟩) 2 2)(hq:Cl w q #[.string y,.string z] 9)(hl:l.length+2<1000000)(hbase:base<=w.heap.size)(lm:List ByteArray)(hlm:l++[y,z]=lm)
    (h:∀ao n c w',cH base w' (.slice ao n c) lm->(∀w0,Below base w0 w->Below base w0 w')->wpList Tryz.prog ops Q rest (a.put o.dst (.slice ao n c)) w'):wpList Tryz.prog ops Q (o::rest) a w:=by
  subst hlm;obtain⟨i0,hi,hz0,hz1,hz2⟩:=info_parts mK;refine wpList_append_own w hgd s x 54 ho base 9 i0 _ 1 16 Tryz.underlying54 hi hz0 hz1 hz2 rfl (by decide) v _ _ hs hown ⟨q,0,none⟩ 2 2 [.string y,.string z] hx rfl ?_ (fun u hu=>by simp at hu;rcases hu with rfl|rfl<;>rfl) (by unfold maxLen;omega) (by omega) hbase ?_
  · intro j u hj;rw[Go.WideShapes.add_plain,Nat.zero_add,hq.cell j,<-hj]
    match j with
    | 0=>rfl
    | 1=>rfl
    | j+2=>simp
  · intro v' w' g1 g2 _;obtain⟨dJ,n',c',rfl⟩:∃ao n c,v'=.slice ao n c:=by
      rcases g1.2 with⟨h,_⟩| ⟨g,cap,cur,h,_⟩
      · exact⟨_,_,_,h⟩
      · exact⟨_,_,_,h⟩
    refine h _ _ _ _ ?_ (fun w0 hb=>hb.grown g2 hbase fun k hk=>?_)
    · show w'.ownsRow base 9 1 _ (l++[y,z]).length (flatK encS 1 (l++[y,z]).toArray).toList;rw[List.length_append,bH encS 1 fk,Hh];exact g1
    · rcases dQ hown with hr| ⟨r,hr,hle⟩
      · rw[hr]at hk;cases hk
      · rw[hr]at hk;cases hk;exact hle
def Fy:List En->List ByteArray
 |[]=>[]
 |x::l=>⟨(mg x.1).toArray⟩::⟨(mg x.2).toArray⟩::Fy l
theorem LW (l m:List En):Fy (l++m)=Fy l++Fy m:=by
 induction l with
 |nil=>rfl
 |cons x l ih=>simp[Fy,ih]
theorem Hi {l:List En}{i:Nat}(h:i<l.length):Fy (l.take (i+1))=Fy (l.take i)++[⟨(mg l[i]!.1).toArray⟩,⟨(mg l[i]!.2).toArray⟩]:=by
 rw[cY h,LW];rfl
theorem Ci (l:List En):cat (Fy l)=xW l:=by
 induction l with
 |nil=>rfl
 |cons x l ih=>
  unfold cat at ih⊢;simp[Fy,xW,Km,ih]
theorem Aw {s:ByteArray}(h:s.size<=255):rq s=mg s∧ru s=0:=by
 unfold rq ru mg;rw[if_pos h,if_pos h];exact⟨rfl,rfl⟩
theorem yq {base:Nat}{w:World}{v:Value}{xs:List ByteArray}(h:cH base w v xs)(hN:xs.length<=1000000)(hlen:(cat xs).length<=140737488355328):
  Calls Tryz.prog 78 #[v] w fun r w'=>r=.returned (.string ⟨(cat xs).toArray⟩)∧Below w.heap.size w w':=by
 obtain⟨ao,c,rfl,h1,h2,h3⟩:=(cj (enc:=encS) (by decide) h).row;by_cases hne:xs=[]
 ·subst hne;exact(join_none ao c w).mono fun _ _ ⟨a,b⟩=>⟨a,by rw[b];exact Below.refl _ _⟩
 ·obtain⟨b,off,rfl,hb,hc⟩:=h3 hne;refine rj b off c xs.length xs w (fun j x hj=>?_) hb rfl (by omega) h1 hlen;obtain⟨hj1,hj2⟩:=List.getElem?_eq_some_iff.1 hj;rw[hc j (by omega),get_flatK _ _ _ _ (by simpa using hj1)];rw[Nat.div_one,Nat.mod_one,getElem!_pos xs.toArray j (by simpa using hj1)];simp[encS,hj2]
theorem cH.below {base:Nat}{w w':World}{v:Value}{l:List ByteArray}(h:cH base w v l)(hb:Below w.heap.size w w'):cH base w' v l:=ownsRow_below h hb
theorem sr (v:Value)(l:List En)(w:World)(h:Row aG 2 w v l)(hl:l.length<=100000):
  Calls Tryz.prog 146 #[v] w fun e w'=>e=.returned (.tuple #[.string (Tr l),.int .i64 (OD l)])∧Below w.heap.size w w':=by
 have C:Hid _:=iP v l w h (by omega);have H:Aside (Row aG 2 w v l):=h;obtain⟨ao,cap,rfl,hcap⟩:=h.shape;clear h;unfold Tr OD;cases hr:ia l with
 |false=>
  rw[if_neg (by simp),if_neg (by simp)];rw[hr]at C;go_enter Tryz.func146,Tryz.ntmps146
  go_wp2_with (go_at_call 87;refine Calls.mono C.out ?_;rintro e w1 ⟨rfl,hb⟩)
  go_ret2;exact⟨rfl,hb⟩
 |true=>
  rw[if_pos rfl,if_pos rfl];rw[hr]at C;have RG:Hid (Rg l):=rg_of hr;clear hr;go_enter Tryz.func146,Tryz.ntmps146
  go_upto_region 3 with(go_at_call 87;refine Calls.mono C.out ?_;rintro e w1 ⟨rfl,hb⟩)
  have B1:Hid (Below w.heap.size w w1):=hb;have H1:Aside (Row aG 2 w1 (.slice ao l.length cap) l):=H.out.below hb;clear hb C H;obtain⟨tE,aac,e1,h1,h2,h3⟩:=H1.out;cases e1;have H3:Aside (l≠[]->∃b off,ao=some ⟨b,off,none⟩∧b<w1.heap.size∧cG aG 2 w1 b off l):=h3;clear h3 H1;go_wp2
  go_loopg [4,16] l.length (fun kx s4 s16 wr=>∃(i:Nat) (dJ:Option Addr) (n' c':Nat) (out:List ByteArray),s4=.slice dJ n' c'∧s16=.int .i64 i∧i<=l.length∧l.length-i<=kx∧out.length=2*i∧Hid (Fy (l.take i)=out)∧Aside (cH w1.heap.size wr (.slice dJ n' c') out)∧Hid (Below w1.heap.size w1 wr))
  case atStart=>exact⟨0,none,0,0,[],rfl,rfl,Nat.zero_le _,Nat.le_refl _,rfl,rfl,cH.empty _ _,Below.refl _ _⟩
  case round=>
   obtain⟨i,dJ,n',c',out,rfl,rfl,hi,hki,hol,HD,HO,HB⟩:=hrel;by_cases hil:i<l.length
   ·have fP:(i:Int)< (l.length:Int):=by omega
    obtain⟨b,off,rfl,hb,x1,x2⟩:=ew H3.out i hil HB.out;have T:Hid _:=Hi hil;have hm:=aY.1 (RG.out.may _ (jS hil));rw[HD.out]at T;generalize l[i]! =x at*;obtain⟨t1,t2⟩:=Aw (s:=x.1) (by omega);obtain⟨t3,t4⟩:=Aw (s:=x.2) (by omega);have B2:Hid (Below w1.heap.size w1 (wr.alloc (.cells #[.string x.1,.string x.2] 49))):=HB.out.alloc HB.out.size _;have O2:Aside (cH w1.heap.size (wr.alloc (.cells #[.string x.1,.string x.2] 49)) (.slice dJ n' c') out):=HO.out.below ((Below.refl _ wr).alloc (Nat.le_refl _) _);have K2:Hid (Cl (wr.alloc (.cells #[.string x.1,.string x.2] 49)) wr.heap.size #[.string x.1,.string x.2] 49):=Cl.new _ _ _;clear HO HB HD
    go_upto_region 7 with fail
    generalize wr.alloc (.cells #[.string x.1,.string x.2] 49)=W at*;generalize wr.heap.size=p at*;obtain⟨y1,y2⟩:=K2.out.two;have Wb:=K2.out.lt;have C1:Hid _:=rv x.1 W (by unfold maxLen;omega);rw[t1,t2]at C1
    go_upto_region 8 with(go_at_call 178;refine Calls.mono C1.out ?_;rintro e w3 ⟨rfl,hb3⟩)
    have B3:Hid (Below w1.heap.size w1 w3):=B2.out.trans (hb3.mono B2.out.size);have O3:Aside (cH w1.heap.size w3 (.slice dJ n' c') out):=O2.out.below hb3;have K3:Hid (Cl w3 p #[.string x.1,.string x.2] 49):=K2.out.on hb3;clear B2 O2 K2 hb3 C1 y1 y2 Wb x1 x2;obtain⟨y1,y2⟩:=K3.out.two;have Wb:=K3.out.lt;have C2:Hid _:=rv x.2 w3 (by unfold maxLen;omega);rw[t3,t4]at C2
    go_upto_region 9 with(go_at_call 178;refine Calls.mono C2.out ?_;rintro e w4 ⟨rfl,hb4⟩)
    have B4:Hid (Below w1.heap.size w1 w4):=B3.out.trans (hb4.mono B3.out.size);have O4:Aside (cH w1.heap.size w4 (.slice dJ n' c') out):=O3.out.below hb4;clear B3 O3 K3 hb4 C2 y1 y2 Wb t1 t2 t3 t4 hm;obtain⟨o2,ho2⟩:∃o2,Fy (l.take (i+1))=o2:=⟨_,rfl⟩;have T2:Hid (out++[(⟨(mg x.1).toArray⟩:ByteArray),⟨(mg x.2).toArray⟩]=o2):=by show _=_;rw[<-T.out,ho2]
    have l2:o2.length=2*(i+1):=by rw[<-T2.out];simp;omega
    have HD2:Hid (Fy (l.take (i+1))=o2):=ho2;clear T ho2;generalize(⟨(mg x.1).toArray⟩:ByteArray)=p1 at*;generalize(⟨(mg x.2).toArray⟩:ByteArray)=p2 at*;have B5:Hid (Below w1.heap.size w1 (w4.alloc (.cells #[.string p1,.string p2] 9))):=B4.out.alloc B4.out.size _;have O5:Aside (cH w1.heap.size (w4.alloc (.cells #[.string p1,.string p2] 9)) (.slice dJ n' c') out):=O4.out.below ((Below.refl _ w4).alloc (Nat.le_refl _) _);have K5:Hid (Cl (w4.alloc (.cells #[.string p1,.string p2] 9)) w4.heap.size #[.string p1,.string p2] 9):=Cl.new _ _ _;have hsz:=B5.out.size;clear O4 B4
    go_wp2_with (at_builtin;refine Cg rfl _ _ rfl w1.heap.size _ out rfl O5.out _ p1 p2 rfl K5.out (by omega) hsz o2 T2.out ?_)
    intro a6 n6 c6 w6 P6 Q6;have O7:Aside (cH w1.heap.size w6 (.slice a6 n6 c6) o2):=P6;have B7:Hid (Below w1.heap.size w1 w6):=Q6 _ B5.out;clear P6 Q6 O5 K5 B5 hsz T2;go_wp2
    go_roundg (l.length- (i+1))
    case measure=>omega
    case rel=>exact⟨i+1,a6,n6,c6,o2,rfl,by go_num,by omega,Nat.le_refl _,l2,HD2,O7,B7⟩
   ·have fP:¬(i:Int)< (l.length:Int):=by omega
    obtain rfl:i=l.length:=by omega
    rw[List.take_length]at HD;have hb2:cP l<=l.length*58:=kv fun x hx=>by
     have:=aY.1 (RG.out.may x hx);unfold k8;omega
    have CJ:Hid _:=yq HO.out (by omega) (by rw[<-HD.out,Ci,rC];omega);rw[<-HD.out,Ci]at CJ;clear HO HD
    go_wp2_with (go_at_call 78;refine Calls.mono CJ.out ?_;rintro e w6 ⟨rfl,hb6⟩)
    go_ret2;exact⟨rfl,B1.out.trans ((HB.out.trans (hb6.mono HB.out.size)).mono B1.out.size)⟩
end
section
theorem jA (s:ByteArray)(e n:Int):(aM s e n).2.1.size<=s.size:=by
 unfold aM;split
 ·simp
 ·split
  ·simp
  ·split
   ·simp
   ·simp
theorem jB (s:ByteArray)(e n:Int):(bn s e n).2.1.size<=s.size:=by
 unfold bn;split
 ·simp
 ·exact jA s e n
theorem yr (s:ByteArray)(e:Int):(a8 s e).2.1.size<=s.size:=Nat.le_trans (jA _ _ _) (jB _ _ _)
theorem oZ (s:ByteArray)(h:s.size≠0):(a8 s 0).2.1.size<s.size:=by
 refine Nat.lt_of_le_of_lt (jA _ _ _) ?_;have:bn s 0 1=((beNat (aM s 0 1).1.data.toList:Int),(aM s 0 1).2.1,(aM s 0 1).2.2):=by simp[bn,bT]
 rw[this];have h2:aM s 0 1=(s.extract 0 1,s.extract 1 s.size,0):=by
  unfold aM;rw[if_neg (by simp),if_neg (by omega),if_neg (by omega)];rfl
 rw[h2];simp;omega
theorem Qz (s:ByteArray)(h:s.size≠0):(a8 (a8 s 0).2.1 (a8 s 0).2.2).2.1.size<s.size∧
  (((a8 (a8 s 0).2.1 (a8 s 0).2.2).2.2=0∧xy s.data.toList=some (((a8 s 0).1,(a8 (a8 s 0).2.1 (a8 s 0).2.2).1),(a8 (a8 s 0).2.1 (a8 s 0).2.2).2.1.data.toList))∨
   ((a8 (a8 s 0).2.1 (a8 s 0).2.2).2.2≠0∧xy s.data.toList=none)):=by
 refine⟨Nat.lt_of_le_of_lt (yr _ _) (oZ s h),?_⟩;by_cases c:(a8 (a8 s 0).2.1 (a8 s 0).2.2).2.2=0
 ·left;refine⟨c,?_⟩;obtain⟨e1,d,b,r,hs2,hd,hr2⟩:=lF _ _ c;obtain⟨_,c1,a,q,hs1,hc,hr1⟩:=lF s 0 e1;rw[hr2,hr1];rw[hr1]at hs2;have hq:q=d::(b++r):=by
    have:=congrArg (fun x:ByteArray=>x.data.toList) hs2;simpa using this
  rw[hs1,hq];simp only;exact Gg c1 d a b r hc hd
 ·right;refine⟨c,?_⟩;cases ht:xy s.data.toList with
  |none=>rfl
  |some p=>
    exfalso;apply c;obtain⟨x,r⟩:=p;obtain⟨he,h1,h2⟩:=vH ht;have s1:=Lib.size_eq x.1;have s2:=Lib.size_eq x.2;have e1:s=⟨(UInt8.ofNat x.1.size::(x.1.data.toList++(mg x.2++r))).toArray⟩:=by
     apply iz;rw[he];simp[Km,mg]
    have r1:=lD (UInt8.ofNat x.1.size) x.1.data.toList (mg x.2++r) (by rw[ofNat_size h1];exact s1);rw[<-e1]at r1;rw[r1];have r2:=lD (UInt8.ofNat x.2.size) x.2.data.toList r (by rw[ofNat_size h2];exact s2);have e2:mg x.2++r=UInt8.ofNat x.2.size::(x.2.data.toList++r):=rfl;rw[e2,r2]
theorem fI.only {base b:Nat}{w w':World}{v:Value}{l:List En}(h:fI base w v l)(ho:Only b w w')(hb:b<base):fI base w' v l:=by
 rcases h with h|h
 ·left;refine⟨h.1,?_⟩;rcases h.2 with h2| ⟨g,cap,cur,hv,hg,hh,r⟩
  ·exact Or.inl h2
  ·exact Or.inr ⟨g,cap,cur,hv,hg,by rw[ho.block g (by omega)];exact hh,r⟩
 ·exact Or.inr h
def LX (S s:ByteArray)(e:Int)(out:List En):Prop:=(e=0∧xX S.data.toList=(xX s.data.toList).map (out++ ·))∨(e≠0∧xX S.data.toList=none)
theorem wy (out:List En)(x:En)(o:Option (List En)):(o.map (x:: ·)).map (out++ ·)=o.map ((out++[x])++ ·):=by
 cases o<;>simp
theorem LX.next {S s s2:ByteArray}{out:List En}{x:En}{e2:Int}(h:LX S s 0 out)(hs:s.size≠0)(h2:(e2=0∧xy s.data.toList=some (x,s2.data.toList))∨(e2≠0∧xy s.data.toList=none)):LX S s2 e2 (out++[x]):=by
 rcases h with⟨_,h⟩| ⟨h,_⟩
 ·rcases h2 with⟨e,h2⟩| ⟨e,h2⟩
  ·left;refine⟨e,?_⟩;rw[h,rE h2,wy]
  ·right;refine⟨e,?_⟩;rw[h,xY (by
    intro e
    have:=Lib.size_eq s
    rw[e]at this
    exact hs this) h2]
   rfl
 ·exact absurd rfl h
theorem LX.bad {S s:ByteArray}{e:Int}{out:List En}(h:LX S s e out)(he:e≠0):xZ S.data.toList=[]∧Ec S.data.toList=false:=by
 rcases h with⟨h,_⟩| ⟨_,h⟩
 ·exact absurd h he
 ·unfold xZ Ec;rw[h];exact⟨rfl,rfl⟩
theorem LX.good {S s:ByteArray}{out:List En}(h:LX S s 0 out)(hs:s.size=0):xZ S.data.toList=(if ia out=true then out else [])∧Ec S.data.toList=ia out:=by
 rcases h with⟨_,h⟩| ⟨h,_⟩
 ·have e:s.data.toList=[]:=List.eq_nil_of_length_eq_zero (by rw[<-Lib.size_eq];exact hs);rw[e,BQ]at h;simp only[Option.map_some,List.append_nil]at h;unfold xZ Ec;rw[h];exact⟨rfl,rfl⟩
 ·exact absurd rfl h
def kV (b:Bool):Int:=if b=true then 0 else 3
theorem Ax (S:ByteArray)(w:World)(hS:S.size<=100000):
  Calls Tryz.prog 219 #[.string S] w fun e w'=>∃v',e=.returned (.tuple #[v',.int .i64 (kV (Ec S.data.toList))])∧Own aG 2 w.heap.size w' v' (xZ S.data.toList)∧Below w.heap.size w w':=by
 have C0:Hid _:=mo S w;have R0:Hid (Rd w.heap.size S 0 (w.alloc (.cells #[.string S,.int .i64 0] 180))):=Rd.made S (by unfold maxLen;omega) w;have B0:Hid (Below w.heap.size w (w.alloc (.cells #[.string S,.int .i64 0] 180))):=(Below.refl _ w).alloc (Nat.le_refl _) _;obtain⟨rb,hrb⟩:∃rb,w.heap.size=rb:=⟨_,rfl⟩;rw[hrb]at C0 R0 B0⊢;have Xy:Hid (w.heap.size=rb):=hrb;clear hrb;generalize w.alloc (.cells #[.string S,.int .i64 0] 180)=W0 at*;go_enter Tryz.func219,Tryz.ntmps219
 go_wp2_with (go_at_call 80;refine Calls.mono C0.out ?_;rintro e w1 ⟨rfl,rfl⟩)
 go_loopg [4] (S.size+1) (fun kx s4 wr=>∃(dJ:Option Addr) (n' c':Nat) (out:List En) (s:ByteArray) (e:Int),s4=.slice dJ n' c'∧s.size<kx+1∧out.length+s.size<=S.size∧Hid (Rd rb s e wr)∧Hid (LX S s e out)∧Aside (fI (rb+1) wr (.slice dJ n' c') out)∧Hid (Below rb w wr))
 case atStart=>exact⟨none,0,0,[],S,0,rfl,by omega,by simp,R0,Or.inl ⟨rfl,by cases xX S.data.toList<;>simp⟩,fI.empty _ _ _,B0⟩
 case round=>
  clear C0 R0 B0;obtain⟨dJ,n',c',out,s,e,rfl,hk,hsz,HR,HD,HO,HB⟩:=hrel;have CE:Hid _:=mn rb s e wr HR.out;have CL:Hid _:=jP rb s e wr HR.out;by_cases he:e=0
  ·subst he;by_cases hs0:s.size=0
   ·have hs1:¬(0:Int)< (s.size:Int):=by omega
    have CN:Hid _:=mq rb s 0 wr HR.out;have en:eO s 0=0:=by simp[eO,hs0]
    rw[en]at CN;obtain⟨g1,g2⟩:=HD.out.good hs0;have CR:Hid _:=iP _ out wr HO.out.own.row (by omega);have G1:Hid _:=g1;have G2:Hid _:=g2;clear g1 g2 en HD hs0;cases hr:ia out with
    |true=>
     have G3:Hid (xZ S.data.toList=out):=by have:=G1.out;rw[hr,if_pos rfl]at this;exact this
     rw[hr]at CR G2;clear hr G1
     go_wp2_with (first| (go_at_call 110;refine Calls.mono CE.out ?_;rintro e w' ⟨rfl,rfl⟩)| (go_at_call 111;refine Calls.mono CL.out ?_;rintro e w' ⟨rfl,rfl⟩)| (go_at_call 82;refine Calls.mono CN.out ?_;rintro e w' ⟨rfl,rfl⟩)| (go_at_call 87;refine Calls.mono CR.out ?_;rintro e w2 ⟨rfl,hb2⟩))
     go_ret2;refine⟨_,by rw[G2.out];rfl,?_,HB.out.trans (hb2.mono (by have:=HB.out.size;have:=Xy.out;omega))⟩;rw[G3.out];exact(HO.out.own.below hb2).mono (Nat.le_succ _)
    |false=>
     have G3:Hid (xZ S.data.toList=[]):=by have:=G1.out;rw[hr,if_neg (by simp)]at this;exact this
     rw[hr]at CR G2;clear hr G1
     go_wp2_with (first| (go_at_call 110;refine Calls.mono CE.out ?_;rintro e w' ⟨rfl,rfl⟩)| (go_at_call 111;refine Calls.mono CL.out ?_;rintro e w' ⟨rfl,rfl⟩)| (go_at_call 82;refine Calls.mono CN.out ?_;rintro e w' ⟨rfl,rfl⟩)| (go_at_call 87;refine Calls.mono CR.out ?_;rintro e w2 ⟨rfl,hb2⟩))
     go_ret2;refine⟨_,by rw[G2.out];rfl,?_,HB.out.trans (hb2.mono (by have:=HB.out.size;have:=Xy.out;omega))⟩;rw[G3.out];exact Own.nil
   ·have hs1:(0:Int)< (s.size:Int):=by omega
    have C1:Hid _:=nR rb s 0 wr HR.out;obtain⟨k1,k2⟩:=Qz s hs0;obtain⟨T1,hT1⟩:∃T1,a8 s 0=T1:=⟨_,rfl⟩;rw[hT1]at C1 k1 k2;obtain⟨kk,s1,e1⟩:=T1
    (try dsimp only at k1 k2)
    obtain⟨T2,QC⟩:∃T2,a8 s1 e1=T2:=⟨_,rfl⟩;rw[QC]at k1 k2;obtain⟨vv,s2,e2⟩:=T2
    (try dsimp only at k1 k2)
    have HD2:Hid (LX S s2 e2 (out++[(kk,vv)])):=HD.out.next hs0 k2;have TT:Hid (a8 s1 e1=(vv,s2,e2)):=QC;clear hT1 QC k2 HD
    go_upto_region 5 with(first| (go_at_call 110;refine Calls.mono CE.out ?_;rintro e w' ⟨rfl,rfl⟩)| (go_at_call 111;refine Calls.mono CL.out ?_;rintro e w' ⟨rfl,rfl⟩)| (go_at_call 220;refine Calls.mono C1.out ?_;rintro e w2 ⟨rfl,hr2,ho2⟩))
    (try dsimp only at hr2)
    have C2:Hid _:=nR rb s1 e1 w2 hr2;rw[TT.out]at C2;have O2:Hid (Only rb wr w2):=ho2;clear hr2 ho2 C1 CE CL
    go_upto_region 6 with(go_at_call 220;refine Calls.mono C2.out ?_;rintro e w3 ⟨rfl,hr3,ho3⟩)
    (try dsimp only at hr3)
    have O3:Only rb wr w3:=O2.out.trans ho3;have Z3:Aside (fI (rb+1) w3 (.slice dJ n' c') out):=HO.out.only O3 (Nat.lt_succ_self _);have B3:Hid (Below rb w w3):=HB.out.trans (O3.below (Nat.le_refl _));have R3:Hid (Rd rb s2 e2 w3):=hr3;clear hr3 ho3 O3 C2 O2 HO HB HR TT;have hlt:=R3.out.lt;obtain⟨o2,ho2⟩:∃o2,out++[(kk,vv)]=o2:=⟨_,rfl⟩;have l2:o2.length=out.length+1:=by rw[<-ho2];simp
    have E2:Hid (out++[(kk,vv)]=o2):=ho2;rw[ho2]at HD2;clear ho2;have B4:Hid (Below (rb+1) w3 (w3.alloc (.cells #[.string kk,.string vv] 49))):=(Below.refl _ w3).alloc (by omega) _;have O4:Aside (fI (rb+1) (w3.alloc (.cells #[.string kk,.string vv] 49)) (.slice dJ n' c') out):=Z3.out.below ((Below.refl _ w3).alloc (Nat.le_refl _) _);have K4:Hid (Row aG 2 (w3.alloc (.cells #[.string kk,.string vv] 49)) (.slice (some ⟨w3.heap.size,0,none⟩) 1 1) [(kk,vv)]):=(Cl.new w3 #[.string kk,.string vv] 49).row;have hs4:rb+1<=(w3.alloc (.cells #[.string kk,.string vv] 49)).heap.size:=by simp;omega
    clear Z3
    go_wp2_with (at_builtin;refine Gj rfl _ _ rfl (rb+1) _ out rfl O4.out _ [(kk,vv)] rfl K4.out (by simp;omega) hs4 o2 E2.out ?_)
    intro a5 n5 c5 w5 P5 Q5;have O6:Aside (fI (rb+1) w5 (.slice a5 n5 c5) o2):=P5;have B6:Below (rb+1) w3 w5:=Q5 _ B4.out;have R6:Hid (Rd rb s2 e2 w5):=R3.out.below B6 (Nat.lt_succ_self _);have B7:Hid (Below rb w w5):=B3.out.trans (B6.mono (Nat.le_succ _));clear P5 Q5 B6 O4 K4 B4 hs4 E2 R3 B3;go_wp2
    go_roundg s2.size
    case measure=>omega
    case rel=>exact⟨a5,n5,c5,o2,s2,e2,rfl,by omega,by omega,R6,HD2,O6,B7⟩
  ·have CN:Hid _:=mq rb s e wr HR.out;have en:eO s e=e:=by simp[eO,he]
   rw[en]at CN;obtain⟨g1,g2⟩:=HD.out.bad he;have G1:Hid _:=g1;have G2:Hid _:=g2;have e1:(e==0)=false:=beq_eq_false_iff_ne.2 he;have e2:(e != 0)=true:=by rw[bne_iff_ne];exact he
   clear g1 g2 en HD he
   go_wp2_with (first| (go_at_call 110;refine Calls.mono CE.out ?_;rintro e w' ⟨rfl,rfl⟩)| (go_at_call 82;refine Calls.mono CN.out ?_;rintro e w' ⟨rfl,rfl⟩))
   go_ret2;refine⟨_,by rw[G2.out];rfl,?_,HB.out⟩;rw[G1.out];exact Own.nil
end
section
end
section
end
end N
end Go.Proofs.YtdcpfbidcpfboaaGreatDoor
