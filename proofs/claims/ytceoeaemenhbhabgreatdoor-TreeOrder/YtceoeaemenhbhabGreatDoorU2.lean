/- Walks of the package cowtree and of what it stands on: lemmas, made short. -/
import Derived.Sort.Statements
import Derived.Lib.Small
import Derived.Shelf.SlSortCmp.KitK
import Derived.Shelf.SlSortCmp.QuietGrown
import Derived.Lib.SliceRun
import Derived.Laws.AppendOwnNone
import Derived.WalkKit
import Derived.WalkSpells
import Derived.WalkLawsBesides
import Derived.Deep.RegionHeld3
import Derived.Test.YtceoeaemenhbhabGreatDoorProg
import Derived.Test.YtceoeaemenhbhabGreatDoorU1
import Derived.BigQuiet
import Derived.Deep.DeepCutAuto
set_option maxHeartbeats 16000000
set_option maxRecDepth 100000
set_option linter.unusedVariables false
set_option linter.unusedSimpArgs false
namespace Go.Proofs.YtceoeaemenhbhabGreatDoor
open Go.Shelf Go.RowKit Go.Lib Go.Sort
section
section
abbrev Pr:=Int×Int
def dh (l:List Pr)(n:Int):Prop:=0<=n∧n<=4294967295∧∃r∈l,r.1<=n∧n<=r.2
def Qm (n:Int)(r:Pr):Bool:=decide (r.1<=n)&&decide (n<=r.2)
def hasB (l:List Pr)(n:Int):Bool:=(decide (0<=n)&&decide (n<=4294967295))&&l.any (Qm n)
theorem eR (l:List Pr)(n:Int):hasB l n=true↔dh l n:=by
 unfold hasB dh Qm;simp only[Bool.and_eq_true,decide_eq_true_eq,List.any_eq_true];constructor
 ·rintro⟨⟨h1,h2⟩,h3⟩;exact⟨h1,h2,h3⟩
 ·rintro⟨h1,h2,h3⟩;exact⟨⟨h1,h2⟩,h3⟩
theorem Ga {l:List Pr}{n:Int}(h:dh l n):hasB l n=true:=(eR l n).2 h
theorem jl {l:List Pr}{n:Int}(h:¬dh l n):hasB l n=false:=by
 cases e:hasB l n with
 |false=>rfl
 |true=>exact absurd ((eR l n).1 e) h
theorem pC {l:List Pr}{n:Int}{b:Bool}(h:dh l n↔b=true):hasB l n=b:=by
 cases b with
 |true=>exact Ga (h.2 rfl)
 |false=>exact jl fun k=>by have:=h.1 k;cases this
def Cn (l:List Pr):Prop:=(∀r∈l,0<=r.1∧r.1<=r.2∧r.2<=4294967295)∧l.Pairwise fun r s=>r.2+1<s.1
theorem Cn.nil:Cn []:=⟨fun _ h=>by simp at h,List.Pairwise.nil⟩
theorem bB {r:Pr}{l:List Pr}:Cn (r::l)↔(0<=r.1∧r.1<=r.2∧r.2<=4294967295)∧(∀s∈l,r.2+1<s.1)∧Cn l:=by
 unfold Cn;rw[List.pairwise_cons];constructor
 ·rintro⟨h1,h2,h3⟩;exact⟨h1 r (by simp),h2,fun s hs=>h1 s (by simp[hs]),h3⟩
 ·rintro⟨h1,h2,h3,h4⟩;refine⟨fun s hs=>?_,h2,h4⟩;rcases List.mem_cons.1 hs with rfl|hs
  ·exact h1
  ·exact h3 s hs
theorem ke {r:Pr}{l:List Pr}:Cn (l++[r])↔Cn l∧(∀s∈l,s.2+1<r.1)∧(0<=r.1∧r.1<=r.2∧r.2<=4294967295):=by
 unfold Cn;rw[List.pairwise_append];constructor
 ·rintro⟨h1,h2,_,h4⟩;exact⟨⟨fun s hs=>h1 s (by simp[hs]),h2⟩,fun s hs=>h4 s hs r (by simp),h1 r (by simp)⟩
 ·rintro⟨⟨h1,h2⟩,h3,h4⟩;refine⟨fun s hs=>?_,h2,by simp,fun s hs t ht=>?_⟩
  ·rcases List.mem_append.1 hs with hs|hs
   ·exact h1 s hs
   ·rw[List.mem_singleton.1 hs];exact h4
  ·rw[List.mem_singleton.1 ht];exact h3 s hs
theorem dx (n:Int):¬dh [] n:=fun⟨_,_,r,h,_⟩=>by simp at h
theorem aR (r:Pr)(l:List Pr)(n:Int):dh (r::l) n↔(0<=n∧n<=4294967295∧r.1<=n∧n<=r.2)∨dh l n:=by
 unfold dh;constructor
 ·rintro⟨h1,h2,s,hs,h3,h4⟩;rcases List.mem_cons.1 hs with rfl|hs
  ·exact Or.inl ⟨h1,h2,h3,h4⟩
  ·exact Or.inr ⟨h1,h2,s,hs,h3,h4⟩
 ·rintro(⟨h1,h2,h3,h4⟩| ⟨h1,h2,s,hs,h3,h4⟩)
  ·exact⟨h1,h2,r,by simp,h3,h4⟩
  ·exact⟨h1,h2,s,by simp[hs],h3,h4⟩
theorem et (l m:List Pr)(n:Int):dh (l++m) n↔dh l n∨dh m n:=by
 induction l with
 |nil=>simp[dx]
 |cons r l ih=>rw[List.cons_append,aR,aR,ih];exact or_assoc.symm
theorem eI (r:Pr)(n:Int):dh [r] n↔0<=n∧n<=4294967295∧r.1<=n∧n<=r.2:=by
 rw[aR];simp[dx]
theorem Cn.e8 {r:Pr}{l:List Pr}(h:Cn (r::l)){n:Int}(hn:dh l n):r.2+1<n:=by
 obtain⟨_,h2,_⟩:=bB.1 h;obtain⟨_,_,s,hs,h3,_⟩:=hn;have:=h2 s hs;omega
theorem Cn.vd {r:Pr}{l:List Pr}(h:Cn (r::l)){n:Int}(hn:dh (r::l) n):r.1<=n:=by
 obtain⟨h1,_,_⟩:=bB.1 h;rcases(aR r l n).1 hn with h2|h2
 ·omega
 ·have:=h.e8 h2;omega
theorem Cn.dQ {r:Pr}{l:List Pr}(h:Cn (r::l)){n:Int}(h1:r.1<=n)(h2:n<=r.2):dh (r::l) n:=by
 obtain⟨h3,_,_⟩:=bB.1 h;exact(aR r l n).2 (Or.inl ⟨by omega,by omega,h1,h2⟩)
theorem Cn.Bv {r:Pr}{l:List Pr}(h:Cn (r::l))(n:Int):dh l n↔dh (r::l) n∧r.2<n:=by
 constructor
 ·intro hn;have:=h.e8 hn;exact⟨(aR r l n).2 (Or.inr hn),by omega⟩
 ·rintro⟨h1,h2⟩;rcases(aR r l n).1 h1 with h3|h3
  ·omega
  ·exact h3
theorem qX:∀(l m:List Pr),Cn l->Cn m->(∀n,dh l n↔dh m n)->l=m
 |[],[],_,_,_=>rfl
 |[],s::m,_,hm,h=>by
  obtain⟨h1,_,_⟩:=bB.1 hm;exact absurd ((h s.1).2 (hm.dQ (Int.le_refl _) (by omega))) (dx _)
 |r::l,[],hl,_,h=>by
  obtain⟨h1,_,_⟩:=bB.1 hl;exact absurd ((h r.1).1 (hl.dQ (Int.le_refl _) (by omega))) (dx _)
 |r::l,s::m,hl,hm,h=>by
  have hr:=(bB.1 hl).1;have hs:=(bB.1 hm).1;have e1:r.1=s.1:=by
   have a:=hm.vd ((h r.1).1 (hl.dQ (Int.le_refl _) (by omega)));have b:=hl.vd ((h s.1).2 (hm.dQ (Int.le_refl _) (by omega)));omega
  have e2:r.2=s.2:=by
   rcases Int.lt_trichotomy r.2 s.2 with c|c|c
   ·have a:=(h (r.2+1)).2 (hm.dQ (by omega) (by omega));rcases(aR r l _).1 a with a|a
    ·omega
    ·have:=hl.e8 a;omega
   ·exact c
   ·have a:=(h (s.2+1)).1 (hl.dQ (by omega) (by omega));rcases(aR s m _).1 a with a|a
    ·omega
    ·have:=hm.e8 a;omega
  have e:r=s:=by
   obtain⟨a,b⟩:=r;obtain⟨c,d⟩:=s;rw[Prod.mk.injEq];exact⟨e1,e2⟩
  subst e;rw[qX l m (bB.1 hl).2.2 (bB.1 hm).2.2 fun n=>by rw[hl.Bv,hm.Bv,h n]]
def cG (r:Pr):Pr:=(max r.1 0,min r.2 4294967295)
def gj (r:Pr)(done:Bool):List Pr->List Pr
 |[]=>if done then []else [r]
 |y::l=>
  if y.2+1<r.1 then y::gj r done l
  else if r.2+1<y.1 then(if done then y::gj r done l else r::y::gj r true l)
  else gj (min r.1 y.1,max r.2 y.2) done l
def jm (l:List Pr)(x:Pr):List Pr:=if(cG x).1<=(cG x).2 then gj (cG x) false l else l
def oz (l:List Pr):List Pr:=l.foldl jm []
def Bw (a b:List Pr):List Pr:=oz (a++b)
def Ue (out:List Pr)(r:Pr):List Pr:=out.foldl (fun nx y=>jm (jm nx (y.1,min y.2 (r.1-1))) (max y.1 (r.2+1),y.2)) []
def DV (out:List Pr)(x:Pr):List Pr:=if(cG x).1<=(cG x).2 then Ue out (cG x)else out
def Qn (a b:List Pr):List Pr:=b.foldl DV (oz a)
def uf (a b:List Pr):List Pr:=Qn a (Qn a b)
def jn (s:List Pr):Int:=s.foldl (fun n r=>n+r.2-r.1+1) 0
theorem kU:∀(l:List Pr) (r:Pr),r.1<=r.2->Cn l->(∀y∈l,r.2+1<y.1)->gj r true l=l
 |[],_,_,_,_=>rfl
 |y::l,r,hr,hl,h=>by
  have h1:=h y (by simp);obtain⟨h2,_,h4⟩:=bB.1 hl;rw[gj,if_neg (by omega),if_pos h1,if_pos rfl,kU l r hr h4 fun z hz=>h z (by simp[hz])]
theorem qY:∀(l:List Pr) (r:Pr) (z:Pr),r.1<=r.2->Cn l->z∈gj r false l->r.1<=z.1∨∃y∈l,y.1<=z.1
 |[],r,z,_,_,hz=>by
  simp[gj]at hz;rw[hz];exact Or.inl (Int.le_refl _)
 |y::l,r,z,hr,hl,hz=>by
  obtain⟨h2,h3,h4⟩:=bB.1 hl;rw[gj]at hz;split at hz
  ·rcases List.mem_cons.1 hz with rfl|hz
   ·exact Or.inr ⟨z,by simp,Int.le_refl _⟩
   ·rcases qY l r z hr h4 hz with h| ⟨s,hs,h⟩
    ·exact Or.inl h
    ·exact Or.inr ⟨s,by simp[hs],h⟩
  ·split at hz
   ·rw[if_neg (by simp),kU l r hr h4 fun s hs=>by have:=h3 s hs;omega]at hz;rcases List.mem_cons.1 hz with rfl|hz
    ·exact Or.inl (Int.le_refl _)
    ·exact Or.inr ⟨z,hz,Int.le_refl _⟩
   ·rcases qY l _ z (by simp only;omega) h4 hz with h| ⟨s,hs,h⟩
    ·simp only at h;rcases Int.le_total r.1 y.1 with c|c
     ·exact Or.inl (by omega)
     ·exact Or.inr ⟨y,by simp,by omega⟩
    ·exact Or.inr ⟨s,by simp[hs],h⟩
theorem qZ:∀(l:List Pr) (r:Pr),0<=r.1->r.1<=r.2->r.2<=4294967295->Cn l->Cn (gj r false l)∧∀n,dh (gj r false l) n↔dh (r::l) n
 |[],r,h0,hr,h1,_=>by
  refine⟨?_,fun n=>Iff.rfl⟩;show Cn [r];exact bB.2 ⟨⟨h0,hr,h1⟩,fun _ h=>by simp at h,Cn.nil⟩
 |y::l,r,h0,hr,h1,hl=>by
  obtain⟨h2,h3,h4⟩:=bB.1 hl;rw[gj];split
  ·obtain⟨c1,c2⟩:=qZ l r h0 hr h1 h4;refine⟨bB.2 ⟨h2,fun s hs=>?_,c1⟩,fun n=>?_⟩
   ·rcases qY l r s hr h4 hs with h| ⟨t,ht,h⟩
    ·omega
    ·have:=h3 t ht;omega
   ·rw[aR,c2 n,aR,aR,aR];constructor
    ·rintro(h|h|h)
     ·exact Or.inr (Or.inl h)
     ·exact Or.inl h
     ·exact Or.inr (Or.inr h)
    ·rintro(h|h|h)
     ·exact Or.inr (Or.inl h)
     ·exact Or.inl h
     ·exact Or.inr (Or.inr h)
  ·split
   ·rw[if_neg (by simp),kU l r hr h4 fun s hs=>by have:=h3 s hs;omega];refine⟨bB.2 ⟨⟨h0,hr,h1⟩,fun s hs=>?_,hl⟩,fun n=>Iff.rfl⟩;rcases List.mem_cons.1 hs with rfl|hs
    ·assumption
    ·have:=h3 s hs;omega
   ·obtain⟨c1,c2⟩:=qZ l (min r.1 y.1,max r.2 y.2) (by simp only;omega) (by simp only;omega) (by simp only;omega) h4;refine⟨c1,fun n=>?_⟩;rw[c2 n,aR,aR,aR];simp only;constructor
    ·rintro(h|h)
     ·by_cases k:r.1<=n∧n<=r.2
      ·exact Or.inl ⟨h.1,h.2.1,k.1,k.2⟩
      ·exact Or.inr (Or.inl (by omega))
     ·exact Or.inr (Or.inr h)
    ·rintro(h|h|h)
     ·exact Or.inl (by omega)
     ·exact Or.inl (by omega)
     ·exact Or.inr h
theorem fD:∀(l:List Pr) (r:Pr) (d:Bool),(gj r d l).length<=l.length+(if d then 0 else 1)
 |[],r,d=>by cases d<;>simp[gj]
 |y::l,r,d=>by
  rw[gj];split
  ·have:=fD l r d;simp only[List.length_cons];omega
  ·split
   ·cases d with
    |true=>have:=fD l r true;simp at*;omega
    |false=>have:=fD l r true;simp at*;omega
   ·have:=fD l (min r.1 y.1,max r.2 y.2) d;simp only[List.length_cons];omega
theorem Gc (x:Pr)(l:List Pr)(n:Int):dh (cG x::l) n↔dh (x::l) n:=by
 rw[aR,aR];simp only[cG];constructor
 ·rintro(h|h)
  ·exact Or.inl (by omega)
  ·exact Or.inr h
 ·rintro(h|h)
  ·exact Or.inl (by omega)
  ·exact Or.inr h
theorem vg (l:List Pr)(x:Pr)(h:Cn l):Cn (jm l x)∧∀n,dh (jm l x) n↔dh (x::l) n:=by
 unfold jm;by_cases c:(cG x).1<=(cG x).2
 ·rw[if_pos c];obtain⟨c1,c2⟩:=qZ l (cG x) (by simp only[cG];omega) c (by simp only[cG];omega) h;exact⟨c1,fun n=>by rw[c2 n,Gc]⟩
 ·rw[if_neg c];refine⟨h,fun n=>?_⟩;rw[aR];constructor
  ·exact Or.inr
  ·rintro(k|k)
   ·simp only[cG]at c;omega
   ·exact k
theorem jJ (l:List Pr)(x:Pr):(jm l x).length<=l.length+1:=by
 unfold jm;split
 ·exact fD l _ false
 ·omega
theorem ib:∀(l m:List Pr),Cn m->Cn (l.foldl jm m)∧(∀n,dh (l.foldl jm m) n↔dh l n∨dh m n)∧(l.foldl jm m).length<=m.length+l.length
 |[],m,h=>⟨h,fun n=>by simp[dx],by simp⟩
 |x::l,m,h=>by
  obtain⟨c1,c2⟩:=vg m x h;obtain⟨d1,d2,d3⟩:=ib l (jm m x) c1;refine⟨d1,fun n=>?_,?_⟩
  ·rw[List.foldl_cons,d2 n,c2 n,aR,aR];constructor
   ·rintro(k|k|k)
    ·exact Or.inl (Or.inr k)
    ·exact Or.inl (Or.inl k)
    ·exact Or.inr k
   ·rintro((k|k)|k)
    ·exact Or.inr (Or.inl k)
    ·exact Or.inl k
    ·exact Or.inr (Or.inr k)
  ·have:=jJ m x;rw[List.foldl_cons,List.length_cons];omega
theorem jK (l:List Pr):Cn (oz l):=(ib l [] Cn.nil).1
theorem kV (l:List Pr)(n:Int):dh (oz l) n↔dh l n:=by
 rw[oz,(ib l [] Cn.nil).2.1 n];simp[dx]
theorem rf (l:List Pr):(oz l).length<=l.length:=by
 have:=(ib l [] Cn.nil).2.2;rw[oz];simpa using this
theorem Gd {s l:List Pr}(h:Cn s)(k:∀n,dh s n↔dh l n):s=oz l:=qX _ _ h (jK l) fun n=>by rw[k n,kV]
theorem ug {s:List Pr}(h:Cn s):oz s=s:=(Gd h fun _=>Iff.rfl).symm
theorem xA:∀(l m:List Pr) (r:Pr),0<=r.1->r.2<=4294967295->r.1<=r.2->Cn m->(∀y∈l,0<=y.1∧y.1<=y.2∧y.2<=4294967295)->
    Cn (l.foldl (fun nx y=>jm (jm nx (y.1,min y.2 (r.1-1))) (max y.1 (r.2+1),y.2)) m)∧(∀n,dh (l.foldl (fun nx y=>jm (jm nx (y.1,min y.2 (r.1-1))) (max y.1 (r.2+1),y.2)) m) n↔(dh l n∧¬(r.1<=n∧n<=r.2))∨dh m n)∧
    (l.foldl (fun nx y=>jm (jm nx (y.1,min y.2 (r.1-1))) (max y.1 (r.2+1),y.2)) m).length<=m.length+2*l.length
  | [],m,_,_,_,_,hm,_=>⟨hm,fun n=>by simp[dx],by simp⟩
  | y::l,m,r,h0,h1,h2,hm,hy=>by
    obtain⟨c1,c2⟩:=vg m (y.1,min y.2 (r.1-1)) hm;obtain⟨d1,d2⟩:=vg _ (max y.1 (r.2+1),y.2) c1;obtain⟨e1,e2,e3⟩:=xA l _ r h0 h1 h2 d1 fun z hz=>hy z (by simp[hz]);refine⟨e1,fun n=>?_,?_⟩
    · rw[List.foldl_cons,e2 n,d2 n,aR,c2 n,aR,aR];simp only;constructor
      · rintro(⟨k1,k2⟩|k|k|k)
        · exact Or.inl ⟨Or.inr k1,k2⟩
        · exact Or.inl ⟨Or.inl (by omega),by omega⟩
        · exact Or.inl ⟨Or.inl (by omega),by omega⟩
        · exact Or.inr k
      · rintro(⟨k1|k1,k2⟩|k)
        · by_cases c:n<r.1
          · exact Or.inr (Or.inr (Or.inl (by omega)))
          · exact Or.inr (Or.inl (by omega))
        · exact Or.inl ⟨k1,k2⟩
        · exact Or.inr (Or.inr (Or.inr k))
    · have a:=jJ m (y.1,min y.2 (r.1-1));have b:=jJ (jm m (y.1,min y.2 (r.1-1))) (max y.1 (r.2+1),y.2);rw[List.foldl_cons,List.length_cons];omega
theorem LV (out:List Pr)(x:Pr)(h:Cn out):Cn (DV out x)∧(∀n,dh (DV out x) n↔dh out n∧¬dh [x] n):=by
 unfold DV Ue;by_cases c:(cG x).1<=(cG x).2
 ·rw[if_pos c];obtain⟨c1,c2,_⟩:=xA out [] (cG x) (by simp only[cG];omega) (by simp only[cG];omega) c Cn.nil h.1;refine⟨c1,fun n=>?_⟩;rw[c2 n,eI];constructor
  ·rintro(⟨k1,k2⟩|k)
   ·refine⟨k1,fun k3=>k2 ?_⟩;simp only[cG];omega
   ·exact absurd k (dx _)
  ·rintro⟨k1,k2⟩;refine Or.inl ⟨k1,fun k3=>k2 ?_⟩;simp only[cG]at k3;have:=k1.1;have:=k1.2.1;omega
 ·rw[if_neg c];refine⟨h,fun n=>⟨fun k=>⟨k,fun k2=>?_⟩,fun k=>k.1⟩⟩;rw[eI]at k2;simp only[cG]at c;omega
theorem vh:∀(b m:List Pr),Cn m->Cn (b.foldl DV m)∧∀n,dh (b.foldl DV m) n↔dh m n∧¬dh b n
 |[],m,h=>⟨h,fun n=>by simp[dx]⟩
 |x::b,m,h=>by
  obtain⟨c1,c2⟩:=LV m x h;obtain⟨d1,d2⟩:=vh b _ c1;refine⟨d1,fun n=>?_⟩;rw[List.foldl_cons,d2 n,c2 n,eI,aR];constructor
  ·rintro⟨⟨k1,k2⟩,k3⟩;exact⟨k1,fun k=>k.elim k2 k3⟩
  ·rintro⟨k1,k2⟩;exact⟨⟨k1,fun k=>k2 (Or.inl k)⟩,fun k=>k2 (Or.inr k)⟩
theorem Ge (a b:List Pr):Cn (Qn a b):=(vh b _ (jK a)).1
theorem zY (a b:List Pr)(n:Int):dh (Qn a b) n↔dh a n∧¬dh b n:=by rw[Qn,(vh b _ (jK a)).2 n,kV]
theorem nu (a b:List Pr):Cn (uf a b):=Ge _ _
theorem nw (a b:List Pr)(n:Int):dh (uf a b) n↔dh a n∧dh b n:=by
 rw[uf,zY,zY];constructor
 ·rintro⟨h1,h2⟩;refine⟨h1,?_⟩;by_cases c:dh b n
  ·exact c
  ·exact absurd ⟨h1,c⟩ h2
 ·rintro⟨h1,h2⟩;exact⟨h1,fun h=>h.2 h2⟩
theorem Gf (a b:List Pr):Cn (Bw a b):=jK _
theorem vn (a b:List Pr)(n:Int):dh (Bw a b) n↔dh a n∨dh b n:=by rw[Bw,kV,et]
theorem Qo {s a b:List Pr}(h:Cn s)(k:∀n,dh s n↔dh a n∧¬dh b n):s=Qn a b:=qX _ _ h (Ge a b) fun n=>by rw[k n,zY]
theorem Gg {s a b:List Pr}(h:Cn s)(k:∀n,dh s n↔dh a n∧dh b n):s=uf a b:=qX _ _ h (nu a b) fun n=>by rw[k n,nw]
end
section
def jo (l:List Pr):List Pr:=(l.map cG).filter fun r=>decide (r.1<=r.2)
theorem LW (l:List Pr):∀r∈jo l,0<=r.1∧r.1<=r.2∧r.2<=4294967295:=fun r hr=>by
 obtain⟨h1,h2⟩:=List.mem_filter.1 hr;obtain⟨x,_,rfl⟩:=List.mem_map.1 h1;rw[decide_eq_true_eq]at h2;simp only[cG]at*;omega
theorem LX (l:List Pr)(n:Int):dh (jo l) n↔dh l n:=by
 constructor
 ·rintro⟨h1,h2,r,hr,h3,h4⟩;obtain⟨hm,_⟩:=List.mem_filter.1 hr;obtain⟨x,hx,rfl⟩:=List.mem_map.1 hm;simp only[cG]at h3 h4;exact⟨h1,h2,x,hx,by omega,by omega⟩
 ·rintro⟨h1,h2,r,hr,h3,h4⟩;refine⟨h1,h2,cG r,List.mem_filter.2 ⟨List.mem_map.2 ⟨r,hr,rfl⟩,?_⟩,?_,?_⟩
  ·rw[decide_eq_true_eq];simp only[cG];omega
  ·simp only[cG];omega
  ·simp only[cG];omega
theorem jL (l:List Pr):(jo l).length<=l.length:=by
 have:=List.length_filter_le (fun r=>decide (r.1<=r.2)) (l.map cG);rw[List.length_map]at this;exact this
theorem tD (l:List Pr)(x:Pr)(h:(cG x).1<=(cG x).2):jo (l++[x])=jo l++[cG x]:=by
 unfold jo;rw[List.map_append,List.filter_append];simp[h]
theorem vp (l:List Pr)(x:Pr)(h:¬(cG x).1<=(cG x).2):jo (l++[x])=jo l:=by
 unfold jo;rw[List.map_append,List.filter_append];simp[h]
theorem Gh {l m:List Pr}(h:∀x,x∈l↔x∈m)(n:Int):dh l n↔dh m n:=by
 constructor
 ·rintro⟨h1,h2,r,hr,h3⟩;exact⟨h1,h2,r,(h r).1 hr,h3⟩
 ·rintro⟨h1,h2,r,hr,h3⟩;exact⟨h1,h2,r,(h r).2 hr,h3⟩
def OW (t:List Pr):Prop:=(∀r∈t,0<=r.1∧r.1<=r.2∧r.2<=4294967295)∧t.Pairwise fun r s=>r.1<=s.1
structure jM (done rest set:List Pr):Prop where
 cn:Cn set
 same:∀n,dh set n↔dh done n
 le:∀r∈set,∀x∈rest,r.1<=x.1
 len:set.length<=done.length
theorem jM.start (t:List Pr):jM [] t []:=⟨Cn.nil,fun _=>Iff.rfl,fun _ h=>by simp at h,Nat.le_refl _⟩
theorem jM.join {done rest pre:List Pr}{a b:Int}{x:Pr}(h:jM done (x::rest) (pre++[(a,b)]))(ht:OW (x::rest))(h2:x.1<=b+1):jM (done++[x]) rest (pre++[(a,max b x.2)]):=by
 obtain⟨c1,c2,c3⟩:=ke.1 h.cn;simp only at c2 c3;have hx:=ht.1 x (by simp);have hax:a<=x.1:=h.le (a,b) (by simp) x (by simp);refine⟨ke.2 ⟨c1,c2,by simp only;omega⟩,fun n=>?_,fun r hr y hy=>?_,?_⟩
 ·rw[et done,<-h.same n,et,et,eI,eI,eI];simp only;constructor
  ·rintro(k|k)
   ·exact Or.inl (Or.inl k)
   ·by_cases c:n<=b
    ·exact Or.inl (Or.inr (by omega))
    ·exact Or.inr (by omega)
  ·rintro((k|k)|k)
   ·exact Or.inl k
   ·exact Or.inr (by omega)
   ·exact Or.inr (by omega)
 ·rcases List.mem_append.1 hr with hr|hr
  ·exact h.le r (by simp[hr]) y (by simp[hy])
  ·rw[List.mem_singleton.1 hr];exact h.le (a,b) (by simp) y (by simp[hy])
 ·have:=h.len;simp only[List.length_append,List.length_cons,List.length_nil]at*;omega
theorem jM.add {done rest set:List Pr}{x:Pr}(h:jM done (x::rest) set)(ht:OW (x::rest))(h2:∀r∈set,r.2+1<x.1):jM (done++[x]) rest (set++[x]):=by
 refine⟨ke.2 ⟨h.cn,h2,ht.1 x (by simp)⟩,fun n=>?_,fun r hr y hy=>?_,?_⟩
 ·rw[et,et,h.same n]
 ·rcases List.mem_append.1 hr with hr|hr
  ·exact h.le r hr y (by simp[hy])
  ·rw[List.mem_singleton.1 hr];exact(List.pairwise_cons.1 ht.2).1 y hy
 ·have:=h.len;simp only[List.length_append,List.length_cons,List.length_nil]at*;omega
theorem Cn.LY {pre:List Pr}{r:Pr}(h:Cn (pre++[r])){m:Int}(hm:r.2+1<m):∀s∈pre++[r],s.2+1<m:=fun s hs=>by
 obtain⟨_,c2,c3⟩:=ke.1 h;rcases List.mem_append.1 hs with hs|hs
 ·have:=c2 s hs;omega
 ·rw[List.mem_singleton.1 hs];exact hm
def mr (x y:Pr):List Pr:=if max x.1 y.1<=min x.2 y.2 then [(max x.1 y.1,min x.2 y.2)]else []
structure jN (a b a' b' both:List Pr):Prop where
 ca:Cn a'
 cb:Cn b'
 cn:Cn both
 same:∀n,(dh a n∧dh b n)↔dh both n∨(dh a' n∧dh b' n)
 lt:∀r∈both,∀n,dh a' n->dh b' n->r.2+1<n
 len:both.length+a'.length+b'.length<=a.length+b.length
theorem jN.start {a b:List Pr}(ha:Cn a)(hb:Cn b):jN a b a b []:=⟨ha,hb,Cn.nil,fun n=>by simp[dx],fun _ h=>by simp at h,by simp⟩
theorem Gi (x y:Pr)(n:Int):dh (mr x y) n↔0<=n∧n<=4294967295∧x.1<=n∧n<=x.2∧y.1<=n∧n<=y.2:=by
 unfold mr;split
 ·rw[eI];simp only;omega
 ·constructor
  ·intro h;exact absurd h (dx n)
  ·intro h;omega
theorem OY {both:List Pr}{x y:Pr}(h:Cn both)(hx:0<=x.1∧x.1<=x.2∧x.2<=4294967295)(hy:0<=y.1∧y.1<=y.2∧y.2<=4294967295)(hlt:∀r∈both,∀n,x.1<=n->n<=x.2->y.1<=n->n<=y.2->r.2+1<n):Cn (both++mr x y):=by
 unfold mr;split
 ·refine ke.2 ⟨h,fun s hs=>?_,by simp only;omega⟩;exact hlt s hs (max x.1 y.1) (by omega) (by omega) (by omega) (by omega)
 ·rw[List.append_nil];exact h
theorem Gj {x y r:Pr}(h:r∈mr x y):r.2=min x.2 y.2:=by
 unfold mr at h;split at h
 ·rw[List.mem_singleton.1 h]
 ·simp at h
theorem uh (x y:Pr):(mr x y).length<=1:=by unfold mr;split<;>simp
theorem jN.left {a b a' b' both:List Pr}{x y:Pr}(h:jN a b (x::a') (y::b') both)(hl:x.2<y.2):jN a b a' (y::b') (both++mr x y):=by
 obtain⟨a1,a2,a3⟩:=bB.1 h.ca;obtain⟨b1,b2,b3⟩:=bB.1 h.cb;refine⟨a3,h.cb,OY h.cn a1 b1 fun r hr n k1 k2 k3 k4=>h.lt r hr n (h.ca.dQ k1 k2) (h.cb.dQ k3 k4),fun n=>?_,fun r hr n k1 k2=>?_,?_⟩
 ·rw[h.same n,et,Gi,aR x a' n,aR y b' n];constructor
  ·rintro(k| ⟨k1|k1,k2|k2⟩)
   ·exact Or.inl (Or.inl k)
   ·exact Or.inl (Or.inr (by omega))
   ·have:=h.cb.e8 k2;omega
   ·exact Or.inr ⟨k1,Or.inl k2⟩
   ·exact Or.inr ⟨k1,Or.inr k2⟩
  ·rintro((k|k)| ⟨k1,k2⟩)
   ·exact Or.inl k
   ·exact Or.inr ⟨Or.inl (by omega),Or.inl (by omega)⟩
   ·exact Or.inr ⟨Or.inr k1,k2⟩
 ·rcases List.mem_append.1 hr with hr|hr
  ·exact h.lt r hr n ((aR x a' n).2 (Or.inr k1)) k2
  ·have e:=Gj hr;have:=h.ca.e8 k1;omega
 ·have:=h.len;have:=uh x y;simp only[List.length_append,List.length_cons]at*;omega
theorem jN.right {a b a' b' both:List Pr}{x y:Pr}(h:jN a b (x::a') (y::b') both)(hl:¬x.2<y.2):jN a b (x::a') b' (both++mr x y):=by
 obtain⟨a1,a2,a3⟩:=bB.1 h.ca;obtain⟨b1,b2,b3⟩:=bB.1 h.cb;refine⟨h.ca,b3,OY h.cn a1 b1 fun r hr n k1 k2 k3 k4=>h.lt r hr n (h.ca.dQ k1 k2) (h.cb.dQ k3 k4),fun n=>?_,fun r hr n k1 k2=>?_,?_⟩
 ·rw[h.same n,et,Gi,aR x a' n,aR y b' n];constructor
  ·rintro(k| ⟨k1|k1,k2|k2⟩)
   ·exact Or.inl (Or.inl k)
   ·exact Or.inl (Or.inr (by omega))
   ·exact Or.inr ⟨Or.inl k1,k2⟩
   ·have:=h.ca.e8 k1;omega
   ·exact Or.inr ⟨Or.inr k1,k2⟩
  ·rintro((k|k)| ⟨k1,k2⟩)
   ·exact Or.inl k
   ·exact Or.inr ⟨Or.inl (by omega),Or.inl (by omega)⟩
   ·exact Or.inr ⟨k1,Or.inr k2⟩
 ·rcases List.mem_append.1 hr with hr|hr
  ·exact h.lt r hr n k1 ((aR y b' n).2 (Or.inr k2))
  ·have e:=Gj hr;have:=h.cb.e8 k2;omega
 ·have:=h.len;have:=uh x y;simp only[List.length_append,List.length_cons]at*;omega
theorem jN.fin {a b a' b' both:List Pr}(h:jN a b a' b' both)(he:a'=[]∨b'=[]):both=uf a b∧both.length<=a.length+b.length:=by
 refine⟨Gg h.cn fun n=>?_,by have:=h.len;omega⟩;rw[h.same n];constructor
 ·exact Or.inl
 ·rintro(k| ⟨k1,k2⟩)
  ·exact k
  ·rcases he with rfl|rfl
   ·exact absurd k1 (dx n)
   ·exact absurd k2 (dx n)
theorem Qp (a b:List Pr):uf (oz a) (oz b)=uf a b:=Gg (nu _ _) fun n=>by rw[nw,kV,kV]
theorem Gk (s:List Pr):∀n:Int,s.foldl (fun n r=>n+r.2-r.1+1) n=n+jn s:=by
 unfold jn
 induction s with
 |nil=>intro n;simp
 |cons r s ih=>intro n;rw[List.foldl_cons,List.foldl_cons,ih,ih (0+r.2-r.1+1)];omega
theorem pD:jn []=0:=rfl
theorem mn (r:Pr)(s:List Pr):jn (r::s)=(r.2-r.1+1)+jn s:=by
 rw[jn,List.foldl_cons,Gk];omega
theorem uj {α:Type}(p q:α->Bool)(l:List α):l.countP (fun x=>p x||q x)+l.countP (fun x=>p x&&q x)=l.countP p+l.countP q:=by
 induction l with
 |nil=>simp
 |cons x l ih=>
  simp only[List.countP_cons];cases p x<;>cases q x<;>simp at* <;>omega
theorem jO (a b:Nat)(hab:a<=b):∀B:Nat,(List.range B).countP (fun k=>decide (a<=k∧k<=b))=min (b+1) B-min a B
 |0=>by simp
 |B+1=>by
  rw[List.range_succ,List.countP_append,jO a b hab B];by_cases c:a<=B∧B<=b
  ·simp[c];omega
  ·simp[c];omega
theorem rh (B:Nat)(hB:(B:Int)=4294967296):∀s:List Pr,Cn s->jn s=((List.range B).countP (fun k:Nat=>hasB s (k:Int)):Nat)
 |[],_=>by simp[pD,hasB]
 |r::s,h=>by
  obtain⟨h1,h2,h3⟩:=bB.1 h;have ih:=rh B hB s h3;have e0:=uj (fun k:Nat=>decide (r.1.toNat<=k∧k<=r.2.toNat)) (fun k:Nat=>hasB s (k:Int)) (List.range B);have e1:=jO r.1.toNat r.2.toNat (by omega) B;have e2:(List.range B).countP (fun k:Nat=>decide (r.1.toNat<=k∧k<=r.2.toNat)&&hasB s (k:Int))=0:=by
   rw[List.countP_eq_zero];intro k _ hk;simp only[Bool.and_eq_true,decide_eq_true_eq,eR]at hk;have:=h.e8 hk.2;omega
  have e3:(List.range B).countP (fun k:Nat=>hasB (r::s) (k:Int))=(List.range B).countP (fun k:Nat=>decide (r.1.toNat<=k∧k<=r.2.toNat)||hasB s (k:Int)):=by
   apply List.countP_congr;intro k hk;have hkB:k<B:=List.mem_range.1 hk;simp only[Bool.or_eq_true,decide_eq_true_eq,eR];rw[aR];constructor
   ·rintro(k1|k1)
    ·exact Or.inl (by omega)
    ·exact Or.inr k1
   ·rintro(k1|k1)
    ·exact Or.inl (by omega)
    ·exact Or.inr k1
  rw[mn,ih,e3];omega
theorem DW (a b:List Pr):jn (Bw a b)+jn (uf a b)=jn (oz a)+jn (oz b):=by
 obtain⟨B,hB⟩:∃B:Nat,(B:Int)=4294967296:=⟨4294967296,rfl⟩;rw[rh B hB _ (Gf a b),rh B hB _ (nu a b),rh B hB _ (jK a),rh B hB _ (jK b)];have e:=uj (fun k:Nat=>hasB a (k:Int)) (fun k:Nat=>hasB b (k:Int)) (List.range B);have c1:(fun k:Nat=>hasB (Bw a b) (k:Int))=fun k:Nat=>hasB a (k:Int)||hasB b (k:Int):=by
  funext k;exact pC (by rw[vn,Bool.or_eq_true,eR,eR])
 have c2:(fun k:Nat=>hasB (uf a b) (k:Int))=fun k:Nat=>hasB a (k:Int)&&hasB b (k:Int):=by
  funext k;exact pC (by rw[nw,Bool.and_eq_true,eR,eR])
 have c3:(fun k:Nat=>hasB (oz a) (k:Int))=fun k:Nat=>hasB a (k:Int):=by
  funext k;exact pC (by rw[kV,eR])
 have c4:(fun k:Nat=>hasB (oz b) (k:Int))=fun k:Nat=>hasB b (k:Int):=by
  funext k;exact pC (by rw[kV,eR])
 rw[c1,c2,c3,c4];omega
def Qq:List Pr->Int
 |[]=>0
 |r::_=>r.1
def Qr (s:List Pr):Bool:=!s.isEmpty
def fX:List Pr->List Pr
 |[]=>[]
 |r::l=>if r.1<r.2 then(r.1+1,r.2)::l else l
theorem fM (r:Pr)(l:List Pr):fX (r::l)=if r.1<r.2 then(r.1+1,r.2)::l else l:=rfl
theorem xB {r:Pr}{l:List Pr}(h:Cn (r::l)):Qn (r::l) [(r.1,r.1)]=fX (r::l)∧Cn (fX (r::l))∧jn (fX (r::l))=jn (r::l)-1∧(fX (r::l)).length<=(r::l).length∧∀n,dh (fX (r::l)) n↔dh (r::l) n∧r.1<n:=by
 obtain⟨h1,h2,h3⟩:=bB.1 h;have hc:Cn (fX (r::l)):=by
  rw[fM];split
  ·exact bB.2 ⟨by simp only;omega,h2,h3⟩
  ·exact h3
 have hi:∀n,dh (fX (r::l)) n↔dh (r::l) n∧r.1<n:=fun n=>by
  rw[fM];split
  ·rw[aR,aR];simp only;constructor
   ·rintro(k|k)
    ·exact⟨Or.inl (by omega),by omega⟩
    ·have:=h.e8 k;exact⟨Or.inr k,by omega⟩
   ·rintro⟨k|k,k2⟩
    ·exact Or.inl (by omega)
    ·exact Or.inr k
  ·rw[aR];constructor
   ·intro k;have:=h.e8 k;exact⟨Or.inr k,by omega⟩
   ·rintro⟨k|k,k2⟩
    ·omega
    ·exact k
 refine⟨(Qo hc fun n=>?_).symm,hc,?_,?_,hi⟩
 ·rw[hi n,eI];constructor
  ·rintro⟨k1,k2⟩;exact⟨k1,by simp only;omega⟩
  ·rintro⟨k1,k2⟩;have:=h.vd k1;have:=k1.1;have:=k1.2.1;simp only at k2;exact⟨k1,by omega⟩
 ·rw[fM];split
  ·rw[mn,mn];simp only;omega
  ·rw[mn];omega
 ·rw[fM];split<;>simp
end
section
def aG (x:Pr):List Value:=[.int .i64 x.1,.int .i64 x.2]
def GR (w w':World):Prop:=∃q os',w'=grow (w.drewN q) os'
theorem GR.refl (w:World):GR w w:=⟨0,#[],by rw[grow_empty];rfl⟩
theorem GR.alloc {w w':World}(h:GR w w')(o:Obj):GR w (w'.alloc o):=by
 obtain⟨q,os,rfl⟩:=h;exact⟨q,os++#[o],by rw[alloc_eq_grow,grow_grow]⟩
theorem GR.below {w w':World}(h:GR w w'):Below w.heap.size w w':=by
 obtain⟨q,os,rfl⟩:=h;exact⟨rfl,rfl,rfl,by rw[size_grow];exact Nat.le_add_right _ _,fun k hk=>heap_grow_old _ _ (by simpa using hk)⟩
section
variable {α:Type}[Inhabited α]
def bJ (enc:α->List Value)(k:Nat)(w:World)(b off:Nat)(l:List α):Prop:=∀t,t<l.length*k->w.cell? ⟨b,off+t,none⟩=some (flatK enc k l.toArray)[t]!
def Row (enc:α->List Value)(k:Nat)(w:World)(v:Value)(l:List α):Prop:=
 ∃ao cap,v=.slice ao l.length cap∧l.length<=cap∧(ao=none->cap=0)∧(l≠[]->∃b off,ao=some ⟨b,off,none⟩∧b<w.heap.size∧bJ enc k w b off l)
def Own (enc:α->List Value)(k base:Nat)(w:World)(v:Value)(l:List α):Prop:=
 ∃ao cap,v=.slice ao l.length cap∧l.length<=cap∧(ao=none->cap=0)∧(l≠[]->∃b off,ao=some ⟨b,off,none⟩∧base<=b∧b<w.heap.size∧HoldsK enc k w b off l.toArray)
variable {enc:α->List Value}{k base:Nat}{w w':World}{v:Value}{l:List α}
theorem gS {b off:Nat}(h:HoldsK enc k w b off l.toArray):bJ enc k w b off l:=fun t ht=>(h t (by simpa using ht)).1
theorem Own.row (h:Own enc k base w v l):Row enc k w v l:=by
 obtain⟨ao,cap,e,h1,h2,h3⟩:=h;refine⟨ao,cap,e,h1,h2,fun hne=>?_⟩;obtain⟨b,off,e2,_,hb,hH⟩:=h3 hne;exact⟨b,off,e2,hb,gS hH⟩
theorem Row.below (h:Row enc k w v l)(hb:Below w.heap.size w w'):Row enc k w' v l:=by
 obtain⟨ao,cap,e,h1,h2,h3⟩:=h;refine⟨ao,cap,e,h1,h2,fun hne=>?_⟩;obtain⟨b,off,e2,hlt,hH⟩:=h3 hne;exact⟨b,off,e2,Nat.lt_of_lt_of_le hlt hb.size,fun t ht=>(hb.cell (p:=⟨b,off+t,none⟩) hlt).trans (hH t ht)⟩
theorem Own.mono {base':Nat}(h:Own enc k base w v l)(hb:base'<=base):Own enc k base' w v l:=by
 obtain⟨ao,cap,e,h1,h2,h3⟩:=h;refine⟨ao,cap,e,h1,h2,fun hne=>?_⟩;obtain⟨b,off,e2,DX,r⟩:=h3 hne;exact⟨b,off,e2,Nat.le_trans hb DX,r⟩
theorem Own.nil:Own enc k base w (.slice none 0 0) ([]:List α):=⟨none,0,rfl,Nat.le_refl _,fun _=>rfl,fun h=>absurd rfl h⟩
theorem iq {e:TypeId}{g n:Nat}{cur:Array Value}(hb:w.heap[g]? =some (.cells cur e (0,0)))(hn:l.length=n)(hs:n*k<=cur.size)(ht:cur.toList.take (n*k)=(flatK enc k l.toArray).toList):HoldsK enc k w g 0 l.toArray:=by
 intro t Qs;have ht':t<n*k:=by rw[<-hn];simpa using Qs
 refine⟨?_,by simp[World.frozen?,hb]⟩;have h1:(cur.toList.take (n*k))[t]? =(flatK enc k l.toArray).toList[t]? :=by rw[ht]
 rw[List.getElem?_take_of_lt ht',List.getElem?_eq_getElem (by simpa using(by omega:t<cur.size)),List.getElem?_eq_getElem (by rw[Array.length_toList];exact Qs)]at h1;simp only[World.cell?,hb,Nat.zero_add];rw[getElem!_pos _ t Qs];have h2:=Option.some.inj h1;simp only[Array.getElem_toList]at h2;rw[Array.getElem?_eq_getElem (by omega),h2];rfl
theorem cf {e:TypeId}{n:Nat}(hk:0<k)(h:w.ownsRow base e k v n (flatK enc k l.toArray).toList):Own enc k base w v l:=by
 obtain⟨h0,h1⟩:=h;have hn:l.length=n:=by
  have:l.length*k=n*k:=by simpa using h0
  exact Nat.eq_of_mul_eq_mul_right hk this
 rcases h1 with⟨rfl,rfl⟩| ⟨g,cap,cur,rfl,hb,hh,hc,hm,hs,ht⟩
 ·obtain rfl:l=[]:=List.length_eq_zero_iff.1 hn;exact Own.nil
 ·subst hn;refine⟨some ⟨g,0,none⟩,cap,rfl,hc,(fun h=>by cases h),fun hne=>⟨g,0,rfl,hb,(Array.getElem?_eq_some_iff.1 hh).1,iq hh rfl (by rw[hs];exact Nat.mul_le_mul_right k hc) ht⟩⟩
theorem cM (h1:∀x,∀v∈enc x,v.oneCell'=true)(hk:∀x,(enc x).length=k):∀u∈(flatK enc k l.toArray).toList,u.oneCell'=true:=fun u hu=>by
 obtain⟨t,ht,rfl⟩:=List.getElem_of_mem hu;have ht':t<l.length*k:=by simpa using ht
 have hk0:0<k:=by
  rcases Nat.eq_zero_or_pos k with h|h
  ·subst h;omega
  ·exact h
 have e:=get_flatK enc k l.toArray t (by simpa using ht');rw[getElem!_pos _ t (by simpa using ht')]at e;rw[Array.getElem_toList,e];refine h1 l.toArray[t/k]! _ ?_;rw[getElem!_pos (enc l.toArray[t/k]!) (t%k) (by rw[hk];exact Nat.mod_lt _ hk0)];exact List.getElem_mem _
end
theorem cP (x:Pr):(aG x).length=2:=rfl
theorem ew (x:Pr):∀v∈aG x,v.oneCell'=true:=fun v hv=>by simp[aG]at hv;rcases hv with rfl|rfl<;>rfl
theorem eG:(Tryz.prog.info? 92).map (fun i=>(i.zero,i.size,i.bytes))=some (some (.agg #[.int .i64 0,.int .i64 0]),2,16):=by kernel_rfl
section
variable {α:Type}[Inhabited α]
theorem iH (d:Array α)(i:Nat):d[i]! =d.toList[i]! :=by
 by_cases h:i<d.size
 ·rw[getElem!_pos d i h,getElem!_pos d.toList i (by simpa using h)];simp
 ·rw[getElem!_neg d i h,getElem!_neg d.toList i (by simpa using h)]
theorem ir {l l':List α}(hs:l.length=l'.length)(h:∀i,i<l.length->l[i]! =l'[i]!):l=l':=by
 apply List.ext_getElem hs;intro i h1 h2;have:=h i h1
 rwa [getElem!_pos l i h1,getElem!_pos l' i h2]at this
theorem ri (l r:List α)(i:Nat)(h:i<l.length):(l++r)[i]! =l[i]! :=by
 rw[getElem!_pos l i h,getElem!_pos (l++r) i (by simp;omega)];exact List.getElem_append_left h
theorem nE (l r:List α)(i:Nat):(l++r)[l.length+i]! =r[i]! :=by
 by_cases h:i<r.length
 ·rw[getElem!_pos r i h,getElem!_pos (l++r) _ (by simp;omega)];simp
 ·rw[getElem!_neg r i h,getElem!_neg (l++r) _ (by simp;omega)]
theorem dX {W:World}{base:Nat}{e:TypeId}{k:Nat}{v:Value}{n:Nat}{xs:List Value}(h:W.ownsRow base e k v n xs)(m:Nat)(os:Array Obj):(grow (W.drewN m) os).ownsRow base e k v n xs:=by
 obtain⟨h1,h2⟩:=h;refine⟨h1,?_⟩;rcases h2 with h2| ⟨g,cap,cur,hv,hg,hh,r⟩
 ·exact Or.inl h2
 ·exact Or.inr ⟨g,cap,cur,hv,hg,by rw[heap_grow_old _ _ (by exact(Array.getElem?_eq_some_iff.1 hh).1)];exact hh,r⟩
theorem bR (enc:α->List Value)(k:Nat)(hk:∀x,(enc x).length=k)(l:List α)(x:α):(flatK enc k (l++[x]).toArray).toList=(flatK enc k l.toArray).toList++enc x:=by
 apply ir
 ·simp[hk,Nat.add_mul]
 ·intro t ht;have ht':t< (l.length+1)*k:=by simpa using ht
  have hk0:0<k:=by
   rcases Nat.eq_zero_or_pos k with h|h
   ·subst h;omega
   ·exact h
  rw[<-iH (flatK enc k (l++[x]).toArray) t,get_flatK _ _ _ _ (by simpa using ht')];by_cases c:t<l.length*k
  ·rw[ri _ _ _ (by simpa using c),<-iH (flatK enc k l.toArray) t,get_flatK _ _ _ _ (by simpa using c)];have:t/k<l.length:=(Nat.div_lt_iff_lt_mul hk0).2 c
   congr 2
   rw[getElem!_pos _ _ (by simp;omega),getElem!_pos _ _ (by simpa using this)];simp[this]
  ·obtain⟨s,rfl⟩:∃s,t=(flatK enc k l.toArray).toList.length+s:=⟨t-l.length*k,by simp;omega⟩;rw[nE];have hs:s<k:=by
    rw[Nat.add_mul,Nat.one_mul]at ht';simp at ht';omega
   have e1:((flatK enc k l.toArray).toList.length+s)/k=l.length:=by
    rw[Array.length_toList,size_flatK,List.size_toArray,Nat.mul_comm,Nat.mul_add_div hk0,Nat.div_eq_of_lt hs,Nat.add_zero]
   have e2:((flatK enc k l.toArray).toList.length+s)%k=s:=by
    rw[Array.length_toList,size_flatK,List.size_toArray,Nat.mul_comm,Nat.mul_add_mod,Nat.mod_eq_of_lt hs]
   rw[e1,e2,getElem!_pos (l++[x]).toArray l.length (by simp)];simp
end
theorem fp {W:World}{base:Nat}{e:TypeId}{k:Nat}{v:Value}{n:Nat}{xs:List Value}(h:W.ownsRow base e k v n xs):v.ownBlock=none∨∃r,v.ownBlock=some r∧base<=r:=by
 rcases h.2 with⟨rfl,_⟩| ⟨g,cap,cur,rfl,hg,_⟩
 ·exact Or.inl rfl
 ·exact Or.inr ⟨g,rfl,hg⟩
theorem cC {w wr:World}{ao:Option Addr}{l:List Pr}(h3:l≠[]->∃b off,ao=some ⟨b,off,none⟩∧b<w.heap.size∧bJ aG 2 w b off l)(i:Nat)(hi:i<l.length)(hb:Below w.heap.size w wr):
  ∃b off,ao=some ⟨b,off,none⟩∧b<w.heap.size∧wr.cell? ⟨b,off+i*2,none⟩=some (.int .i64 l[i]!.1)∧wr.cell? ⟨b,off+i*2+1,none⟩=some (.int .i64 l[i]!.2):=by
 obtain⟨b,off,e,hlt,hc⟩:=h3 (by intro h;rw[h]at hi;simp at hi);refine⟨b,off,e,hlt,?_,?_⟩
 ·rw[hb.cell (p:=⟨b,off+i*2,none⟩) hlt,hc (i*2) (by omega),get_flatK _ _ _ _ (by simp;omega),show i*2/2=i by omega,show i*2%2=0 by omega];simp[aG]
 ·rw[Nat.add_assoc,hb.cell (p:=⟨b,off+(i*2+1),none⟩) hlt,hc (i*2+1) (by omega),get_flatK _ _ _ _ (by simp;omega),show(i*2+1)/2=i by omega,show(i*2+1)%2=1 by omega];simp[aG]
theorem cR {α:Type}[Inhabited α]{l:List α}{i:Nat}(h:i<l.length):l.take (i+1)=l.take i++[l[i]!]:=by
 rw[List.take_add_one,List.getElem?_eq_getElem h,getElem!_pos l i h];rfl
theorem gJ {α:Type}[Inhabited α]{l:List α}{i:Nat}(h:i<l.length):l.drop i=l[i]! ::l.drop (i+1):=by
 rw[List.drop_eq_getElem_cons h,getElem!_pos l i h]
theorem below_grown {B:Nat}{w W:World}(h:Below B w W)(hB:B<=W.heap.size)(n:Nat)(os:Array Obj):Below B w (grow (W.drewN n) os):=h.trans ((GR.below (w:=W) ⟨n,os,rfl⟩).mono hB)
abbrev bj (base:Nat)(W:World)(v:Value)(l:List Pr):Prop:=W.ownsRow base 92 2 v l.length (flatK aG 2 l.toArray).toList
theorem bj.empty (base:Nat)(W:World):bj base W (.slice none 0 0) []:=by unfold bj;simpa[flatK]using World.ownsRow_nil W base 92 2
theorem bj.own {base:Nat}{W:World}{v:Value}{l:List Pr}(h:bj base W v l):Own aG 2 base W v l:=cf (by decide) h
theorem bj.step {base:Nat}{W w1:World}{v v':Value}{l:List Pr}{x:Pr}(hbase:base<=W.heap.size)(h:bj base W v l)(hgrow:W.grownBy w1 v.ownBlock)(hown:w1.ownsRow base 92 2 v' (l.length+1) ((flatK aG 2 l.toArray).toList++aG x)):
  bj base w1 v' (l++[x])∧∀w0,Below base w0 W->Below base w0 w1:=by
 refine⟨?_,fun w0 hb=>hb.grown hgrow hbase fun k hk=>?_⟩
 ·show w1.ownsRow base 92 2 v' (l++[x]).length (flatK aG 2 (l++[x]).toArray).toList;rw[List.length_append,List.length_singleton,bR aG 2 cP];exact hown
 ·rcases fp h with hr| ⟨r,hr,hle⟩
  ·rw[hr]at hk;cases hk
  ·rw[hr]at hk;cases hk;exact hle
theorem Uf {ops:Array Oper}{rest:List Oper}{o:Oper}{a:Act}{Q:Exit->Act->World->Prop}{w:World}(hgd:o.guard=.none)(s x:Operand)
  (ho:o.op=.call {callee:=.builtin .append,args:=#[s,x],argTypes:=#[89,89]})(base:Nat)(v:Value)(l:List Pr)(hs:a.eval s=v)(hown:bj base w v l)
  (b off c:Nat)(hx:a.eval x=.slice (some ⟨b,off,.none⟩) 1 c)(y:Pr)(c0:w.cell? ⟨b,off,.none⟩=some (.int .i64 y.1))(c1:w.cell? ⟨b,off+1,.none⟩=some (.int .i64 y.2))(hl:l.length<1000000)(hbase:base<=w.heap.size)
  (h:∀ao n c w',bj base w' (.slice ao n c) (l++[y])->(∀w0,Below base w0 w->Below base w0 w')->wpList Tryz.prog ops Q rest (a.put o.dst (.slice ao n c)) w'):wpList Tryz.prog ops Q (o::rest) a w:=by
 obtain⟨i0,hi,hz0,hz1,hz2⟩:=info_parts eG;refine wpList_append_own w hgd s x 89 ho base 92 i0 _ 2 16 Tryz.underlying89 hi hz0 hz1 hz2 rfl (by decide) v _ _ hs hown ⟨b,off,.none⟩ 1 c (aG y) hx rfl ?_ (ew y) (by unfold maxLen;omega) (by omega) hbase ?_
 ·intro j u hj;simp only[aG]at hj
  match j,hj with
  |0,hj=>simp at hj;subst hj;simpa[Addr.add]using c0
  |1,hj=>simp at hj;subst hj;simpa[Addr.add]using c1
 ·intro v' w' h1 h2 _;obtain⟨s1,s2⟩:=bj.step hbase hown h2 h1;obtain⟨cW,n',c',rfl⟩:∃ao n c,v'=.slice ao n c:=by
   rcases h1.2 with⟨h,_⟩| ⟨g,cap,cur,h,_⟩
   ·exact⟨_,_,_,h⟩
   ·exact⟨_,_,_,h⟩
  exact h _ _ _ _ s1 s2
theorem bG {α:Type}[Inhabited α](enc:α->List Value)(k:Nat)(hk:∀x,(enc x).length=k):∀(m l:List α),(flatK enc k (l++m).toArray).toList=(flatK enc k l.toArray).toList++(flatK enc k m.toArray).toList
 |[],l=>by simp[flatK]
 |x::m,l=>by
  have e1:l++x::m=(l++[x])++m:=by simp
  have e2:(flatK enc k (x::m).toArray).toList=enc x++(flatK enc k m.toArray).toList:=by
   have h:=bG enc k hk m [x];have h2:=bR enc k hk [] x;rw[List.nil_append]at h2;rw[h2]at h;simpa[flatK]using h
  rw[e1,bG enc k hk m (l++[x]),bR enc k hk,e2,List.append_assoc]
theorem xC {ops:Array Oper}{rest:List Oper}{o:Oper}{a:Act}{Q:Exit->Act->World->Prop}{w:World}(hgd:o.guard=.none)(s x:Operand)
    (ho:o.op=.call {callee:=.builtin .append,args:=#[s,x],argTypes:=#[89,89]})(base:Nat)(v:Value)(l:List Pr)(hs:a.eval s=v)(hown:bj base w v l)
    (u:Value)(m:List Pr)(hx:a.eval x=u)(hu:Row aG 2 w u m)(hl:l.length+m.length<1000000)(hbase:base<=w.heap.size)(lm:List Pr)(hlm:l++m=lm)
    (h:∀ao n c w',bj base w' (.slice ao n c) lm->(∀w0,Below base w0 w->Below base w0 w')->wpList Tryz.prog ops Q rest (a.put o.dst (.slice ao n c)) w'):wpList Tryz.prog ops Q (o::rest) a w:=by
  subst hlm;obtain⟨i0,hi,hz0,hz1,hz2⟩:=info_parts eG;obtain⟨ao,cap,rfl,h1,h2,h3⟩:=hu;obtain⟨av,nv,cv,rfl⟩:∃ao n c,v=.slice ao n c:=by
    rcases hown.2 with⟨h,_⟩| ⟨g,cap,cur,h,_⟩
    · exact⟨_,_,_,h⟩
    · exact⟨_,_,_,h⟩
  cases ao with
  | none=>
    have hm:m=[]:=by
      rcases List.eq_nil_or_concat m with e| ⟨m',y,e⟩
      · exact e
      · obtain⟨b,off,e2,_⟩:=h3 (by rw[e];simp);cases e2
    subst hm;rw[h2 rfl]at hx;refine wpList_append_own_none hgd s x 89 ho base 92 i0 2 Tryz.underlying89 hi _ _ _ hs hown hx ?_;exact h _ _ _ _ (by rw[List.append_nil];exact hown) (fun _ hb=>hb)
  | some ad=>
    refine wpList_append_own w hgd s x 89 ho base 92 i0 _ 2 16 Tryz.underlying89 hi hz0 hz1 hz2 rfl (by decide) _ _ _ hs hown ad m.length cap (flatK aG 2 m.toArray).toList hx (by simp) ?_ (cM ew cP) (by unfold maxLen;omega) (by omega) hbase ?_
    · intro j u hj;obtain⟨hj1,hj2⟩:=List.getElem?_eq_some_iff.1 hj;have kI:j<m.length*2:=by simpa using hj1
      obtain⟨b,off,e2,_,hc⟩:=h3 (by intro e;rw[e]at kI;simp at kI);cases e2;rw[Go.WideShapes.add_plain,hc j kI,getElem!_pos _ j (by simpa using kI),<-hj2];simp
    · intro v' w' g1 g2 _;obtain⟨cW,n',c',rfl⟩:∃ao n c,v'=.slice ao n c:=by
        rcases g1.2 with⟨h,_⟩| ⟨g,cap,cur,h,_⟩
        · exact⟨_,_,_,h⟩
        · exact⟨_,_,_,h⟩
      refine h _ _ _ _ ?_ (fun w0 hb=>hb.grown g2 hbase fun k hk=>?_)
      · show w'.ownsRow base 92 2 _ (l++m).length (flatK aG 2 (l++m).toArray).toList;rw[List.length_append,bG aG 2 cP];exact g1
      · rcases fp hown with hr| ⟨r,hr,hle⟩
        · rw[hr]at hk;cases hk
        · rw[hr]at hk;cases hk;exact hle
theorem ownsRow_below {W W':World}{base:Nat}{e:TypeId}{k:Nat}{v:Value}{n:Nat}{xs:List Value}(h:W.ownsRow base e k v n xs)(hb:Below W.heap.size W W'):W'.ownsRow base e k v n xs:=by
 obtain⟨h1,h2⟩:=h;refine⟨h1,?_⟩;rcases h2 with h2| ⟨g,cap,cur,hv,hg,hh,r⟩
 ·exact Or.inl h2
 ·exact Or.inr ⟨g,cap,cur,hv,hg,by rw[hb.block g (Array.getElem?_eq_some_iff.1 hh).1];exact hh,r⟩
def zZ (lo:Nat)(w:World)(v:Value)(l:List Pr):Prop:=
 ∃ao cap,v=.slice ao l.length cap∧l.length<=cap∧(ao=none->cap=0)∧(l≠[]->∃b off,ao=some ⟨b,off,none⟩∧b≠lo∧b<w.heap.size∧bJ aG 2 w b off l)
theorem xD {lo:Nat}{w:World}{v:Value}{x:Pr}{l:List Pr}(h:zZ lo w v (x::l)):
  ∃b off cap,v=.slice (some ⟨b,off,none⟩) (l.length+1) cap∧l.length+1<=cap∧b≠lo∧b<w.heap.size∧w.cell? ⟨b,off,none⟩=some (.int .i64 x.1)∧w.cell? ⟨b,off+1,none⟩=some (.int .i64 x.2)∧
   ∀ao,(l≠[]->ao=some ⟨b,off+2,none⟩)->(ao=none->cap-1=0)->zZ lo w (.slice ao l.length (cap-1)) l:=by
 obtain⟨ao,cap,rfl,h1,h2,h3⟩:=h;obtain⟨b,off,rfl,hlo,hb,hc⟩:=h3 (by simp);have hlen:(x::l).length=l.length+1:=rfl;have c0:=hc 0 (by rw[hlen];omega);have c1:=hc 1 (by rw[hlen];omega);rw[get_flatK _ _ _ _ (by simp)]at c0;rw[get_flatK _ _ _ _ (by simp;omega)]at c1;refine⟨b,off,cap,rfl,h1,hlo,hb,by simpa[aG]using c0,by simpa[aG]using c1,fun ao ha hn=>⟨ao,cap-1,rfl,by rw[hlen]at h1;omega,hn,fun hne=>⟨b,off+2,ha hne,hlo,hb,fun t ht=>?_⟩⟩⟩;have ct:=hc (t+2) (by rw[hlen];omega);rw[get_flatK _ _ _ _ (by simp;omega)]at ct;rw[get_flatK _ _ _ _ (by simpa using ht),show off+2+t=off+(t+2) by omega,ct];have e1:(t+2)/2=t/2+1:=by omega
 have e2:(t+2)%2=t%2:=by omega
 rw[e1,e2]
 congr 3
 have ht2:t/2<l.length:=by omega
 rw[getElem!_pos _ _ (by simp;omega),getElem!_pos _ _ (by simpa using ht2)];simp
theorem iI {α:Type}[Inhabited α]{enc:α->List Value}{k:Nat}{w:World}{b n:Nat}{T:TypeId}{fr:Nat×Nat}{cs:Array Value}{l:List α}(hb:w.heap[b]? =some (.cells cs T fr))(hcs:cs=flatK enc k l.toArray)(hn:l.length=n):Row enc k w (.slice (some ⟨b,0,none⟩) n n) l:=by
 subst hn;refine⟨_,_,rfl,Nat.le_refl _,(fun h=>by cases h),fun _=>⟨b,0,rfl,(Array.getElem?_eq_some_iff.1 hb).1,fun t ht=>?_⟩⟩;simp only[World.cell?,hb,Nat.zero_add,hcs];have ht':t< (flatK enc k l.toArray).size:=by simpa using ht
 rw[Array.getElem?_eq_getElem ht',getElem!_pos _ t ht'];rfl
end
section
theorem bF {fn:Func}{p:Tmp}{ty:TypeId}(h:fn.results=#[.cell p ty])(tmps:Array Value)(P:Program)(w:World):
  (results fn tmps).run P w=((asAddr (tmps.getD p undef)).run P w).andThen fun a w₁=>(loadVar ty a).run P w₁:=by
 simp only[results,h];simp[Sem.run_bind,Result.andThen]
theorem rj (x:Pr):#[Value.int .i64 x.1,Value.int .i64 x.2]=flatK aG 2 [x].toArray:=by
 apply Array.ext';have:=bR aG 2 cP [] x;rw[List.nil_append]at this;rw[this];simp[flatK,aG]
theorem Gl (x:Pr)(w:World):Calls Tryz.prog 116 #[.agg #[.int .i64 x.1,.int .i64 x.2]] w fun e w'=>e=.returned (.agg #[.int .i64 (cG x).1,.int .i64 (cG x).2])∧GR w w':=by
  go_enter Tryz.func116,Tryz.ntmps116;go_wp2
  (try simp only[Exit.inBlock,Exit.then])
  refine bodyPost_ret (v:=.agg #[.int .i64 (max x.1 0),.int .i64 (min x.2 4294967295)]) ?_ rfl ⟨rfl,?_⟩
  · rw[bF rfl];go_simp
  · exact((GR.refl w).alloc _).alloc _
theorem rk (x y:Pr)(W:World):Calls Tryz.prog 118 #[.agg #[.int .i64 x.1,.int .i64 x.2],.agg #[.int .i64 y.1,.int .i64 y.2]] W fun e w'=>e=.returned (.int .i64 (Lib.compareInt x.1 y.1))∧∃q os',w'=grow (W.drewN q) os':=by
 have hcon:=fun W'=>AnyG.cmp_Compare_int Tryz.PT x.1 y.1 W';change ∀W',Calls Tryz.prog 119 _ _ _ at hcon;generalize Lib.compareInt x.1 y.1=r at hcon⊢;go_enter Tryz.func118,Tryz.ntmps118
 go_wp2_with (go_at_call 119;refine(hcon _).mono ?_;rintro e w' ⟨rfl,rfl⟩)
 go_ret;exact⟨rfl,0,_,by rw[alloc_eq_grow,alloc_eq_grow,grow_grow];rfl⟩
theorem z7 (n:Int)(w:World):Calls Tryz.prog 135 #[.int .i64 n] w fun e w'=>∃v,e=.returned v∧Row aG 2 w' v [(n,n)]∧Below w.heap.size w w':=by
 go_enter Tryz.func135,Tryz.ntmps135;go_wp2;go_ret;refine⟨_,rfl,iI (cs:=#[.int .i64 n,.int .i64 n]) (heap_alloc_new _ _) (rj (n,n)) rfl,?_⟩;exact(Below.refl _ w).alloc (Nat.le_refl _) _
theorem Gm (x:Pr)(n:Int)(b:Nat)(W:World)(hb:W.cell? ⟨b,0,none⟩=some (.int .i64 n)):Calls Tryz.prog 147 #[.agg #[.int .i64 x.1,.int .i64 x.2],.pointer (some ⟨b,0,none⟩)] W fun e w'=>e=.returned (.bool (Qm n x))∧Below W.heap.size W w':=by
 have hb2:(W.alloc (.cells #[.int .i64 x.1,.int .i64 x.2] 92)).cell? ⟨b,0,none⟩=some (.int .i64 n):=Lib.cell?_alloc_some _ hb;clear hb;unfold Qm;by_cases h1:x.1<=n
 ·by_cases h2:n<=x.2
  ·go_enter Tryz.func147,Tryz.ntmps147;go_wp2;go_ret;exact⟨by simp[h1,h2],(Below.refl _ W).alloc (Nat.le_refl _) _⟩
  ·go_enter Tryz.func147,Tryz.ntmps147;go_wp2;go_ret;exact⟨by simp[h2],(Below.refl _ W).alloc (Nat.le_refl _) _⟩
 ·go_enter Tryz.func147,Tryz.ntmps147;go_wp2;go_ret;exact⟨by rw[decide_eq_false (by omega:¬x.1<=n)];simp,(Below.refl _ W).alloc (Nat.le_refl _) _⟩
theorem xE (ao:Option Addr)(cap:Nat)(f:Value)(w:World):Calls Tryz.prog 189 #[.slice ao 0 cap,f] w fun e w'=>e=.returned (.int .i64 (-1))∧w'=w:=by
 go_enter Tryz.func189,Tryz.ntmps189;go_wp2;refine wp_loop_rounds 1 ?_;rw[rounds_succ];go_wp2;go_ret;exact⟨rfl,rfl⟩
theorem rp (ao:Option Addr)(cap:Nat)(f:Value)(w:World):Calls Tryz.prog 146 #[.slice ao 0 cap,f] w fun e w'=>e=.returned (.bool false)∧w'=w:=by
 have C:Hid _:=xE ao cap f w;go_enter Tryz.func146,Tryz.ntmps146
 go_wp2_with (go_at_call 189;refine Calls.mono C.out ?_;rintro e w' ⟨rfl,rfl⟩)
 go_ret;exact⟨rfl,rfl⟩
theorem vq (v:Value)(l:List Pr)(n:Int)(b:Nat)(w:World)(h:Row aG 2 w v l)(hl:l.length<=1000000)(hb:w.cell? ⟨b,0,none⟩=some (.int .i64 n))(hlt:b<w.heap.size):
  Calls Tryz.prog 146 #[v,.func (.func 147) #[] #[.pointer (some ⟨b,0,none⟩)]] w fun e w'=>e=.returned (.bool (l.any (Qm n)))∧Below w.heap.size w w':=by
 obtain⟨ao,cap,rfl,h1,h2,h3⟩:=h;by_cases hne:l=[]
 ·subst hne;refine(rp ao cap _ w).mono ?_;rintro e w' ⟨rfl,rfl⟩;exact⟨rfl,Below.refl _ _⟩
 ·obtain⟨b',off,rfl,hb',hc⟩:=h3 hne;have C:=AnyQ.slices_ContainsFunc Tryz.xi 2 Tryz.isAgg92 Tryz.sizeOf92 aG cP (Qm n) 147 #[.pointer (some ⟨b,0,none⟩)] (enters_of Tryz.func147 (by kernel_rfl) rfl) b' off l.length cap l w
   (fun W x hB=>(Gm x n b W ((hB.cell (p:=⟨b,0,none⟩) hlt).trans hb)).mono fun e w' ⟨he,hb2⟩=>⟨he,hB.trans (hb2.mono hB.size)⟩) (Nat.le_refl _) (by omega) hb' (fun j hj i u hi=>?_)
  ·rw[List.take_length]at C;exact C
  ·have hi2:i<2:=by
    have:=(List.getElem?_eq_some_iff.1 hi).1
    rwa [cP]at this
   rw[Nat.add_assoc,hc (j*2+i) (by omega),get_flatK _ _ _ _ (by simp;omega)];have e1:(j*2+i)/2=j:=by omega
   have e2:(j*2+i)%2=i:=by omega
   rw[e1,e2];have e3:l.toArray[j]! =l[j]! :=by simp
   rw[e3];have:=List.getElem?_eq_some_iff.1 hi;rw[getElem!_pos _ i this.1,this.2]
theorem Qt (l:List Pr)(n:Int)(h0:0<=n)(h1:n<=4294967295):l.any (Qm n)=hasB l n:=by
 unfold hasB;rw[decide_eq_true h0,decide_eq_true h1];rfl
theorem LZ (v:Value)(l:List Pr)(n:Int)(w:World)(h:Row aG 2 w v l)(hl:l.length<=1000000):
  Calls Tryz.prog 112 #[v,.int .i64 n] w fun e w'=>e=.returned (.bool (hasB l n))∧Below w.heap.size w w':=by
 have B:Hid (Below w.heap.size w (w.alloc (.cells #[.int .i64 n] 3))):=(Below.refl _ w).alloc (Nat.le_refl _) _;have C:Hid _:=vq v l n w.heap.size (w.alloc (.cells #[.int .i64 n] 3)) (h.below B.out) hl (by simp) (by simp);by_cases h0:0<=n
 ·by_cases h1:n<=4294967295
  ·rw[Qt l n h0 h1]at C;obtain⟨f,hf⟩:∃f,hasB l n=f:=⟨_,rfl⟩;rw[hf]at C⊢;have hz:(w.alloc (.cells #[.int .i64 n] 3)).heap.size=w.heap.size+1:=by simp
   clear h hf;go_enter Tryz.func112,Tryz.ntmps112
   go_wp2_with (go_at_call 146;refine Calls.mono C.out ?_;rintro e w' ⟨rfl,hb⟩)
   all_goals
    go_ret;exact⟨rfl,B.out.trans (hb.mono (by omega))⟩
  ·have e:hasB l n=false:=jl fun k=>h1 k.2.1;rw[e];clear h C e;go_enter Tryz.func112,Tryz.ntmps112;go_wp2;go_ret;exact⟨rfl,B.out⟩
 ·have e:hasB l n=false:=jl fun k=>h0 k.1;rw[e];clear h C e;go_enter Tryz.func112,Tryz.ntmps112;go_wp2;go_ret;exact⟨rfl,B.out⟩
end
section
section
variable {w w':World}{q i k:Nat}{cs:Array Value}{t:TypeId}
def Cl (w:World)(q:Nat)(cs:Array Value)(t:TypeId):Prop:=w.heap[q]? =some (.cells cs t (0,0))
theorem Cl.lt (h:Cl w q cs t):q<w.heap.size:=(Array.getElem?_eq_some_iff.1 h).1
theorem Cl.cell (h:Cl w q cs t)(i:Nat):w.cell? ⟨q,i,none⟩=cs[i]? :=by unfold Cl at h;simp[World.cell?,h]
theorem Cl.frozen (h:Cl w q cs t)(i:Nat):w.frozen? ⟨q,i,none⟩=false:=by unfold Cl at h;simp[World.frozen?,h]
theorem Cl.set (h:Cl w q cs t)(i:Nat)(v:Value):Cl (w.setCell ⟨q,i,none⟩ v) q (cs.setIfInBounds i v) t:=by
 unfold Cl at h⊢;simp[World.setCell,Array.getElem?_modify,h]
theorem Cl.new (w:World)(cs:Array Value)(t:TypeId):Cl (w.alloc (.cells cs t)) w.heap.size cs t:=by
 show(w.heap.push _)[w.heap.size]? =_;simp
theorem Cl.below {B:Nat}(h:Cl w q cs t)(b:Below B w w')(hq:q<B):Cl w' q cs t:=(b.block q hq).trans h
theorem Cl.on (h:Cl w q cs t)(b:Below w.heap.size w w'):Cl w' q cs t:=h.below b h.lt
theorem Cl.two {a b:Value}(h:Cl w q #[a,b] t):w.cell? ⟨q,0,none⟩=some a∧w.cell? ⟨q,1,none⟩=some b:=⟨h.cell 0,h.cell 1⟩
theorem Cl.set2 {x y:Value}(h:Cl w q #[x,y] t)(a b:Value):Cl ((w.setCell ⟨q,0,none⟩ a).setCell ⟨q,1,none⟩ b) q #[a,b] t:=(h.set 0 a).set 1 b
end
end
section
theorem bj.other {base:Nat}{W:World}{v:Value}{l:List Pr}(h:bj base W v l){j:Nat}(hj:W.heap.size<=j):v.ownBlock≠some j:=by
 rcases h.2 with⟨rfl,_⟩| ⟨g,cap,cur,rfl,hg,hh,_⟩
 ·simp[Value.ownBlock]
 ·have:=(Array.getElem?_eq_some_iff.1 hh).1;simp only[Value.ownBlock,ne_eq,Option.some.injEq];omega
theorem pE {ops:Array Oper}{rest:List Oper}{o:Oper}{a:Act}{Q:Exit->Act->World->Prop}{w:World}(hgd:o.guard=.none)(s x:Operand)
  (ho:o.op=.call {callee:=.builtin .append,args:=#[s,x],argTypes:=#[89,89]})(base:Nat)(v:Value)(l:List Pr)(hs:a.eval s=v)(hown:bj base w v l)
  (b off c:Nat)(hx:a.eval x=.slice (some ⟨b,off,.none⟩) 1 c)(y:Pr)(c0:w.cell? ⟨b,off,.none⟩=some (.int .i64 y.1))(c1:w.cell? ⟨b,off+1,.none⟩=some (.int .i64 y.2))(hl:l.length<1000000)(hbase:base<=w.heap.size)
  (h:∀ao n c w',bj base w' (.slice ao n c) (l++[y])->(∀w0,Below base w0 w->Below base w0 w')->(∀j,j<w.heap.size->v.ownBlock≠some j->w'.heap[j]? =w.heap[j]?)->wpList Tryz.prog ops Q rest (a.put o.dst (.slice ao n c)) w'):wpList Tryz.prog ops Q (o::rest) a w:=by
 obtain⟨i0,hi,hz0,hz1,hz2⟩:=info_parts eG;refine wpList_append_own w hgd s x 89 ho base 92 i0 _ 2 16 Tryz.underlying89 hi hz0 hz1 hz2 rfl (by decide) v _ _ hs hown ⟨b,off,.none⟩ 1 c (aG y) hx rfl ?_ (ew y) (by unfold maxLen;omega) (by omega) hbase ?_
 ·intro j u hj;simp only[aG]at hj
  match j,hj with
  |0,hj=>simp at hj;subst hj;simpa[Addr.add]using c0
  |1,hj=>simp at hj;subst hj;simpa[Addr.add]using c1
 ·intro v' w' h1 h2 _;obtain⟨s1,s2⟩:=bj.step hbase hown h2 h1;obtain⟨cW,n',c',rfl⟩:∃ao n c,v'=.slice ao n c:=by
   rcases h1.2 with⟨h,_⟩| ⟨g,cap,cur,h,_⟩
   ·exact⟨_,_,_,h⟩
   ·exact⟨_,_,_,h⟩
  exact h _ _ _ _ s1 s2 fun j hj hne=>h2.block j hj fun e=>hne e.symm
theorem Tn {z:Int}(h0:-4294967296<=z)(h1:z<=17179869184):wrap64 z=z:=by unfold wrap64;omega
end
section
end
end
end Go.Proofs.YtceoeaemenhbhabGreatDoor
namespace Go.Proofs.YtceoeaemenhbhabGreatDoor
section
open Go.RowKit
structure TX where
 free:List Pr
 pages:Nat
 fresh:Fr
 cnt:Nat
def cO (pages:Int)(room:Nat):Nat:=(max 2 (min pages (room:Int))).toNat
def TX.new (fr:List Pr)(pages:Int)(room:Nat):TX:=⟨uf fr [(2,(cO pages room:Int)-1)],cO pages room,fun _=>none,0⟩
def TX.alloc (x:TX)(room:Nat):(Int×Int)×TX:=
 match x.free with
 |r::s=>((r.1,0),⟨fX (r::s),x.pages,gy x.fresh r.1 c0,x.cnt+1⟩)
 |[]=>if room<=x.pages then((0,2),x)else(((x.pages:Int),0),⟨[],x.pages+1,gy x.fresh x.pages c0,x.cnt+1⟩)
def TX.drop (x:TX)(id:Int):TX:=if(x.fresh id).isSome=true then⟨Bw x.free [(id,id)],x.pages,qQ x.fresh id,x.cnt⟩else x
def TX.put (x:TX)(id:Int)(kind:UInt8)(s:ByteArray):Int×TX:=
 if(x.fresh id).isSome=true then(if 240<s.size then(50,x)else(0,⟨x.free,x.pages,gy x.fresh id ⟨true,kind,s⟩,x.cnt+1⟩))else(1,x)
structure TX.Ok (x:TX)(room:Nat):Prop where
 cn:Cn x.free
 p2:2<=x.pages
 pr:x.pages<=room
 fr:∀n,dh x.free n->2<=n∧n<x.pages
 fs:∀n,(x.fresh n).isSome=true->2<=n∧n<x.pages
 dj:∀n,dh x.free n->(x.fresh n).isSome=false
theorem Gn {p:Int}:∀(l:List Pr) (f:Int),f<=p->Cn l->(∀n,dh l n->f<=n∧n<p)->(l.length:Int)+f<=p
 |[],f,hf,_,_=>by simpa using hf
 |r::l,f,hf,hc,h=>by
  obtain⟨⟨r0,r1,r2⟩,_,hl⟩:=bB.1 hc;have a1:=h r.1 (hc.dQ (Int.le_refl _) r1);have a2:=h r.2 (hc.dQ r1 (Int.le_refl _));have ih:=Gn l (r.2+1) (by omega) hl (fun n hn=>⟨by have:=hc.e8 hn;omega,(h n ((aR _ _ _).2 (.inr hn))).2⟩);simp only[List.length_cons];omega
theorem TX.Ok.len {x:TX}{room:Nat}(h:x.Ok room):x.free.length<=x.pages:=by
 have:=Gn (p:=x.pages) x.free 2 (by have:=h.p2;omega) h.cn h.fr;omega
theorem z8 (pages:Int){room:Nat}(h:2<=room):2<=cO pages room∧cO pages room<=room:=by unfold cO;omega
theorem TX.zS (fr:List Pr)(pages:Int){room:Nat}(h:2<=room):(TX.new fr pages room).Ok room:=by
 obtain⟨h2,h3⟩:=z8 pages h;refine⟨nu _ _,h2,h3,fun n hn=>?_,(fun n hn=>by cases hn),fun n hn=>rfl⟩;have:=(nw _ _ n).1 hn;have:=(eI _ _).1 this.2;show _∧n< (cO pages room:Int);simp only at this;omega
theorem dC (g:Fr)(k:Int)(c:C3)(q:Int):(gy g k c q).isSome=(decide (q=k)||(g q).isSome):=by
 unfold gy;by_cases h:q=k<;>simp[h]
theorem nG (g:Fr)(k:Int)(q:Int):(qQ g k q).isSome=(!decide (q=k)&&(g q).isSome):=by
 unfold qQ;by_cases h:q=k<;>simp[h]
theorem TX.ru {x:TX}{room:Nat}(h:x.Ok room):(x.alloc room).2.Ok room:=by
 obtain⟨fr,p,g,c⟩:=x;unfold TX.alloc;cases fr with
 |cons r s=>
  obtain⟨_,d1,_,_,d2⟩:=xB h.cn;have r1:=h.fr r.1 (h.cn.dQ (Int.le_refl _) (bB.1 h.cn).1.2.1);refine⟨d1,h.p2,h.pr,fun n hn=>h.fr n ((d2 n).1 hn).1,fun n hn=>?_,fun n hn=>?_⟩
  ·rw[dC]at hn;rcases Bool.or_eq_true_iff.1 hn with e|e
   ·rw[of_decide_eq_true e];exact r1
   ·exact h.fs n e
  ·have k:=(d2 n).1 hn;have:=h.dj n k.1;simp only at this;rw[dC,this];simp;omega
 |nil=>
  simp only;split
  ·exact h
  ·rename_i hp
   have h2:=h.p2;simp only at h2;refine⟨Cn.nil,by simp only;omega,by simp only;omega,fun n hn=>absurd hn (dx n),fun n hn=>?_,fun n hn=>absurd hn (dx n)⟩;rw[dC]at hn;simp only;rcases Bool.or_eq_true_iff.1 hn with e|e
   ·rw[of_decide_eq_true e];omega
   ·have:=h.fs n e;simp only at this;omega
theorem TX.Bx {x:TX}{room:Nat}(h:x.Ok room)(id:Int):(x.drop id).Ok room:=by
 unfold TX.drop;split
 ·rename_i hi
  have k:=h.fs id hi;refine⟨Gf _ _,h.p2,h.pr,fun n hn=>?_,fun n hn=>?_,fun n hn=>?_⟩
  ·rcases(vn _ _ n).1 hn with e|e
   ·exact h.fr n e
   ·have:=(eI _ _).1 e;simp only at this;have e2:n=id:=by omega
    rw[e2];exact k
  ·rw[nG]at hn;exact h.fs n (Bool.and_eq_true_iff.1 hn).2
  ·rw[nG];rcases(vn _ _ n).1 hn with e|e
   ·rw[h.dj n e];simp
   ·have:=(eI _ _).1 e;simp only at this;have e2:n=id:=by omega
    simp[e2]
 ·exact h
theorem TX.Qu {x:TX}{room:Nat}(h:x.Ok room)(id:Int)(kind:UInt8)(s:ByteArray):(x.put id kind s).2.Ok room:=by
 unfold TX.put;split
 ·rename_i hi
  split
  ·exact h
  ·have k:=h.fs id hi;refine⟨h.cn,h.p2,h.pr,h.fr,fun n hn=>?_,fun n hn=>?_⟩
   ·rw[dC]at hn;rcases Bool.or_eq_true_iff.1 hn with e|e
    ·rw[of_decide_eq_true e];exact k
    ·exact h.fs n e
   ·rw[dC,h.dj n hn];have:n≠id:=fun e=>by
     have:=h.dj n hn;rw[e,hi]at this;cases this
    simp[this]
 ·exact h
end
section
open Go.RowKit
def Qv (r:(ByteArray×Int)×Dk):(ByteArray×Int)×Dk:=((r.1.1,if r.1.2=40 then 3 else r.1.2),r.2)
def TX.get (x:TX)(d:Dk)(id:Int)(kind:UInt8):(ByteArray×Int)×Dk:=
 match x.fresh id with
 |some c=>if c.there=true∧c.kind=kind then((c.body,0),d)else((ByteArray.empty,3),d)
 |none=>if(x.pages:Int)<=id∨hasB x.free id=true then((ByteArray.empty,3),d)else Qv (d.rd id kind)
end
end Go.Proofs.YtceoeaemenhbhabGreatDoor
