/- Walks of the package cowtree and of what it stands on: lemmas, made short. -/
import Derived.Sort.Statements
import Derived.Lib.Small
import Derived.Shelf.SlSortCmp.KitK
import Derived.Shelf.SlSortCmp.QuietGrown
import Derived.Lib.SliceRun
import Derived.Laws.AppendOwnNone
import Derived.WalkKit
import Derived.WalkSpells
import Derived.WalkLawsBesides
import Derived.Deep.RegionHeld3
import Derived.Test.YtceoeaemenhbhaaGreatDoorProg
import Derived.Test.YtceoeaemenhbhaaGreatDoorD1
import Derived.BigQuiet
import Derived.Deep.DeepCutAuto
set_option maxHeartbeats 16000000
set_option maxRecDepth 100000
set_option linter.unusedVariables false
set_option linter.unusedSimpArgs false
namespace Go.Proofs.YtceoeaemenhbhaaGreatDoor
open Go.Shelf Go.RowKit Go.Lib Go.Sort
section
section
abbrev Pr:=Int×Int
def dt (l:List Pr)(n:Int):Prop:=0<=n∧n<=4294967295∧∃r∈l,r.1<=n∧n<=r.2
def Qg (n:Int)(r:Pr):Bool:=decide (r.1<=n)&&decide (n<=r.2)
def hasB (l:List Pr)(n:Int):Bool:=(decide (0<=n)&&decide (n<=4294967295))&&l.any (Qg n)
theorem eR (l:List Pr)(n:Int):hasB l n=true↔dt l n:=by
 unfold hasB dt Qg;simp only[Bool.and_eq_true,decide_eq_true_eq,List.any_eq_true];constructor
 ·rintro⟨⟨h1,h2⟩,h3⟩;exact⟨h1,h2,h3⟩
 ·rintro⟨h1,h2,h3⟩;exact⟨⟨h1,h2⟩,h3⟩
theorem Gq {l:List Pr}{n:Int}(h:dt l n):hasB l n=true:=(eR l n).2 h
theorem jh {l:List Pr}{n:Int}(h:¬dt l n):hasB l n=false:=by
 cases e:hasB l n with
 |false=>rfl
 |true=>exact absurd ((eR l n).1 e) h
theorem pA {l:List Pr}{n:Int}{b:Bool}(h:dt l n↔b=true):hasB l n=b:=by
 cases b with
 |true=>exact Gq (h.2 rfl)
 |false=>exact jh fun k=>by have:=h.1 k;cases this
def Cn (l:List Pr):Prop:=(∀r∈l,0<=r.1∧r.1<=r.2∧r.2<=4294967295)∧l.Pairwise fun r s=>r.2+1<s.1
theorem Cn.nil:Cn []:=⟨fun _ h=>by simp at h,List.Pairwise.nil⟩
theorem bC {r:Pr}{l:List Pr}:Cn (r::l)↔(0<=r.1∧r.1<=r.2∧r.2<=4294967295)∧(∀s∈l,r.2+1<s.1)∧Cn l:=by
 unfold Cn;rw[List.pairwise_cons];constructor
 ·rintro⟨h1,h2,h3⟩;exact⟨h1 r (by simp),h2,fun s hs=>h1 s (by simp[hs]),h3⟩
 ·rintro⟨h1,h2,h3,h4⟩;refine⟨fun s hs=>?_,h2,h4⟩;rcases List.mem_cons.1 hs with rfl|hs
  ·exact h1
  ·exact h3 s hs
theorem j7 {r:Pr}{l:List Pr}:Cn (l++[r])↔Cn l∧(∀s∈l,s.2+1<r.1)∧(0<=r.1∧r.1<=r.2∧r.2<=4294967295):=by
 unfold Cn;rw[List.pairwise_append];constructor
 ·rintro⟨h1,h2,_,h4⟩;exact⟨⟨fun s hs=>h1 s (by simp[hs]),h2⟩,fun s hs=>h4 s hs r (by simp),h1 r (by simp)⟩
 ·rintro⟨⟨h1,h2⟩,h3,h4⟩;refine⟨fun s hs=>?_,h2,by simp,fun s hs t ht=>?_⟩
  ·rcases List.mem_append.1 hs with hs|hs
   ·exact h1 s hs
   ·rw[List.mem_singleton.1 hs];exact h4
  ·rw[List.mem_singleton.1 ht];exact h3 s hs
theorem dA (n:Int):¬dt [] n:=fun⟨_,_,r,h,_⟩=>by simp at h
theorem aR (r:Pr)(l:List Pr)(n:Int):dt (r::l) n↔(0<=n∧n<=4294967295∧r.1<=n∧n<=r.2)∨dt l n:=by
 unfold dt;constructor
 ·rintro⟨h1,h2,s,hs,h3,h4⟩;rcases List.mem_cons.1 hs with rfl|hs
  ·exact Or.inl ⟨h1,h2,h3,h4⟩
  ·exact Or.inr ⟨h1,h2,s,hs,h3,h4⟩
 ·rintro(⟨h1,h2,h3,h4⟩| ⟨h1,h2,s,hs,h3,h4⟩)
  ·exact⟨h1,h2,r,by simp,h3,h4⟩
  ·exact⟨h1,h2,s,by simp[hs],h3,h4⟩
theorem et (l m:List Pr)(n:Int):dt (l++m) n↔dt l n∨dt m n:=by
 induction l with
 |nil=>simp[dA]
 |cons r l ih=>rw[List.cons_append,aR,aR,ih];exact or_assoc.symm
theorem eK (r:Pr)(n:Int):dt [r] n↔0<=n∧n<=4294967295∧r.1<=n∧n<=r.2:=by
 rw[aR];simp[dA]
theorem Cn.fc {r:Pr}{l:List Pr}(h:Cn (r::l)){n:Int}(hn:dt l n):r.2+1<n:=by
 obtain⟨_,h2,_⟩:=bC.1 h;obtain⟨_,_,s,hs,h3,_⟩:=hn;have:=h2 s hs;omega
theorem Cn.uZ {r:Pr}{l:List Pr}(h:Cn (r::l)){n:Int}(hn:dt (r::l) n):r.1<=n:=by
 obtain⟨h1,_,_⟩:=bC.1 h;rcases(aR r l n).1 hn with h2|h2
 ·omega
 ·have:=h.fc h2;omega
theorem Cn.dR {r:Pr}{l:List Pr}(h:Cn (r::l)){n:Int}(h1:r.1<=n)(h2:n<=r.2):dt (r::l) n:=by
 obtain⟨h3,_,_⟩:=bC.1 h;exact(aR r l n).2 (Or.inl ⟨by omega,by omega,h1,h2⟩)
theorem Cn.BJ {r:Pr}{l:List Pr}(h:Cn (r::l))(n:Int):dt l n↔dt (r::l) n∧r.2<n:=by
 constructor
 ·intro hn;have:=h.fc hn;exact⟨(aR r l n).2 (Or.inr hn),by omega⟩
 ·rintro⟨h1,h2⟩;rcases(aR r l n).1 h1 with h3|h3
  ·omega
  ·exact h3
theorem qU:∀(l m:List Pr),Cn l->Cn m->(∀n,dt l n↔dt m n)->l=m
 |[],[],_,_,_=>rfl
 |[],s::m,_,hm,h=>by
  obtain⟨h1,_,_⟩:=bC.1 hm;exact absurd ((h s.1).2 (hm.dR (Int.le_refl _) (by omega))) (dA _)
 |r::l,[],hl,_,h=>by
  obtain⟨h1,_,_⟩:=bC.1 hl;exact absurd ((h r.1).1 (hl.dR (Int.le_refl _) (by omega))) (dA _)
 |r::l,s::m,hl,hm,h=>by
  have hr:=(bC.1 hl).1;have hs:=(bC.1 hm).1;have e1:r.1=s.1:=by
   have a:=hm.uZ ((h r.1).1 (hl.dR (Int.le_refl _) (by omega)));have b:=hl.uZ ((h s.1).2 (hm.dR (Int.le_refl _) (by omega)));omega
  have e2:r.2=s.2:=by
   rcases Int.lt_trichotomy r.2 s.2 with c|c|c
   ·have a:=(h (r.2+1)).2 (hm.dR (by omega) (by omega));rcases(aR r l _).1 a with a|a
    ·omega
    ·have:=hl.fc a;omega
   ·exact c
   ·have a:=(h (s.2+1)).1 (hl.dR (by omega) (by omega));rcases(aR s m _).1 a with a|a
    ·omega
    ·have:=hm.fc a;omega
  have e:r=s:=by
   obtain⟨a,b⟩:=r;obtain⟨c,d⟩:=s;rw[Prod.mk.injEq];exact⟨e1,e2⟩
  subst e;rw[qU l m (bC.1 hl).2.2 (bC.1 hm).2.2 fun n=>by rw[hl.BJ,hm.BJ,h n]]
def cE (r:Pr):Pr:=(max r.1 0,min r.2 4294967295)
def gp (r:Pr)(done:Bool):List Pr->List Pr
 |[]=>if done then []else [r]
 |y::l=>
  if y.2+1<r.1 then y::gp r done l
  else if r.2+1<y.1 then(if done then y::gp r done l else r::y::gp r true l)
  else gp (min r.1 y.1,max r.2 y.2) done l
def ji (l:List Pr)(x:Pr):List Pr:=if(cE x).1<=(cE x).2 then gp (cE x) false l else l
def oz (l:List Pr):List Pr:=l.foldl ji []
def BK (a b:List Pr):List Pr:=oz (a++b)
def Vc (out:List Pr)(r:Pr):List Pr:=out.foldl (fun nx y=>ji (ji nx (y.1,min y.2 (r.1-1))) (max y.1 (r.2+1),y.2)) []
def D8 (out:List Pr)(x:Pr):List Pr:=if(cE x).1<=(cE x).2 then Vc out (cE x)else out
def Qh (a b:List Pr):List Pr:=b.foldl D8 (oz a)
def ub (a b:List Pr):List Pr:=Qh a (Qh a b)
def jk (s:List Pr):Int:=s.foldl (fun n r=>n+r.2-r.1+1) 0
theorem kU:∀(l:List Pr) (r:Pr),r.1<=r.2->Cn l->(∀y∈l,r.2+1<y.1)->gp r true l=l
 |[],_,_,_,_=>rfl
 |y::l,r,hr,hl,h=>by
  have h1:=h y (by simp);obtain⟨h2,_,h4⟩:=bC.1 hl;rw[gp,if_neg (by omega),if_pos h1,if_pos rfl,kU l r hr h4 fun z hz=>h z (by simp[hz])]
theorem qV:∀(l:List Pr) (r:Pr) (z:Pr),r.1<=r.2->Cn l->z∈gp r false l->r.1<=z.1∨∃y∈l,y.1<=z.1
 |[],r,z,_,_,hz=>by
  simp[gp]at hz;rw[hz];exact Or.inl (Int.le_refl _)
 |y::l,r,z,hr,hl,hz=>by
  obtain⟨h2,h3,h4⟩:=bC.1 hl;rw[gp]at hz;split at hz
  ·rcases List.mem_cons.1 hz with rfl|hz
   ·exact Or.inr ⟨z,by simp,Int.le_refl _⟩
   ·rcases qV l r z hr h4 hz with h| ⟨s,hs,h⟩
    ·exact Or.inl h
    ·exact Or.inr ⟨s,by simp[hs],h⟩
  ·split at hz
   ·rw[if_neg (by simp),kU l r hr h4 fun s hs=>by have:=h3 s hs;omega]at hz;rcases List.mem_cons.1 hz with rfl|hz
    ·exact Or.inl (Int.le_refl _)
    ·exact Or.inr ⟨z,hz,Int.le_refl _⟩
   ·rcases qV l _ z (by simp only;omega) h4 hz with h| ⟨s,hs,h⟩
    ·simp only at h;rcases Int.le_total r.1 y.1 with c|c
     ·exact Or.inl (by omega)
     ·exact Or.inr ⟨y,by simp,by omega⟩
    ·exact Or.inr ⟨s,by simp[hs],h⟩
theorem qX:∀(l:List Pr) (r:Pr),0<=r.1->r.1<=r.2->r.2<=4294967295->Cn l->Cn (gp r false l)∧∀n,dt (gp r false l) n↔dt (r::l) n
 |[],r,h0,hr,h1,_=>by
  refine⟨?_,fun n=>Iff.rfl⟩;show Cn [r];exact bC.2 ⟨⟨h0,hr,h1⟩,fun _ h=>by simp at h,Cn.nil⟩
 |y::l,r,h0,hr,h1,hl=>by
  obtain⟨h2,h3,h4⟩:=bC.1 hl;rw[gp];split
  ·obtain⟨c1,c2⟩:=qX l r h0 hr h1 h4;refine⟨bC.2 ⟨h2,fun s hs=>?_,c1⟩,fun n=>?_⟩
   ·rcases qV l r s hr h4 hs with h| ⟨t,ht,h⟩
    ·omega
    ·have:=h3 t ht;omega
   ·rw[aR,c2 n,aR,aR,aR];constructor
    ·rintro(h|h|h)
     ·exact Or.inr (Or.inl h)
     ·exact Or.inl h
     ·exact Or.inr (Or.inr h)
    ·rintro(h|h|h)
     ·exact Or.inr (Or.inl h)
     ·exact Or.inl h
     ·exact Or.inr (Or.inr h)
  ·split
   ·rw[if_neg (by simp),kU l r hr h4 fun s hs=>by have:=h3 s hs;omega];refine⟨bC.2 ⟨⟨h0,hr,h1⟩,fun s hs=>?_,hl⟩,fun n=>Iff.rfl⟩;rcases List.mem_cons.1 hs with rfl|hs
    ·assumption
    ·have:=h3 s hs;omega
   ·obtain⟨c1,c2⟩:=qX l (min r.1 y.1,max r.2 y.2) (by simp only;omega) (by simp only;omega) (by simp only;omega) h4;refine⟨c1,fun n=>?_⟩;rw[c2 n,aR,aR,aR];simp only;constructor
    ·rintro(h|h)
     ·by_cases k:r.1<=n∧n<=r.2
      ·exact Or.inl ⟨h.1,h.2.1,k.1,k.2⟩
      ·exact Or.inr (Or.inl (by omega))
     ·exact Or.inr (Or.inr h)
    ·rintro(h|h|h)
     ·exact Or.inl (by omega)
     ·exact Or.inl (by omega)
     ·exact Or.inr h
theorem fD:∀(l:List Pr) (r:Pr) (d:Bool),(gp r d l).length<=l.length+(if d then 0 else 1)
 |[],r,d=>by cases d<;>simp[gp]
 |y::l,r,d=>by
  rw[gp];split
  ·have:=fD l r d;simp only[List.length_cons];omega
  ·split
   ·cases d with
    |true=>have:=fD l r true;simp at*;omega
    |false=>have:=fD l r true;simp at*;omega
   ·have:=fD l (min r.1 y.1,max r.2 y.2) d;simp only[List.length_cons];omega
theorem Gr (x:Pr)(l:List Pr)(n:Int):dt (cE x::l) n↔dt (x::l) n:=by
 rw[aR,aR];simp only[cE];constructor
 ·rintro(h|h)
  ·exact Or.inl (by omega)
  ·exact Or.inr h
 ·rintro(h|h)
  ·exact Or.inl (by omega)
  ·exact Or.inr h
theorem vd (l:List Pr)(x:Pr)(h:Cn l):Cn (ji l x)∧∀n,dt (ji l x) n↔dt (x::l) n:=by
 unfold ji;by_cases c:(cE x).1<=(cE x).2
 ·rw[if_pos c];obtain⟨c1,c2⟩:=qX l (cE x) (by simp only[cE];omega) c (by simp only[cE];omega) h;exact⟨c1,fun n=>by rw[c2 n,Gr]⟩
 ·rw[if_neg c];refine⟨h,fun n=>?_⟩;rw[aR];constructor
  ·exact Or.inr
  ·rintro(k|k)
   ·simp only[cE]at c;omega
   ·exact k
theorem jH (l:List Pr)(x:Pr):(ji l x).length<=l.length+1:=by
 unfold ji;split
 ·exact fD l _ false
 ·omega
theorem ia:∀(l m:List Pr),Cn m->Cn (l.foldl ji m)∧(∀n,dt (l.foldl ji m) n↔dt l n∨dt m n)∧(l.foldl ji m).length<=m.length+l.length
 |[],m,h=>⟨h,fun n=>by simp[dA],by simp⟩
 |x::l,m,h=>by
  obtain⟨c1,c2⟩:=vd m x h;obtain⟨d1,d2,d3⟩:=ia l (ji m x) c1;refine⟨d1,fun n=>?_,?_⟩
  ·rw[List.foldl_cons,d2 n,c2 n,aR,aR];constructor
   ·rintro(k|k|k)
    ·exact Or.inl (Or.inr k)
    ·exact Or.inl (Or.inl k)
    ·exact Or.inr k
   ·rintro((k|k)|k)
    ·exact Or.inr (Or.inl k)
    ·exact Or.inl k
    ·exact Or.inr (Or.inr k)
  ·have:=jH m x;rw[List.foldl_cons,List.length_cons];omega
theorem jI (l:List Pr):Cn (oz l):=(ia l [] Cn.nil).1
theorem kV (l:List Pr)(n:Int):dt (oz l) n↔dt l n:=by
 rw[oz,(ia l [] Cn.nil).2.1 n];simp[dA]
theorem qY (l:List Pr):(oz l).length<=l.length:=by
 have:=(ia l [] Cn.nil).2.2;rw[oz];simpa using this
theorem Gs {s l:List Pr}(h:Cn s)(k:∀n,dt s n↔dt l n):s=oz l:=qU _ _ h (jI l) fun n=>by rw[k n,kV]
theorem ud {s:List Pr}(h:Cn s):oz s=s:=(Gs h fun _=>Iff.rfl).symm
theorem xD:∀(l m:List Pr) (r:Pr),0<=r.1->r.2<=4294967295->r.1<=r.2->Cn m->(∀y∈l,0<=y.1∧y.1<=y.2∧y.2<=4294967295)->
    Cn (l.foldl (fun nx y=>ji (ji nx (y.1,min y.2 (r.1-1))) (max y.1 (r.2+1),y.2)) m)∧(∀n,dt (l.foldl (fun nx y=>ji (ji nx (y.1,min y.2 (r.1-1))) (max y.1 (r.2+1),y.2)) m) n↔(dt l n∧¬(r.1<=n∧n<=r.2))∨dt m n)∧
    (l.foldl (fun nx y=>ji (ji nx (y.1,min y.2 (r.1-1))) (max y.1 (r.2+1),y.2)) m).length<=m.length+2*l.length
  | [],m,_,_,_,_,hm,_=>⟨hm,fun n=>by simp[dA],by simp⟩
  | y::l,m,r,h0,h1,h2,hm,hy=>by
    obtain⟨c1,c2⟩:=vd m (y.1,min y.2 (r.1-1)) hm;obtain⟨d1,d2⟩:=vd _ (max y.1 (r.2+1),y.2) c1;obtain⟨e1,e2,e3⟩:=xD l _ r h0 h1 h2 d1 fun z hz=>hy z (by simp[hz]);refine⟨e1,fun n=>?_,?_⟩
    · rw[List.foldl_cons,e2 n,d2 n,aR,c2 n,aR,aR];simp only;constructor
      · rintro(⟨k1,k2⟩|k|k|k)
        · exact Or.inl ⟨Or.inr k1,k2⟩
        · exact Or.inl ⟨Or.inl (by omega),by omega⟩
        · exact Or.inl ⟨Or.inl (by omega),by omega⟩
        · exact Or.inr k
      · rintro(⟨k1|k1,k2⟩|k)
        · by_cases c:n<r.1
          · exact Or.inr (Or.inr (Or.inl (by omega)))
          · exact Or.inr (Or.inl (by omega))
        · exact Or.inl ⟨k1,k2⟩
        · exact Or.inr (Or.inr (Or.inr k))
    · have a:=jH m (y.1,min y.2 (r.1-1));have b:=jH (ji m (y.1,min y.2 (r.1-1))) (max y.1 (r.2+1),y.2);rw[List.foldl_cons,List.length_cons];omega
theorem LO (out:List Pr)(x:Pr)(h:Cn out):Cn (D8 out x)∧(∀n,dt (D8 out x) n↔dt out n∧¬dt [x] n):=by
 unfold D8 Vc;by_cases c:(cE x).1<=(cE x).2
 ·rw[if_pos c];obtain⟨c1,c2,_⟩:=xD out [] (cE x) (by simp only[cE];omega) (by simp only[cE];omega) c Cn.nil h.1;refine⟨c1,fun n=>?_⟩;rw[c2 n,eK];constructor
  ·rintro(⟨k1,k2⟩|k)
   ·refine⟨k1,fun k3=>k2 ?_⟩;simp only[cE];omega
   ·exact absurd k (dA _)
  ·rintro⟨k1,k2⟩;refine Or.inl ⟨k1,fun k3=>k2 ?_⟩;simp only[cE]at k3;have:=k1.1;have:=k1.2.1;omega
 ·rw[if_neg c];refine⟨h,fun n=>⟨fun k=>⟨k,fun k2=>?_⟩,fun k=>k.1⟩⟩;rw[eK]at k2;simp only[cE]at c;omega
theorem vg:∀(b m:List Pr),Cn m->Cn (b.foldl D8 m)∧∀n,dt (b.foldl D8 m) n↔dt m n∧¬dt b n
 |[],m,h=>⟨h,fun n=>by simp[dA]⟩
 |x::b,m,h=>by
  obtain⟨c1,c2⟩:=LO m x h;obtain⟨d1,d2⟩:=vg b _ c1;refine⟨d1,fun n=>?_⟩;rw[List.foldl_cons,d2 n,c2 n,eK,aR];constructor
  ·rintro⟨⟨k1,k2⟩,k3⟩;exact⟨k1,fun k=>k.elim k2 k3⟩
  ·rintro⟨k1,k2⟩;exact⟨⟨k1,fun k=>k2 (Or.inl k)⟩,fun k=>k2 (Or.inr k)⟩
theorem Gu (a b:List Pr):Cn (Qh a b):=(vg b _ (jI a)).1
theorem z8 (a b:List Pr)(n:Int):dt (Qh a b) n↔dt a n∧¬dt b n:=by rw[Qh,(vg b _ (jI a)).2 n,kV]
theorem nt (a b:List Pr):Cn (ub a b):=Gu _ _
theorem nu (a b:List Pr)(n:Int):dt (ub a b) n↔dt a n∧dt b n:=by
 rw[ub,z8,z8];constructor
 ·rintro⟨h1,h2⟩;refine⟨h1,?_⟩;by_cases c:dt b n
  ·exact c
  ·exact absurd ⟨h1,c⟩ h2
 ·rintro⟨h1,h2⟩;exact⟨h1,fun h=>h.2 h2⟩
theorem Gx (a b:List Pr):Cn (BK a b):=jI _
theorem vh (a b:List Pr)(n:Int):dt (BK a b) n↔dt a n∨dt b n:=by rw[BK,kV,et]
theorem Qi {s a b:List Pr}(h:Cn s)(k:∀n,dt s n↔dt a n∧¬dt b n):s=Qh a b:=qU _ _ h (Gu a b) fun n=>by rw[k n,z8]
theorem Gy {s a b:List Pr}(h:Cn s)(k:∀n,dt s n↔dt a n∧dt b n):s=ub a b:=qU _ _ h (nt a b) fun n=>by rw[k n,nu]
end
section
def jl (l:List Pr):List Pr:=(l.map cE).filter fun r=>decide (r.1<=r.2)
theorem LP (l:List Pr):∀r∈jl l,0<=r.1∧r.1<=r.2∧r.2<=4294967295:=fun r hr=>by
 obtain⟨h1,h2⟩:=List.mem_filter.1 hr;obtain⟨x,_,rfl⟩:=List.mem_map.1 h1;rw[decide_eq_true_eq]at h2;simp only[cE]at*;omega
theorem LQ (l:List Pr)(n:Int):dt (jl l) n↔dt l n:=by
 constructor
 ·rintro⟨h1,h2,r,hr,h3,h4⟩;obtain⟨hm,_⟩:=List.mem_filter.1 hr;obtain⟨x,hx,rfl⟩:=List.mem_map.1 hm;simp only[cE]at h3 h4;exact⟨h1,h2,x,hx,by omega,by omega⟩
 ·rintro⟨h1,h2,r,hr,h3,h4⟩;refine⟨h1,h2,cE r,List.mem_filter.2 ⟨List.mem_map.2 ⟨r,hr,rfl⟩,?_⟩,?_,?_⟩
  ·rw[decide_eq_true_eq];simp only[cE];omega
  ·simp only[cE];omega
  ·simp only[cE];omega
theorem jJ (l:List Pr):(jl l).length<=l.length:=by
 have:=List.length_filter_le (fun r=>decide (r.1<=r.2)) (l.map cE);rw[List.length_map]at this;exact this
theorem tx (l:List Pr)(x:Pr)(h:(cE x).1<=(cE x).2):jl (l++[x])=jl l++[cE x]:=by
 unfold jl;rw[List.map_append,List.filter_append];simp[h]
theorem vn (l:List Pr)(x:Pr)(h:¬(cE x).1<=(cE x).2):jl (l++[x])=jl l:=by
 unfold jl;rw[List.map_append,List.filter_append];simp[h]
theorem Gz {l m:List Pr}(h:∀x,x∈l↔x∈m)(n:Int):dt l n↔dt m n:=by
 constructor
 ·rintro⟨h1,h2,r,hr,h3⟩;exact⟨h1,h2,r,(h r).1 hr,h3⟩
 ·rintro⟨h1,h2,r,hr,h3⟩;exact⟨h1,h2,r,(h r).2 hr,h3⟩
def OS (t:List Pr):Prop:=(∀r∈t,0<=r.1∧r.1<=r.2∧r.2<=4294967295)∧t.Pairwise fun r s=>r.1<=s.1
structure jK (done rest set:List Pr):Prop where
 cn:Cn set
 same:∀n,dt set n↔dt done n
 le:∀r∈set,∀x∈rest,r.1<=x.1
 len:set.length<=done.length
theorem jK.start (t:List Pr):jK [] t []:=⟨Cn.nil,fun _=>Iff.rfl,fun _ h=>by simp at h,Nat.le_refl _⟩
theorem jK.join {done rest pre:List Pr}{a b:Int}{x:Pr}(h:jK done (x::rest) (pre++[(a,b)]))(ht:OS (x::rest))(h2:x.1<=b+1):jK (done++[x]) rest (pre++[(a,max b x.2)]):=by
 obtain⟨c1,c2,c3⟩:=j7.1 h.cn;simp only at c2 c3;have hx:=ht.1 x (by simp);have hax:a<=x.1:=h.le (a,b) (by simp) x (by simp);refine⟨j7.2 ⟨c1,c2,by simp only;omega⟩,fun n=>?_,fun r hr y hy=>?_,?_⟩
 ·rw[et done,<-h.same n,et,et,eK,eK,eK];simp only;constructor
  ·rintro(k|k)
   ·exact Or.inl (Or.inl k)
   ·by_cases c:n<=b
    ·exact Or.inl (Or.inr (by omega))
    ·exact Or.inr (by omega)
  ·rintro((k|k)|k)
   ·exact Or.inl k
   ·exact Or.inr (by omega)
   ·exact Or.inr (by omega)
 ·rcases List.mem_append.1 hr with hr|hr
  ·exact h.le r (by simp[hr]) y (by simp[hy])
  ·rw[List.mem_singleton.1 hr];exact h.le (a,b) (by simp) y (by simp[hy])
 ·have:=h.len;simp only[List.length_append,List.length_cons,List.length_nil]at*;omega
theorem jK.add {done rest set:List Pr}{x:Pr}(h:jK done (x::rest) set)(ht:OS (x::rest))(h2:∀r∈set,r.2+1<x.1):jK (done++[x]) rest (set++[x]):=by
 refine⟨j7.2 ⟨h.cn,h2,ht.1 x (by simp)⟩,fun n=>?_,fun r hr y hy=>?_,?_⟩
 ·rw[et,et,h.same n]
 ·rcases List.mem_append.1 hr with hr|hr
  ·exact h.le r hr y (by simp[hy])
  ·rw[List.mem_singleton.1 hr];exact(List.pairwise_cons.1 ht.2).1 y hy
 ·have:=h.len;simp only[List.length_append,List.length_cons,List.length_nil]at*;omega
theorem Cn.LR {pre:List Pr}{r:Pr}(h:Cn (pre++[r])){m:Int}(hm:r.2+1<m):∀s∈pre++[r],s.2+1<m:=fun s hs=>by
 obtain⟨_,c2,c3⟩:=j7.1 h;rcases List.mem_append.1 hs with hs|hs
 ·have:=c2 s hs;omega
 ·rw[List.mem_singleton.1 hs];exact hm
def mr (x y:Pr):List Pr:=if max x.1 y.1<=min x.2 y.2 then [(max x.1 y.1,min x.2 y.2)]else []
structure jL (a b a' b' both:List Pr):Prop where
 ca:Cn a'
 cb:Cn b'
 cn:Cn both
 same:∀n,(dt a n∧dt b n)↔dt both n∨(dt a' n∧dt b' n)
 lt:∀r∈both,∀n,dt a' n->dt b' n->r.2+1<n
 len:both.length+a'.length+b'.length<=a.length+b.length
theorem jL.start {a b:List Pr}(ha:Cn a)(hb:Cn b):jL a b a b []:=⟨ha,hb,Cn.nil,fun n=>by simp[dA],fun _ h=>by simp at h,by simp⟩
theorem GA (x y:Pr)(n:Int):dt (mr x y) n↔0<=n∧n<=4294967295∧x.1<=n∧n<=x.2∧y.1<=n∧n<=y.2:=by
 unfold mr;split
 ·rw[eK];simp only;omega
 ·constructor
  ·intro h;exact absurd h (dA n)
  ·intro h;omega
theorem OT {both:List Pr}{x y:Pr}(h:Cn both)(hx:0<=x.1∧x.1<=x.2∧x.2<=4294967295)(hy:0<=y.1∧y.1<=y.2∧y.2<=4294967295)(hlt:∀r∈both,∀n,x.1<=n->n<=x.2->y.1<=n->n<=y.2->r.2+1<n):Cn (both++mr x y):=by
 unfold mr;split
 ·refine j7.2 ⟨h,fun s hs=>?_,by simp only;omega⟩;exact hlt s hs (max x.1 y.1) (by omega) (by omega) (by omega) (by omega)
 ·rw[List.append_nil];exact h
theorem GG {x y r:Pr}(h:r∈mr x y):r.2=min x.2 y.2:=by
 unfold mr at h;split at h
 ·rw[List.mem_singleton.1 h]
 ·simp at h
theorem uf (x y:Pr):(mr x y).length<=1:=by unfold mr;split<;>simp
theorem jL.left {a b a' b' both:List Pr}{x y:Pr}(h:jL a b (x::a') (y::b') both)(hl:x.2<y.2):jL a b a' (y::b') (both++mr x y):=by
 obtain⟨a1,a2,a3⟩:=bC.1 h.ca;obtain⟨b1,b2,b3⟩:=bC.1 h.cb;refine⟨a3,h.cb,OT h.cn a1 b1 fun r hr n k1 k2 k3 k4=>h.lt r hr n (h.ca.dR k1 k2) (h.cb.dR k3 k4),fun n=>?_,fun r hr n k1 k2=>?_,?_⟩
 ·rw[h.same n,et,GA,aR x a' n,aR y b' n];constructor
  ·rintro(k| ⟨k1|k1,k2|k2⟩)
   ·exact Or.inl (Or.inl k)
   ·exact Or.inl (Or.inr (by omega))
   ·have:=h.cb.fc k2;omega
   ·exact Or.inr ⟨k1,Or.inl k2⟩
   ·exact Or.inr ⟨k1,Or.inr k2⟩
  ·rintro((k|k)| ⟨k1,k2⟩)
   ·exact Or.inl k
   ·exact Or.inr ⟨Or.inl (by omega),Or.inl (by omega)⟩
   ·exact Or.inr ⟨Or.inr k1,k2⟩
 ·rcases List.mem_append.1 hr with hr|hr
  ·exact h.lt r hr n ((aR x a' n).2 (Or.inr k1)) k2
  ·have e:=GG hr;have:=h.ca.fc k1;omega
 ·have:=h.len;have:=uf x y;simp only[List.length_append,List.length_cons]at*;omega
theorem jL.right {a b a' b' both:List Pr}{x y:Pr}(h:jL a b (x::a') (y::b') both)(hl:¬x.2<y.2):jL a b (x::a') b' (both++mr x y):=by
 obtain⟨a1,a2,a3⟩:=bC.1 h.ca;obtain⟨b1,b2,b3⟩:=bC.1 h.cb;refine⟨h.ca,b3,OT h.cn a1 b1 fun r hr n k1 k2 k3 k4=>h.lt r hr n (h.ca.dR k1 k2) (h.cb.dR k3 k4),fun n=>?_,fun r hr n k1 k2=>?_,?_⟩
 ·rw[h.same n,et,GA,aR x a' n,aR y b' n];constructor
  ·rintro(k| ⟨k1|k1,k2|k2⟩)
   ·exact Or.inl (Or.inl k)
   ·exact Or.inl (Or.inr (by omega))
   ·exact Or.inr ⟨Or.inl k1,k2⟩
   ·have:=h.ca.fc k1;omega
   ·exact Or.inr ⟨Or.inr k1,k2⟩
  ·rintro((k|k)| ⟨k1,k2⟩)
   ·exact Or.inl k
   ·exact Or.inr ⟨Or.inl (by omega),Or.inl (by omega)⟩
   ·exact Or.inr ⟨k1,Or.inr k2⟩
 ·rcases List.mem_append.1 hr with hr|hr
  ·exact h.lt r hr n k1 ((aR y b' n).2 (Or.inr k2))
  ·have e:=GG hr;have:=h.cb.fc k2;omega
 ·have:=h.len;have:=uf x y;simp only[List.length_append,List.length_cons]at*;omega
theorem jL.fin {a b a' b' both:List Pr}(h:jL a b a' b' both)(he:a'=[]∨b'=[]):both=ub a b∧both.length<=a.length+b.length:=by
 refine⟨Gy h.cn fun n=>?_,by have:=h.len;omega⟩;rw[h.same n];constructor
 ·exact Or.inl
 ·rintro(k| ⟨k1,k2⟩)
  ·exact k
  ·rcases he with rfl|rfl
   ·exact absurd k1 (dA n)
   ·exact absurd k2 (dA n)
theorem Qj (a b:List Pr):ub (oz a) (oz b)=ub a b:=Gy (nt _ _) fun n=>by rw[nu,kV,kV]
theorem GI (s:List Pr):∀n:Int,s.foldl (fun n r=>n+r.2-r.1+1) n=n+jk s:=by
 unfold jk
 induction s with
 |nil=>intro n;simp
 |cons r s ih=>intro n;rw[List.foldl_cons,List.foldl_cons,ih,ih (0+r.2-r.1+1)];omega
theorem pB:jk []=0:=rfl
theorem mh (r:Pr)(s:List Pr):jk (r::s)=(r.2-r.1+1)+jk s:=by
 rw[jk,List.foldl_cons,GI];omega
theorem ug {α:Type}(p q:α->Bool)(l:List α):l.countP (fun x=>p x||q x)+l.countP (fun x=>p x&&q x)=l.countP p+l.countP q:=by
 induction l with
 |nil=>simp
 |cons x l ih=>
  simp only[List.countP_cons];cases p x<;>cases q x<;>simp at* <;>omega
theorem jM (a b:Nat)(hab:a<=b):∀B:Nat,(List.range B).countP (fun k=>decide (a<=k∧k<=b))=min (b+1) B-min a B
 |0=>by simp
 |B+1=>by
  rw[List.range_succ,List.countP_append,jM a b hab B];by_cases c:a<=B∧B<=b
  ·simp[c];omega
  ·simp[c];omega
theorem qZ (B:Nat)(hB:(B:Int)=4294967296):∀s:List Pr,Cn s->jk s=((List.range B).countP (fun k:Nat=>hasB s (k:Int)):Nat)
 |[],_=>by simp[pB,hasB]
 |r::s,h=>by
  obtain⟨h1,h2,h3⟩:=bC.1 h;have ih:=qZ B hB s h3;have e0:=ug (fun k:Nat=>decide (r.1.toNat<=k∧k<=r.2.toNat)) (fun k:Nat=>hasB s (k:Int)) (List.range B);have e1:=jM r.1.toNat r.2.toNat (by omega) B;have e2:(List.range B).countP (fun k:Nat=>decide (r.1.toNat<=k∧k<=r.2.toNat)&&hasB s (k:Int))=0:=by
   rw[List.countP_eq_zero];intro k _ hk;simp only[Bool.and_eq_true,decide_eq_true_eq,eR]at hk;have:=h.fc hk.2;omega
  have e3:(List.range B).countP (fun k:Nat=>hasB (r::s) (k:Int))=(List.range B).countP (fun k:Nat=>decide (r.1.toNat<=k∧k<=r.2.toNat)||hasB s (k:Int)):=by
   apply List.countP_congr;intro k hk;have hkB:k<B:=List.mem_range.1 hk;simp only[Bool.or_eq_true,decide_eq_true_eq,eR];rw[aR];constructor
   ·rintro(k1|k1)
    ·exact Or.inl (by omega)
    ·exact Or.inr k1
   ·rintro(k1|k1)
    ·exact Or.inl (by omega)
    ·exact Or.inr k1
  rw[mh,ih,e3];omega
theorem D9 (a b:List Pr):jk (BK a b)+jk (ub a b)=jk (oz a)+jk (oz b):=by
 obtain⟨B,hB⟩:∃B:Nat,(B:Int)=4294967296:=⟨4294967296,rfl⟩;rw[qZ B hB _ (Gx a b),qZ B hB _ (nt a b),qZ B hB _ (jI a),qZ B hB _ (jI b)];have e:=ug (fun k:Nat=>hasB a (k:Int)) (fun k:Nat=>hasB b (k:Int)) (List.range B);have c1:(fun k:Nat=>hasB (BK a b) (k:Int))=fun k:Nat=>hasB a (k:Int)||hasB b (k:Int):=by
  funext k;exact pA (by rw[vh,Bool.or_eq_true,eR,eR])
 have c2:(fun k:Nat=>hasB (ub a b) (k:Int))=fun k:Nat=>hasB a (k:Int)&&hasB b (k:Int):=by
  funext k;exact pA (by rw[nu,Bool.and_eq_true,eR,eR])
 have c3:(fun k:Nat=>hasB (oz a) (k:Int))=fun k:Nat=>hasB a (k:Int):=by
  funext k;exact pA (by rw[kV,eR])
 have c4:(fun k:Nat=>hasB (oz b) (k:Int))=fun k:Nat=>hasB b (k:Int):=by
  funext k;exact pA (by rw[kV,eR])
 rw[c1,c2,c3,c4];omega
def Qk:List Pr->Int
 |[]=>0
 |r::_=>r.1
def Ql (s:List Pr):Bool:=!s.isEmpty
def fZ:List Pr->List Pr
 |[]=>[]
 |r::l=>if r.1<r.2 then(r.1+1,r.2)::l else l
theorem fN (r:Pr)(l:List Pr):fZ (r::l)=if r.1<r.2 then(r.1+1,r.2)::l else l:=rfl
theorem xE {r:Pr}{l:List Pr}(h:Cn (r::l)):Qh (r::l) [(r.1,r.1)]=fZ (r::l)∧Cn (fZ (r::l))∧jk (fZ (r::l))=jk (r::l)-1∧(fZ (r::l)).length<=(r::l).length∧∀n,dt (fZ (r::l)) n↔dt (r::l) n∧r.1<n:=by
 obtain⟨h1,h2,h3⟩:=bC.1 h;have hc:Cn (fZ (r::l)):=by
  rw[fN];split
  ·exact bC.2 ⟨by simp only;omega,h2,h3⟩
  ·exact h3
 have hi:∀n,dt (fZ (r::l)) n↔dt (r::l) n∧r.1<n:=fun n=>by
  rw[fN];split
  ·rw[aR,aR];simp only;constructor
   ·rintro(k|k)
    ·exact⟨Or.inl (by omega),by omega⟩
    ·have:=h.fc k;exact⟨Or.inr k,by omega⟩
   ·rintro⟨k|k,k2⟩
    ·exact Or.inl (by omega)
    ·exact Or.inr k
  ·rw[aR];constructor
   ·intro k;have:=h.fc k;exact⟨Or.inr k,by omega⟩
   ·rintro⟨k|k,k2⟩
    ·omega
    ·exact k
 refine⟨(Qi hc fun n=>?_).symm,hc,?_,?_,hi⟩
 ·rw[hi n,eK];constructor
  ·rintro⟨k1,k2⟩;exact⟨k1,by simp only;omega⟩
  ·rintro⟨k1,k2⟩;have:=h.uZ k1;have:=k1.1;have:=k1.2.1;simp only at k2;exact⟨k1,by omega⟩
 ·rw[fN];split
  ·rw[mh,mh];simp only;omega
  ·rw[mh];omega
 ·rw[fN];split<;>simp
end
section
def aG (x:Pr):List Value:=[.int .i64 x.1,.int .i64 x.2]
def GR (w w':World):Prop:=∃q os',w'=grow (w.drewN q) os'
theorem GR.refl (w:World):GR w w:=⟨0,#[],by rw[grow_empty];rfl⟩
theorem GR.alloc {w w':World}(h:GR w w')(o:Obj):GR w (w'.alloc o):=by
 obtain⟨q,os,rfl⟩:=h;exact⟨q,os++#[o],by rw[alloc_eq_grow,grow_grow]⟩
theorem GR.below {w w':World}(h:GR w w'):Below w.heap.size w w':=by
 obtain⟨q,os,rfl⟩:=h;exact⟨rfl,rfl,rfl,by rw[size_grow];exact Nat.le_add_right _ _,fun k hk=>heap_grow_old _ _ (by simpa using hk)⟩
section
variable {α:Type}[Inhabited α]
def bI (enc:α->List Value)(k:Nat)(w:World)(b off:Nat)(l:List α):Prop:=∀t,t<l.length*k->w.cell? ⟨b,off+t,none⟩=some (flatK enc k l.toArray)[t]!
def Row (enc:α->List Value)(k:Nat)(w:World)(v:Value)(l:List α):Prop:=
 ∃ao cap,v=.slice ao l.length cap∧l.length<=cap∧(ao=none->cap=0)∧(l≠[]->∃b off,ao=some ⟨b,off,none⟩∧b<w.heap.size∧bI enc k w b off l)
def Own (enc:α->List Value)(k base:Nat)(w:World)(v:Value)(l:List α):Prop:=
 ∃ao cap,v=.slice ao l.length cap∧l.length<=cap∧(ao=none->cap=0)∧(l≠[]->∃b off,ao=some ⟨b,off,none⟩∧base<=b∧b<w.heap.size∧HoldsK enc k w b off l.toArray)
variable {enc:α->List Value}{k base:Nat}{w w':World}{v:Value}{l:List α}
theorem gS {b off:Nat}(h:HoldsK enc k w b off l.toArray):bI enc k w b off l:=fun t ht=>(h t (by simpa using ht)).1
theorem Own.row (h:Own enc k base w v l):Row enc k w v l:=by
 obtain⟨ao,cap,e,h1,h2,h3⟩:=h;refine⟨ao,cap,e,h1,h2,fun hne=>?_⟩;obtain⟨b,off,e2,_,hb,hH⟩:=h3 hne;exact⟨b,off,e2,hb,gS hH⟩
theorem Row.below (h:Row enc k w v l)(hb:Below w.heap.size w w'):Row enc k w' v l:=by
 obtain⟨ao,cap,e,h1,h2,h3⟩:=h;refine⟨ao,cap,e,h1,h2,fun hne=>?_⟩;obtain⟨b,off,e2,hlt,hH⟩:=h3 hne;exact⟨b,off,e2,Nat.lt_of_lt_of_le hlt hb.size,fun t ht=>(hb.cell (p:=⟨b,off+t,none⟩) hlt).trans (hH t ht)⟩
theorem Own.mono {base':Nat}(h:Own enc k base w v l)(hb:base'<=base):Own enc k base' w v l:=by
 obtain⟨ao,cap,e,h1,h2,h3⟩:=h;refine⟨ao,cap,e,h1,h2,fun hne=>?_⟩;obtain⟨b,off,e2,Ea,r⟩:=h3 hne;exact⟨b,off,e2,Nat.le_trans hb Ea,r⟩
theorem Own.nil:Own enc k base w (.slice none 0 0) ([]:List α):=⟨none,0,rfl,Nat.le_refl _,fun _=>rfl,fun h=>absurd rfl h⟩
theorem ik {e:TypeId}{g n:Nat}{cur:Array Value}(hb:w.heap[g]? =some (.cells cur e (0,0)))(hn:l.length=n)(hs:n*k<=cur.size)(ht:cur.toList.take (n*k)=(flatK enc k l.toArray).toList):HoldsK enc k w g 0 l.toArray:=by
 intro t Qm;have ht':t<n*k:=by rw[<-hn];simpa using Qm
 refine⟨?_,by simp[World.frozen?,hb]⟩;have h1:(cur.toList.take (n*k))[t]? =(flatK enc k l.toArray).toList[t]? :=by rw[ht]
 rw[List.getElem?_take_of_lt ht',List.getElem?_eq_getElem (by simpa using(by omega:t<cur.size)),List.getElem?_eq_getElem (by rw[Array.length_toList];exact Qm)]at h1;simp only[World.cell?,hb,Nat.zero_add];rw[getElem!_pos _ t Qm];have h2:=Option.some.inj h1;simp only[Array.getElem_toList]at h2;rw[Array.getElem?_eq_getElem (by omega),h2];rfl
theorem cf {e:TypeId}{n:Nat}(hk:0<k)(h:w.ownsRow base e k v n (flatK enc k l.toArray).toList):Own enc k base w v l:=by
 obtain⟨h0,h1⟩:=h;have hn:l.length=n:=by
  have:l.length*k=n*k:=by simpa using h0
  exact Nat.eq_of_mul_eq_mul_right hk this
 rcases h1 with⟨rfl,rfl⟩| ⟨g,cap,cur,rfl,hb,hh,hc,hm,hs,ht⟩
 ·obtain rfl:l=[]:=List.length_eq_zero_iff.1 hn;exact Own.nil
 ·subst hn;refine⟨some ⟨g,0,none⟩,cap,rfl,hc,(fun h=>by cases h),fun hne=>⟨g,0,rfl,hb,(Array.getElem?_eq_some_iff.1 hh).1,ik hh rfl (by rw[hs];exact Nat.mul_le_mul_right k hc) ht⟩⟩
theorem cO (h1:∀x,∀v∈enc x,v.oneCell'=true)(hk:∀x,(enc x).length=k):∀u∈(flatK enc k l.toArray).toList,u.oneCell'=true:=fun u hu=>by
 obtain⟨t,ht,rfl⟩:=List.getElem_of_mem hu;have ht':t<l.length*k:=by simpa using ht
 have hk0:0<k:=by
  rcases Nat.eq_zero_or_pos k with h|h
  ·subst h;omega
  ·exact h
 have e:=get_flatK enc k l.toArray t (by simpa using ht');rw[getElem!_pos _ t (by simpa using ht')]at e;rw[Array.getElem_toList,e];refine h1 l.toArray[t/k]! _ ?_;rw[getElem!_pos (enc l.toArray[t/k]!) (t%k) (by rw[hk];exact Nat.mod_lt _ hk0)];exact List.getElem_mem _
end
theorem cQ (x:Pr):(aG x).length=2:=rfl
theorem ew (x:Pr):∀v∈aG x,v.oneCell'=true:=fun v hv=>by simp[aG]at hv;rcases hv with rfl|rfl<;>rfl
theorem eG:(Tryz.prog.info? 116).map (fun i=>(i.zero,i.size,i.bytes))=some (some (.agg #[.int .i64 0,.int .i64 0]),2,16):=by kernel_rfl
section
variable {α:Type}[Inhabited α]
theorem iE (d:Array α)(i:Nat):d[i]! =d.toList[i]! :=by
 by_cases h:i<d.size
 ·rw[getElem!_pos d i h,getElem!_pos d.toList i (by simpa using h)];simp
 ·rw[getElem!_neg d i h,getElem!_neg d.toList i (by simpa using h)]
theorem il {l l':List α}(hs:l.length=l'.length)(h:∀i,i<l.length->l[i]! =l'[i]!):l=l':=by
 apply List.ext_getElem hs;intro i h1 h2;have:=h i h1
 rwa [getElem!_pos l i h1,getElem!_pos l' i h2]at this
theorem rf (l r:List α)(i:Nat)(h:i<l.length):(l++r)[i]! =l[i]! :=by
 rw[getElem!_pos l i h,getElem!_pos (l++r) i (by simp;omega)];exact List.getElem_append_left h
theorem nw (l r:List α)(i:Nat):(l++r)[l.length+i]! =r[i]! :=by
 by_cases h:i<r.length
 ·rw[getElem!_pos r i h,getElem!_pos (l++r) _ (by simp;omega)];simp
 ·rw[getElem!_neg r i h,getElem!_neg (l++r) _ (by simp;omega)]
theorem dW {W:World}{base:Nat}{e:TypeId}{k:Nat}{v:Value}{n:Nat}{xs:List Value}(h:W.ownsRow base e k v n xs)(m:Nat)(os:Array Obj):(grow (W.drewN m) os).ownsRow base e k v n xs:=by
 obtain⟨h1,h2⟩:=h;refine⟨h1,?_⟩;rcases h2 with h2| ⟨g,cap,cur,hv,hg,hh,r⟩
 ·exact Or.inl h2
 ·exact Or.inr ⟨g,cap,cur,hv,hg,by rw[heap_grow_old _ _ (by exact(Array.getElem?_eq_some_iff.1 hh).1)];exact hh,r⟩
theorem bR (enc:α->List Value)(k:Nat)(hk:∀x,(enc x).length=k)(l:List α)(x:α):(flatK enc k (l++[x]).toArray).toList=(flatK enc k l.toArray).toList++enc x:=by
 apply il
 ·simp[hk,Nat.add_mul]
 ·intro t ht;have ht':t< (l.length+1)*k:=by simpa using ht
  have hk0:0<k:=by
   rcases Nat.eq_zero_or_pos k with h|h
   ·subst h;omega
   ·exact h
  rw[<-iE (flatK enc k (l++[x]).toArray) t,get_flatK _ _ _ _ (by simpa using ht')];by_cases c:t<l.length*k
  ·rw[rf _ _ _ (by simpa using c),<-iE (flatK enc k l.toArray) t,get_flatK _ _ _ _ (by simpa using c)];have:t/k<l.length:=(Nat.div_lt_iff_lt_mul hk0).2 c
   congr 2
   rw[getElem!_pos _ _ (by simp;omega),getElem!_pos _ _ (by simpa using this)];simp[this]
  ·obtain⟨s,rfl⟩:∃s,t=(flatK enc k l.toArray).toList.length+s:=⟨t-l.length*k,by simp;omega⟩;rw[nw];have hs:s<k:=by
    rw[Nat.add_mul,Nat.one_mul]at ht';simp at ht';omega
   have e1:((flatK enc k l.toArray).toList.length+s)/k=l.length:=by
    rw[Array.length_toList,size_flatK,List.size_toArray,Nat.mul_comm,Nat.mul_add_div hk0,Nat.div_eq_of_lt hs,Nat.add_zero]
   have e2:((flatK enc k l.toArray).toList.length+s)%k=s:=by
    rw[Array.length_toList,size_flatK,List.size_toArray,Nat.mul_comm,Nat.mul_add_mod,Nat.mod_eq_of_lt hs]
   rw[e1,e2,getElem!_pos (l++[x]).toArray l.length (by simp)];simp
end
theorem fq {W:World}{base:Nat}{e:TypeId}{k:Nat}{v:Value}{n:Nat}{xs:List Value}(h:W.ownsRow base e k v n xs):v.ownBlock=none∨∃r,v.ownBlock=some r∧base<=r:=by
 rcases h.2 with⟨rfl,_⟩| ⟨g,cap,cur,rfl,hg,_⟩
 ·exact Or.inl rfl
 ·exact Or.inr ⟨g,rfl,hg⟩
theorem cC {w wr:World}{ao:Option Addr}{l:List Pr}(h3:l≠[]->∃b off,ao=some ⟨b,off,none⟩∧b<w.heap.size∧bI aG 2 w b off l)(i:Nat)(hi:i<l.length)(hb:Below w.heap.size w wr):
  ∃b off,ao=some ⟨b,off,none⟩∧b<w.heap.size∧wr.cell? ⟨b,off+i*2,none⟩=some (.int .i64 l[i]!.1)∧wr.cell? ⟨b,off+i*2+1,none⟩=some (.int .i64 l[i]!.2):=by
 obtain⟨b,off,e,hlt,hc⟩:=h3 (by intro h;rw[h]at hi;simp at hi);refine⟨b,off,e,hlt,?_,?_⟩
 ·rw[hb.cell (p:=⟨b,off+i*2,none⟩) hlt,hc (i*2) (by omega),get_flatK _ _ _ _ (by simp;omega),show i*2/2=i by omega,show i*2%2=0 by omega];simp[aG]
 ·rw[Nat.add_assoc,hb.cell (p:=⟨b,off+(i*2+1),none⟩) hlt,hc (i*2+1) (by omega),get_flatK _ _ _ _ (by simp;omega),show(i*2+1)/2=i by omega,show(i*2+1)%2=1 by omega];simp[aG]
theorem cJ {α:Type}[Inhabited α]{l:List α}{i:Nat}(h:i<l.length):l.take (i+1)=l.take i++[l[i]!]:=by
 rw[List.take_add_one,List.getElem?_eq_getElem h,getElem!_pos l i h];rfl
theorem gJ {α:Type}[Inhabited α]{l:List α}{i:Nat}(h:i<l.length):l.drop i=l[i]! ::l.drop (i+1):=by
 rw[List.drop_eq_getElem_cons h,getElem!_pos l i h]
theorem below_grown {B:Nat}{w W:World}(h:Below B w W)(hB:B<=W.heap.size)(n:Nat)(os:Array Obj):Below B w (grow (W.drewN n) os):=h.trans ((GR.below (w:=W) ⟨n,os,rfl⟩).mono hB)
abbrev bh (base:Nat)(W:World)(v:Value)(l:List Pr):Prop:=W.ownsRow base 116 2 v l.length (flatK aG 2 l.toArray).toList
theorem bh.empty (base:Nat)(W:World):bh base W (.slice none 0 0) []:=by unfold bh;simpa[flatK]using World.ownsRow_nil W base 116 2
theorem bh.own {base:Nat}{W:World}{v:Value}{l:List Pr}(h:bh base W v l):Own aG 2 base W v l:=cf (by decide) h
theorem bh.step {base:Nat}{W w1:World}{v v':Value}{l:List Pr}{x:Pr}(hbase:base<=W.heap.size)(h:bh base W v l)(hgrow:W.grownBy w1 v.ownBlock)(hown:w1.ownsRow base 116 2 v' (l.length+1) ((flatK aG 2 l.toArray).toList++aG x)):
  bh base w1 v' (l++[x])∧∀w0,Below base w0 W->Below base w0 w1:=by
 refine⟨?_,fun w0 hb=>hb.grown hgrow hbase fun k hk=>?_⟩
 ·show w1.ownsRow base 116 2 v' (l++[x]).length (flatK aG 2 (l++[x]).toArray).toList;rw[List.length_append,List.length_singleton,bR aG 2 cQ];exact hown
 ·rcases fq h with hr| ⟨r,hr,hle⟩
  ·rw[hr]at hk;cases hk
  ·rw[hr]at hk;cases hk;exact hle
theorem Vd {ops:Array Oper}{rest:List Oper}{o:Oper}{a:Act}{Q:Exit->Act->World->Prop}{w:World}(hgd:o.guard=.none)(s x:Operand)
  (ho:o.op=.call {callee:=.builtin .append,args:=#[s,x],argTypes:=#[62,62]})(base:Nat)(v:Value)(l:List Pr)(hs:a.eval s=v)(hown:bh base w v l)
  (b off c:Nat)(hx:a.eval x=.slice (some ⟨b,off,.none⟩) 1 c)(y:Pr)(c0:w.cell? ⟨b,off,.none⟩=some (.int .i64 y.1))(c1:w.cell? ⟨b,off+1,.none⟩=some (.int .i64 y.2))(hl:l.length<1000000)(hbase:base<=w.heap.size)
  (h:∀ao n c w',bh base w' (.slice ao n c) (l++[y])->(∀w0,Below base w0 w->Below base w0 w')->wpList Tryz.prog ops Q rest (a.put o.dst (.slice ao n c)) w'):wpList Tryz.prog ops Q (o::rest) a w:=by
 obtain⟨i0,hi,hz0,hz1,hz2⟩:=info_parts eG;refine wpList_append_own w hgd s x 62 ho base 116 i0 _ 2 16 Tryz.underlying62 hi hz0 hz1 hz2 rfl (by decide) v _ _ hs hown ⟨b,off,.none⟩ 1 c (aG y) hx rfl ?_ (ew y) (by unfold maxLen;omega) (by omega) hbase ?_
 ·intro j u hj;simp only[aG]at hj
  match j,hj with
  |0,hj=>simp at hj;subst hj;simpa[Addr.add]using c0
  |1,hj=>simp at hj;subst hj;simpa[Addr.add]using c1
 ·intro v' w' h1 h2 _;obtain⟨s1,s2⟩:=bh.step hbase hown h2 h1;obtain⟨cR,n',c',rfl⟩:∃ao n c,v'=.slice ao n c:=by
   rcases h1.2 with⟨h,_⟩| ⟨g,cap,cur,h,_⟩
   ·exact⟨_,_,_,h⟩
   ·exact⟨_,_,_,h⟩
  exact h _ _ _ _ s1 s2
theorem bH {α:Type}[Inhabited α](enc:α->List Value)(k:Nat)(hk:∀x,(enc x).length=k):∀(m l:List α),(flatK enc k (l++m).toArray).toList=(flatK enc k l.toArray).toList++(flatK enc k m.toArray).toList
 |[],l=>by simp[flatK]
 |x::m,l=>by
  have e1:l++x::m=(l++[x])++m:=by simp
  have e2:(flatK enc k (x::m).toArray).toList=enc x++(flatK enc k m.toArray).toList:=by
   have h:=bH enc k hk m [x];have h2:=bR enc k hk [] x;rw[List.nil_append]at h2;rw[h2]at h;simpa[flatK]using h
  rw[e1,bH enc k hk m (l++[x]),bR enc k hk,e2,List.append_assoc]
theorem xF {ops:Array Oper}{rest:List Oper}{o:Oper}{a:Act}{Q:Exit->Act->World->Prop}{w:World}(hgd:o.guard=.none)(s x:Operand)
    (ho:o.op=.call {callee:=.builtin .append,args:=#[s,x],argTypes:=#[62,62]})(base:Nat)(v:Value)(l:List Pr)(hs:a.eval s=v)(hown:bh base w v l)
    (u:Value)(m:List Pr)(hx:a.eval x=u)(hu:Row aG 2 w u m)(hl:l.length+m.length<1000000)(hbase:base<=w.heap.size)(lm:List Pr)(hlm:l++m=lm)
    (h:∀ao n c w',bh base w' (.slice ao n c) lm->(∀w0,Below base w0 w->Below base w0 w')->wpList Tryz.prog ops Q rest (a.put o.dst (.slice ao n c)) w'):wpList Tryz.prog ops Q (o::rest) a w:=by
  subst hlm;obtain⟨i0,hi,hz0,hz1,hz2⟩:=info_parts eG;obtain⟨ao,cap,rfl,h1,h2,h3⟩:=hu;obtain⟨av,nv,cv,rfl⟩:∃ao n c,v=.slice ao n c:=by
    rcases hown.2 with⟨h,_⟩| ⟨g,cap,cur,h,_⟩
    · exact⟨_,_,_,h⟩
    · exact⟨_,_,_,h⟩
  cases ao with
  | none=>
    have hm:m=[]:=by
      rcases List.eq_nil_or_concat m with e| ⟨m',y,e⟩
      · exact e
      · obtain⟨b,off,e2,_⟩:=h3 (by rw[e];simp);cases e2
    subst hm;rw[h2 rfl]at hx;refine wpList_append_own_none hgd s x 62 ho base 116 i0 2 Tryz.underlying62 hi _ _ _ hs hown hx ?_;exact h _ _ _ _ (by rw[List.append_nil];exact hown) (fun _ hb=>hb)
  | some ad=>
    refine wpList_append_own w hgd s x 62 ho base 116 i0 _ 2 16 Tryz.underlying62 hi hz0 hz1 hz2 rfl (by decide) _ _ _ hs hown ad m.length cap (flatK aG 2 m.toArray).toList hx (by simp) ?_ (cO ew cQ) (by unfold maxLen;omega) (by omega) hbase ?_
    · intro j u hj;obtain⟨hj1,hj2⟩:=List.getElem?_eq_some_iff.1 hj;have kI:j<m.length*2:=by simpa using hj1
      obtain⟨b,off,e2,_,hc⟩:=h3 (by intro e;rw[e]at kI;simp at kI);cases e2;rw[Go.WideShapes.add_plain,hc j kI,getElem!_pos _ j (by simpa using kI),<-hj2];simp
    · intro v' w' g1 g2 _;obtain⟨cR,n',c',rfl⟩:∃ao n c,v'=.slice ao n c:=by
        rcases g1.2 with⟨h,_⟩| ⟨g,cap,cur,h,_⟩
        · exact⟨_,_,_,h⟩
        · exact⟨_,_,_,h⟩
      refine h _ _ _ _ ?_ (fun w0 hb=>hb.grown g2 hbase fun k hk=>?_)
      · show w'.ownsRow base 116 2 _ (l++m).length (flatK aG 2 (l++m).toArray).toList;rw[List.length_append,bH aG 2 cQ];exact g1
      · rcases fq hown with hr| ⟨r,hr,hle⟩
        · rw[hr]at hk;cases hk
        · rw[hr]at hk;cases hk;exact hle
theorem ownsRow_below {W W':World}{base:Nat}{e:TypeId}{k:Nat}{v:Value}{n:Nat}{xs:List Value}(h:W.ownsRow base e k v n xs)(hb:Below W.heap.size W W'):W'.ownsRow base e k v n xs:=by
 obtain⟨h1,h2⟩:=h;refine⟨h1,?_⟩;rcases h2 with h2| ⟨g,cap,cur,hv,hg,hh,r⟩
 ·exact Or.inl h2
 ·exact Or.inr ⟨g,cap,cur,hv,hg,by rw[hb.block g (Array.getElem?_eq_some_iff.1 hh).1];exact hh,r⟩
def Aa (lo:Nat)(w:World)(v:Value)(l:List Pr):Prop:=
 ∃ao cap,v=.slice ao l.length cap∧l.length<=cap∧(ao=none->cap=0)∧(l≠[]->∃b off,ao=some ⟨b,off,none⟩∧b≠lo∧b<w.heap.size∧bI aG 2 w b off l)
theorem xG {lo:Nat}{w:World}{v:Value}{x:Pr}{l:List Pr}(h:Aa lo w v (x::l)):
  ∃b off cap,v=.slice (some ⟨b,off,none⟩) (l.length+1) cap∧l.length+1<=cap∧b≠lo∧b<w.heap.size∧w.cell? ⟨b,off,none⟩=some (.int .i64 x.1)∧w.cell? ⟨b,off+1,none⟩=some (.int .i64 x.2)∧
   ∀ao,(l≠[]->ao=some ⟨b,off+2,none⟩)->(ao=none->cap-1=0)->Aa lo w (.slice ao l.length (cap-1)) l:=by
 obtain⟨ao,cap,rfl,h1,h2,h3⟩:=h;obtain⟨b,off,rfl,hlo,hb,hc⟩:=h3 (by simp);have hlen:(x::l).length=l.length+1:=rfl;have c0:=hc 0 (by rw[hlen];omega);have c1:=hc 1 (by rw[hlen];omega);rw[get_flatK _ _ _ _ (by simp)]at c0;rw[get_flatK _ _ _ _ (by simp;omega)]at c1;refine⟨b,off,cap,rfl,h1,hlo,hb,by simpa[aG]using c0,by simpa[aG]using c1,fun ao ha hn=>⟨ao,cap-1,rfl,by rw[hlen]at h1;omega,hn,fun hne=>⟨b,off+2,ha hne,hlo,hb,fun t ht=>?_⟩⟩⟩;have ct:=hc (t+2) (by rw[hlen];omega);rw[get_flatK _ _ _ _ (by simp;omega)]at ct;rw[get_flatK _ _ _ _ (by simpa using ht),show off+2+t=off+(t+2) by omega,ct];have e1:(t+2)/2=t/2+1:=by omega
 have e2:(t+2)%2=t%2:=by omega
 rw[e1,e2]
 congr 3
 have ht2:t/2<l.length:=by omega
 rw[getElem!_pos _ _ (by simp;omega),getElem!_pos _ _ (by simpa using ht2)];simp
theorem iF {α:Type}[Inhabited α]{enc:α->List Value}{k:Nat}{w:World}{b n:Nat}{T:TypeId}{fr:Nat×Nat}{cs:Array Value}{l:List α}(hb:w.heap[b]? =some (.cells cs T fr))(hcs:cs=flatK enc k l.toArray)(hn:l.length=n):Row enc k w (.slice (some ⟨b,0,none⟩) n n) l:=by
 subst hn;refine⟨_,_,rfl,Nat.le_refl _,(fun h=>by cases h),fun _=>⟨b,0,rfl,(Array.getElem?_eq_some_iff.1 hb).1,fun t ht=>?_⟩⟩;simp only[World.cell?,hb,Nat.zero_add,hcs];have ht':t< (flatK enc k l.toArray).size:=by simpa using ht
 rw[Array.getElem?_eq_getElem ht',getElem!_pos _ t ht'];rfl
end
section
theorem bG {fn:Func}{p:Tmp}{ty:TypeId}(h:fn.results=#[.cell p ty])(tmps:Array Value)(P:Program)(w:World):
  (results fn tmps).run P w=((asAddr (tmps.getD p undef)).run P w).andThen fun a w₁=>(loadVar ty a).run P w₁:=by
 simp only[results,h];simp[Sem.run_bind,Result.andThen]
theorem rh (x:Pr):#[Value.int .i64 x.1,Value.int .i64 x.2]=flatK aG 2 [x].toArray:=by
 apply Array.ext';have:=bR aG 2 cQ [] x;rw[List.nil_append]at this;rw[this];simp[flatK,aG]
theorem GQ (x:Pr)(w:World):Calls Tryz.prog 138 #[.agg #[.int .i64 x.1,.int .i64 x.2]] w fun e w'=>e=.returned (.agg #[.int .i64 (cE x).1,.int .i64 (cE x).2])∧GR w w':=by
  go_enter Tryz.func138,Tryz.ntmps138;go_wp2
  (try simp only[Exit.inBlock,Exit.then])
  refine bodyPost_ret (v:=.agg #[.int .i64 (max x.1 0),.int .i64 (min x.2 4294967295)]) ?_ rfl ⟨rfl,?_⟩
  · rw[bG rfl];go_simp
  · exact((GR.refl w).alloc _).alloc _
theorem ri (x y:Pr)(W:World):Calls Tryz.prog 140 #[.agg #[.int .i64 x.1,.int .i64 x.2],.agg #[.int .i64 y.1,.int .i64 y.2]] W fun e w'=>e=.returned (.int .i64 (Lib.compareInt x.1 y.1))∧∃q os',w'=grow (W.drewN q) os':=by
 have hcon:=fun W'=>AnyG.cmp_Compare_int Tryz.PL x.1 y.1 W';change ∀W',Calls Tryz.prog 141 _ _ _ at hcon;generalize Lib.compareInt x.1 y.1=r at hcon⊢;go_enter Tryz.func140,Tryz.ntmps140
 go_wp2_with (go_at_call 141;refine(hcon _).mono ?_;rintro e w' ⟨rfl,rfl⟩)
 go_ret;exact⟨rfl,0,_,by rw[alloc_eq_grow,alloc_eq_grow,grow_grow];rfl⟩
theorem Ab (n:Int)(w:World):Calls Tryz.prog 194 #[.int .i64 n] w fun e w'=>∃v,e=.returned v∧Row aG 2 w' v [(n,n)]∧Below w.heap.size w w':=by
 go_enter Tryz.func194,Tryz.ntmps194;go_wp2;go_ret;refine⟨_,rfl,iF (cs:=#[.int .i64 n,.int .i64 n]) (heap_alloc_new _ _) (rh (n,n)) rfl,?_⟩;exact(Below.refl _ w).alloc (Nat.le_refl _) _
theorem GS (x:Pr)(n:Int)(b:Nat)(W:World)(hb:W.cell? ⟨b,0,none⟩=some (.int .i64 n)):Calls Tryz.prog 197 #[.agg #[.int .i64 x.1,.int .i64 x.2],.pointer (some ⟨b,0,none⟩)] W fun e w'=>e=.returned (.bool (Qg n x))∧Below W.heap.size W w':=by
 have hb2:(W.alloc (.cells #[.int .i64 x.1,.int .i64 x.2] 116)).cell? ⟨b,0,none⟩=some (.int .i64 n):=Lib.cell?_alloc_some _ hb;clear hb;unfold Qg;by_cases h1:x.1<=n
 ·by_cases h2:n<=x.2
  ·go_enter Tryz.func197,Tryz.ntmps197;go_wp2;go_ret;exact⟨by simp[h1,h2],(Below.refl _ W).alloc (Nat.le_refl _) _⟩
  ·go_enter Tryz.func197,Tryz.ntmps197;go_wp2;go_ret;exact⟨by simp[h2],(Below.refl _ W).alloc (Nat.le_refl _) _⟩
 ·go_enter Tryz.func197,Tryz.ntmps197;go_wp2;go_ret;exact⟨by rw[decide_eq_false (by omega:¬x.1<=n)];simp,(Below.refl _ W).alloc (Nat.le_refl _) _⟩
theorem xH (ao:Option Addr)(cap:Nat)(f:Value)(w:World):Calls Tryz.prog 232 #[.slice ao 0 cap,f] w fun e w'=>e=.returned (.int .i64 (-1))∧w'=w:=by
 go_enter Tryz.func232,Tryz.ntmps232;go_wp2;refine wp_loop_rounds 1 ?_;rw[rounds_succ];go_wp2;go_ret;exact⟨rfl,rfl⟩
theorem rj (ao:Option Addr)(cap:Nat)(f:Value)(w:World):Calls Tryz.prog 196 #[.slice ao 0 cap,f] w fun e w'=>e=.returned (.bool false)∧w'=w:=by
 have C:Hid _:=xH ao cap f w;go_enter Tryz.func196,Tryz.ntmps196
 go_wp2_with (go_at_call 232;refine Calls.mono C.out ?_;rintro e w' ⟨rfl,rfl⟩)
 go_ret;exact⟨rfl,rfl⟩
theorem vp (v:Value)(l:List Pr)(n:Int)(b:Nat)(w:World)(h:Row aG 2 w v l)(hl:l.length<=1000000)(hb:w.cell? ⟨b,0,none⟩=some (.int .i64 n))(hlt:b<w.heap.size):
  Calls Tryz.prog 196 #[v,.func (.func 197) #[] #[.pointer (some ⟨b,0,none⟩)]] w fun e w'=>e=.returned (.bool (l.any (Qg n)))∧Below w.heap.size w w':=by
 obtain⟨ao,cap,rfl,h1,h2,h3⟩:=h;by_cases hne:l=[]
 ·subst hne;refine(rj ao cap _ w).mono ?_;rintro e w' ⟨rfl,rfl⟩;exact⟨rfl,Below.refl _ _⟩
 ·obtain⟨b',off,rfl,hb',hc⟩:=h3 hne;have C:=AnyQ.slices_ContainsFunc Tryz.xl 2 Tryz.isAgg116 Tryz.sizeOf116 aG cQ (Qg n) 197 #[.pointer (some ⟨b,0,none⟩)] (enters_of Tryz.func197 (by kernel_rfl) rfl) b' off l.length cap l w
   (fun W x hB=>(GS x n b W ((hB.cell (p:=⟨b,0,none⟩) hlt).trans hb)).mono fun e w' ⟨he,hb2⟩=>⟨he,hB.trans (hb2.mono hB.size)⟩) (Nat.le_refl _) (by omega) hb' (fun j hj i u hi=>?_)
  ·rw[List.take_length]at C;exact C
  ·have hi2:i<2:=by
    have:=(List.getElem?_eq_some_iff.1 hi).1
    rwa [cQ]at this
   rw[Nat.add_assoc,hc (j*2+i) (by omega),get_flatK _ _ _ _ (by simp;omega)];have e1:(j*2+i)/2=j:=by omega
   have e2:(j*2+i)%2=i:=by omega
   rw[e1,e2];have e3:l.toArray[j]! =l[j]! :=by simp
   rw[e3];have:=List.getElem?_eq_some_iff.1 hi;rw[getElem!_pos _ i this.1,this.2]
theorem Qn (l:List Pr)(n:Int)(h0:0<=n)(h1:n<=4294967295):l.any (Qg n)=hasB l n:=by
 unfold hasB;rw[decide_eq_true h0,decide_eq_true h1];rfl
theorem LU (v:Value)(l:List Pr)(n:Int)(w:World)(h:Row aG 2 w v l)(hl:l.length<=1000000):
  Calls Tryz.prog 161 #[v,.int .i64 n] w fun e w'=>e=.returned (.bool (hasB l n))∧Below w.heap.size w w':=by
 have B:Hid (Below w.heap.size w (w.alloc (.cells #[.int .i64 n] 3))):=(Below.refl _ w).alloc (Nat.le_refl _) _;have C:Hid _:=vp v l n w.heap.size (w.alloc (.cells #[.int .i64 n] 3)) (h.below B.out) hl (by simp) (by simp);by_cases h0:0<=n
 ·by_cases h1:n<=4294967295
  ·rw[Qn l n h0 h1]at C;obtain⟨f,hf⟩:∃f,hasB l n=f:=⟨_,rfl⟩;rw[hf]at C⊢;have hz:(w.alloc (.cells #[.int .i64 n] 3)).heap.size=w.heap.size+1:=by simp
   clear h hf;go_enter Tryz.func161,Tryz.ntmps161
   go_wp2_with (go_at_call 196;refine Calls.mono C.out ?_;rintro e w' ⟨rfl,hb⟩)
   all_goals
    go_ret;exact⟨rfl,B.out.trans (hb.mono (by omega))⟩
  ·have e:hasB l n=false:=jh fun k=>h1 k.2.1;rw[e];clear h C e;go_enter Tryz.func161,Tryz.ntmps161;go_wp2;go_ret;exact⟨rfl,B.out⟩
 ·have e:hasB l n=false:=jh fun k=>h0 k.1;rw[e];clear h C e;go_enter Tryz.func161,Tryz.ntmps161;go_wp2;go_ret;exact⟨rfl,B.out⟩
end
section
section
variable {w w':World}{q i k:Nat}{cs:Array Value}{t:TypeId}
def Cl (w:World)(q:Nat)(cs:Array Value)(t:TypeId):Prop:=w.heap[q]? =some (.cells cs t (0,0))
theorem Cl.lt (h:Cl w q cs t):q<w.heap.size:=(Array.getElem?_eq_some_iff.1 h).1
theorem Cl.cell (h:Cl w q cs t)(i:Nat):w.cell? ⟨q,i,none⟩=cs[i]? :=by unfold Cl at h;simp[World.cell?,h]
theorem Cl.frozen (h:Cl w q cs t)(i:Nat):w.frozen? ⟨q,i,none⟩=false:=by unfold Cl at h;simp[World.frozen?,h]
theorem Cl.set (h:Cl w q cs t)(i:Nat)(v:Value):Cl (w.setCell ⟨q,i,none⟩ v) q (cs.setIfInBounds i v) t:=by
 unfold Cl at h⊢;simp[World.setCell,Array.getElem?_modify,h]
theorem Cl.new (w:World)(cs:Array Value)(t:TypeId):Cl (w.alloc (.cells cs t)) w.heap.size cs t:=by
 show(w.heap.push _)[w.heap.size]? =_;simp
theorem Cl.below {B:Nat}(h:Cl w q cs t)(b:Below B w w')(hq:q<B):Cl w' q cs t:=(b.block q hq).trans h
theorem Cl.on (h:Cl w q cs t)(b:Below w.heap.size w w'):Cl w' q cs t:=h.below b h.lt
theorem Cl.two {a b:Value}(h:Cl w q #[a,b] t):w.cell? ⟨q,0,none⟩=some a∧w.cell? ⟨q,1,none⟩=some b:=⟨h.cell 0,h.cell 1⟩
theorem Cl.set2 {x y:Value}(h:Cl w q #[x,y] t)(a b:Value):Cl ((w.setCell ⟨q,0,none⟩ a).setCell ⟨q,1,none⟩ b) q #[a,b] t:=(h.set 0 a).set 1 b
end
end
section
theorem bh.other {base:Nat}{W:World}{v:Value}{l:List Pr}(h:bh base W v l){j:Nat}(hj:W.heap.size<=j):v.ownBlock≠some j:=by
 rcases h.2 with⟨rfl,_⟩| ⟨g,cap,cur,rfl,hg,hh,_⟩
 ·simp[Value.ownBlock]
 ·have:=(Array.getElem?_eq_some_iff.1 hh).1;simp only[Value.ownBlock,ne_eq,Option.some.injEq];omega
theorem pC {ops:Array Oper}{rest:List Oper}{o:Oper}{a:Act}{Q:Exit->Act->World->Prop}{w:World}(hgd:o.guard=.none)(s x:Operand)
  (ho:o.op=.call {callee:=.builtin .append,args:=#[s,x],argTypes:=#[62,62]})(base:Nat)(v:Value)(l:List Pr)(hs:a.eval s=v)(hown:bh base w v l)
  (b off c:Nat)(hx:a.eval x=.slice (some ⟨b,off,.none⟩) 1 c)(y:Pr)(c0:w.cell? ⟨b,off,.none⟩=some (.int .i64 y.1))(c1:w.cell? ⟨b,off+1,.none⟩=some (.int .i64 y.2))(hl:l.length<1000000)(hbase:base<=w.heap.size)
  (h:∀ao n c w',bh base w' (.slice ao n c) (l++[y])->(∀w0,Below base w0 w->Below base w0 w')->(∀j,j<w.heap.size->v.ownBlock≠some j->w'.heap[j]? =w.heap[j]?)->wpList Tryz.prog ops Q rest (a.put o.dst (.slice ao n c)) w'):wpList Tryz.prog ops Q (o::rest) a w:=by
 obtain⟨i0,hi,hz0,hz1,hz2⟩:=info_parts eG;refine wpList_append_own w hgd s x 62 ho base 116 i0 _ 2 16 Tryz.underlying62 hi hz0 hz1 hz2 rfl (by decide) v _ _ hs hown ⟨b,off,.none⟩ 1 c (aG y) hx rfl ?_ (ew y) (by unfold maxLen;omega) (by omega) hbase ?_
 ·intro j u hj;simp only[aG]at hj
  match j,hj with
  |0,hj=>simp at hj;subst hj;simpa[Addr.add]using c0
  |1,hj=>simp at hj;subst hj;simpa[Addr.add]using c1
 ·intro v' w' h1 h2 _;obtain⟨s1,s2⟩:=bh.step hbase hown h2 h1;obtain⟨cR,n',c',rfl⟩:∃ao n c,v'=.slice ao n c:=by
   rcases h1.2 with⟨h,_⟩| ⟨g,cap,cur,h,_⟩
   ·exact⟨_,_,_,h⟩
   ·exact⟨_,_,_,h⟩
  exact h _ _ _ _ s1 s2 fun j hj hne=>h2.block j hj fun e=>hne e.symm
theorem Uy {z:Int}(h0:-4294967296<=z)(h1:z<=17179869184):wrap64 z=z:=by unfold wrap64;omega
end
section
end
end
end Go.Proofs.YtceoeaemenhbhaaGreatDoor
namespace Go.Proofs.YtceoeaemenhbhaaGreatDoor
section
open Go.RowKit
structure TX where
 free:List Pr
 pages:Nat
 fresh:Fr
 cnt:Nat
def cP (pages:Int)(room:Nat):Nat:=(max 2 (min pages (room:Int))).toNat
def TX.new (fr:List Pr)(pages:Int)(room:Nat):TX:=⟨ub fr [(2,(cP pages room:Int)-1)],cP pages room,fun _=>none,0⟩
def TX.alloc (x:TX)(room:Nat):(Int×Int)×TX:=
 match x.free with
 |r::s=>((r.1,0),⟨fZ (r::s),x.pages,gy x.fresh r.1 c0,x.cnt+1⟩)
 |[]=>if room<=x.pages then((0,2),x)else(((x.pages:Int),0),⟨[],x.pages+1,gy x.fresh x.pages c0,x.cnt+1⟩)
def TX.drop (x:TX)(id:Int):TX:=if(x.fresh id).isSome=true then⟨BK x.free [(id,id)],x.pages,qO x.fresh id,x.cnt⟩else x
def TX.put (x:TX)(id:Int)(kind:UInt8)(s:ByteArray):Int×TX:=
 if(x.fresh id).isSome=true then(if 240<s.size then(50,x)else(0,⟨x.free,x.pages,gy x.fresh id ⟨true,kind,s⟩,x.cnt+1⟩))else(1,x)
structure TX.Ok (x:TX)(room:Nat):Prop where
 cn:Cn x.free
 p2:2<=x.pages
 pr:x.pages<=room
 fr:∀n,dt x.free n->2<=n∧n<x.pages
 fs:∀n,(x.fresh n).isSome=true->2<=n∧n<x.pages
 dj:∀n,dt x.free n->(x.fresh n).isSome=false
theorem GU {p:Int}:∀(l:List Pr) (f:Int),f<=p->Cn l->(∀n,dt l n->f<=n∧n<p)->(l.length:Int)+f<=p
 |[],f,hf,_,_=>by simpa using hf
 |r::l,f,hf,hc,h=>by
  obtain⟨⟨r0,r1,r2⟩,_,hl⟩:=bC.1 hc;have a1:=h r.1 (hc.dR (Int.le_refl _) r1);have a2:=h r.2 (hc.dR r1 (Int.le_refl _));have ih:=GU l (r.2+1) (by omega) hl (fun n hn=>⟨by have:=hc.fc hn;omega,(h n ((aR _ _ _).2 (.inr hn))).2⟩);simp only[List.length_cons];omega
theorem TX.Ok.len {x:TX}{room:Nat}(h:x.Ok room):x.free.length<=x.pages:=by
 have:=GU (p:=x.pages) x.free 2 (by have:=h.p2;omega) h.cn h.fr;omega
theorem Ac (pages:Int){room:Nat}(h:2<=room):2<=cP pages room∧cP pages room<=room:=by unfold cP;omega
theorem TX.zV (fr:List Pr)(pages:Int){room:Nat}(h:2<=room):(TX.new fr pages room).Ok room:=by
 obtain⟨h2,h3⟩:=Ac pages h;refine⟨nt _ _,h2,h3,fun n hn=>?_,(fun n hn=>by cases hn),fun n hn=>rfl⟩;have:=(nu _ _ n).1 hn;have:=(eK _ _).1 this.2;show _∧n< (cP pages room:Int);simp only at this;omega
theorem dD (g:Fr)(k:Int)(c:C3)(q:Int):(gy g k c q).isSome=(decide (q=k)||(g q).isSome):=by
 unfold gy;by_cases h:q=k<;>simp[h]
theorem nE (g:Fr)(k:Int)(q:Int):(qO g k q).isSome=(!decide (q=k)&&(g q).isSome):=by
 unfold qO;by_cases h:q=k<;>simp[h]
theorem TX.rk {x:TX}{room:Nat}(h:x.Ok room):(x.alloc room).2.Ok room:=by
 obtain⟨fr,p,g,c⟩:=x;unfold TX.alloc;cases fr with
 |cons r s=>
  obtain⟨_,d1,_,_,d2⟩:=xE h.cn;have r1:=h.fr r.1 (h.cn.dR (Int.le_refl _) (bC.1 h.cn).1.2.1);refine⟨d1,h.p2,h.pr,fun n hn=>h.fr n ((d2 n).1 hn).1,fun n hn=>?_,fun n hn=>?_⟩
  ·rw[dD]at hn;rcases Bool.or_eq_true_iff.1 hn with e|e
   ·rw[of_decide_eq_true e];exact r1
   ·exact h.fs n e
  ·have k:=(d2 n).1 hn;have:=h.dj n k.1;simp only at this;rw[dD,this];simp;omega
 |nil=>
  simp only;split
  ·exact h
  ·rename_i hp
   have h2:=h.p2;simp only at h2;refine⟨Cn.nil,by simp only;omega,by simp only;omega,fun n hn=>absurd hn (dA n),fun n hn=>?_,fun n hn=>absurd hn (dA n)⟩;rw[dD]at hn;simp only;rcases Bool.or_eq_true_iff.1 hn with e|e
   ·rw[of_decide_eq_true e];omega
   ·have:=h.fs n e;simp only at this;omega
theorem TX.BL {x:TX}{room:Nat}(h:x.Ok room)(id:Int):(x.drop id).Ok room:=by
 unfold TX.drop;split
 ·rename_i hi
  have k:=h.fs id hi;refine⟨Gx _ _,h.p2,h.pr,fun n hn=>?_,fun n hn=>?_,fun n hn=>?_⟩
  ·rcases(vh _ _ n).1 hn with e|e
   ·exact h.fr n e
   ·have:=(eK _ _).1 e;simp only at this;have e2:n=id:=by omega
    rw[e2];exact k
  ·rw[nE]at hn;exact h.fs n (Bool.and_eq_true_iff.1 hn).2
  ·rw[nE];rcases(vh _ _ n).1 hn with e|e
   ·rw[h.dj n e];simp
   ·have:=(eK _ _).1 e;simp only at this;have e2:n=id:=by omega
    simp[e2]
 ·exact h
theorem TX.Qo {x:TX}{room:Nat}(h:x.Ok room)(id:Int)(kind:UInt8)(s:ByteArray):(x.put id kind s).2.Ok room:=by
 unfold TX.put;split
 ·rename_i hi
  split
  ·exact h
  ·have k:=h.fs id hi;refine⟨h.cn,h.p2,h.pr,h.fr,fun n hn=>?_,fun n hn=>?_⟩
   ·rw[dD]at hn;rcases Bool.or_eq_true_iff.1 hn with e|e
    ·rw[of_decide_eq_true e];exact k
    ·exact h.fs n e
   ·rw[dD,h.dj n hn];have:n≠id:=fun e=>by
     have:=h.dj n hn;rw[e,hi]at this;cases this
    simp[this]
 ·exact h
end
section
open Go.RowKit
def Qp (r:(ByteArray×Int)×Dk):(ByteArray×Int)×Dk:=((r.1.1,if r.1.2=40 then 3 else r.1.2),r.2)
def TX.get (x:TX)(d:Dk)(id:Int)(kind:UInt8):(ByteArray×Int)×Dk:=
 match x.fresh id with
 |some c=>if c.there=true∧c.kind=kind then((c.body,0),d)else((ByteArray.empty,3),d)
 |none=>if(x.pages:Int)<=id∨hasB x.free id=true then((ByteArray.empty,3),d)else Qp (d.rd id kind)
end
end Go.Proofs.YtceoeaemenhbhaaGreatDoor
