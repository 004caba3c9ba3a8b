/- Walks of the package cowtree and of what it stands on: lemmas, made short. -/
import Derived.Test.YtcenfooehjcddaaGreatDoorR18
set_option maxHeartbeats 16000000
set_option maxRecDepth 100000
set_option linter.unusedVariables false
set_option linter.unusedSimpArgs false
namespace Go.Proofs.YtcenfooehjcddaaGreatDoor
open Go.Shelf Go.RowKit Go.Lib Go.Sort
namespace P
open N (En)
def df (B:Nat)(w0:World)(d:Dk)(C:Cx)(q sp n:Nat)(l:List aM)(w:World):Prop:=∃(va vt:Value) (E:List En) (F:Int->Int->Option Bool) (A T:List Pr) (k:Nat),
 (E.length<=2*n∧k<=2*n∧A.length<=n∧T.length<=n)∧kC E F∧UR F∧wE F A T∧aI B w0 d C E k (cf q C::iO sp va vt A T l) w
section
variable {B:Nat}{w0 w w':World}{C:Cx}{d:Dk}{q sp n:Nat}{l:List aM}
theorem aI.wF {E:List En}{k:Nat}{va vt:Value}{A T:List Pr}(h:aI B w0 d C E k (cf q C::iO sp va vt A T l) w):Sep B w0 w l:=Sep.drop (Sep.drop (Sep.drop (Sep.drop h.sep)))
theorem df.below (h:df B w0 d C q sp n l w)(hb:Below w.heap.size w w'):df B w0 d C q sp n l w':=by
 obtain⟨va,vt,E,F,A,T,k,h1,h2,h3,h4,h5⟩:=h;exact⟨va,vt,E,F,A,T,k,h1,h2,h3,h4,h5.below hb⟩
theorem df.sep (h:df B w0 d C q sp n l w):Sep B w0 w l:=by
 obtain⟨va,vt,E,F,A,T,k,h1,h2,h3,h4,h5⟩:=h;exact h5.wF
theorem df.up (h:df B w0 d C q sp n l w):df B w0 d C q sp (n+1) l w:=by
 obtain⟨va,vt,E,F,A,T,k,h1,h2⟩:=h;exact⟨va,vt,E,F,A,T,k,⟨by omega,by omega,by omega,by omega⟩,h2⟩
theorem df.blk (h:df B w0 d C q sp n l w)(o:Obj):df B w0 d C q sp n (aF w.heap.size o::l) (w.alloc o):=by
 obtain⟨va,vt,E,F,A,T,k,h1,h2,h3,h4,h5⟩:=h;exact⟨va,vt,E,F,A,T,k,h1,h2,h3,h4,(h5.blk o).perm (List.perm_middle (l₁:=[_,_,_,_])).symm⟩
theorem df.drop {a:aM}(h:df B w0 d C q sp n (a::l) w):df B w0 d C q sp n l w:=by
 obtain⟨va,vt,E,F,A,T,k,h1,h2,h3,h4,h5⟩:=h;exact⟨va,vt,E,F,A,T,k,h1,h2,h3,h4,aI.yF (h5.perm (List.perm_middle (l₁:=[_,_,_,_])))⟩
theorem df.new (h:aI B w0 d C [] 0 (cf q C::l) w):df B w0 d C q w.heap.size 0 l (w.alloc (.cells #[.slice none 0 0,.slice none 0 0] 31)):=by
 refine⟨.slice none 0 0,.slice none 0 0,[],fun _ _=>none,[],[],0,⟨Nat.le_refl _,Nat.le_refl _,Nat.le_refl _,Nat.le_refl _⟩,⟨⟨List.Pairwise.nil,fun _ h=>(by cases h)⟩,fun _ _ _ _=>⟨fun h=>(by cases h),fun h=>(by cases h)⟩,fun _ h=>(by cases h)⟩,fun _ _=>rfl,wE.nil,?_⟩;have h1:=h.blk (.cells #[.slice none 0 0,.slice none 0 0] 31);exact h1.of fun _ _ _ _ s=>Sep.perm (Sep.yq (Sep.yq s (Below.refl _ _) Own.nil) (Below.refl _ _) Own.nil) (List.Perm.trans (List.perm_append_comm_assoc [_,_] [_,_,_,_] _) (List.Perm.append_left [_,_,_,_] (List.Perm.trans (List.perm_append_comm_assoc [_,_] [_,_] _) (List.Perm.swap _ _ _))))
variable(TT:bW B w0)(hr:d.room<=16384)(h0:C.err=0)
include TT hr h0
theorem df.ask (hn:n<=80)(u v:Int)(hv:Wf v)(h:df B w0 d C q sp n l w):Calls Tryz.prog 14 #[ptr q,ptr sp,.int .i64 u,.int .i64 v] w fun e w'=>e=.returned (.bool true)∧df B w0 d C q sp n l w':=by
 obtain⟨va,vt,E,F,A,T,k,h1,h2,h3,h4,h5⟩:=h;exact(Qg TT hr h0 (by omega) h2 h3 h4 (by omega) (by omega) u v hv h5).mono fun e w' ⟨e1,h6⟩=>⟨e1,va,vt,E,F,A,T,k,h1,h2,h3,h4,h6⟩
theorem df.set (HC:∀E':List En,E'.length<=200->Cap d.room d E')(hn:n<80)(u v:Int)(b:Bool)(h:df B w0 d C q sp n l w):Calls Tryz.prog 9 #[ptr q,.int .i64 u,.int .i64 v,.bool b] w fun e w'=>e=.returned (.int .i64 (dy u v))∧Sep B w0 w' l∧(dy u v≠0->df B w0 d C q sp (n+1) l w')∧
  (dy u v=0->∀w2,Below w'.heap.size w' w2->Calls Tryz.prog 10 #[ptr sp,.agg #[.int .i64 (min u v),.int .i64 (max u v)],.bool b] w2 fun e w3=>e=.returned (.tuple #[])∧df B w0 d C q sp (n+1) l w3):=by
 obtain⟨va,vt,E,F,A,T,k,h1,h2,h3,h4,h5⟩:=h;refine(Qa (n:=200) u v b TT hr h0 HC (by omega) (Nat.le_refl _) (by omega) h5).mono fun e w' ⟨e1,g1,g2⟩=>?_;by_cases hm:dy u v=0
 ·have g3:=g2 hm;rw[kK hm]at g3;refine⟨e1,g3.wF,fun x=>absurd hm x,fun _ w2 hb=>?_⟩;have hp:=py hm;rw[kK hm]at hp;have g4:=(g3.below hb).perm (List.perm_middle (l₁:=[_,_,_])).symm;refine(aI.lift (xs:=iO sp va vt A T []) g4 fun L hL=>aam (min u v,max u v) b (by omega) (by omega) hL).mono fun e w3 ⟨ys,⟨e2,va2,vt2,hy⟩,g5⟩=>?_;subst hy;simp only at g5;have l1:=PZ (E:=E) (u:=min u v) (v:=max u v) (b:=b);have l2:=E8 A (min u v,max u v);have l3:=rE T (min u v,max u v);have l4:=E8 (fQ T (min u v,max u v)) (min u v,max u v);refine⟨e2,va2,vt2,tQ E (min u v) (max u v) b,_,lJ A (min u v,max u v),if b=true then lJ (fQ T (min u v,max u v)) (min u v,max u v)else fQ T (min u v,max u v),k+2,⟨by omega,by omega,by omega,?_⟩,h2.set hp b,h3.up _ _ _,h4.put hp (CX hm) b,g5.perm (List.perm_middle (l₁:=[_,_,_]))⟩;split<;>omega
 ·exact⟨e1,(g1 hm).wF,fun _=>⟨va,vt,E,F,A,T,k,⟨by omega,by omega,by omega,by omega⟩,h2,h3,h4,g1 hm⟩,fun x=>absurd x hm⟩
theorem df.clr (HC:∀E':List En,E'.length<=200->Cap d.room d E')(hn:n<80)(u v:Int)(h:df B w0 d C q sp n l w):∃(va:Value) (th:Bool),(∀w2,Below w.heap.size w w2->w2.cell? ⟨sp,0,none⟩=some va∧Calls Tryz.prog 11 #[va,.agg #[.int .i64 (min u v),.int .i64 (max u v)]] w2 fun e w3=>e=.returned (.bool th)∧Below w2.heap.size w2 w3)∧
  ∀w2,Below w.heap.size w w2->Calls Tryz.prog 12 #[ptr q,.int .i64 u,.int .i64 v] w2 fun e w3=>e=.returned (.int .i64 (if dy u v=0 then(if th=true then 0 else 181)else dy u v))∧Sep B w0 w3 l∧(¬(dy u v=0∧th=true)->df B w0 d C q sp (n+1) l w3)∧
   ((dy u v=0∧th=true)->∀w4,Below w3.heap.size w3 w4->Calls Tryz.prog 13 #[ptr sp,.agg #[.int .i64 (min u v),.int .i64 (max u v)]] w4 fun e w5=>e=.returned (.tuple #[])∧df B w0 d C q sp (n+1) l w5):=by
 obtain⟨va,vt,E,F,A,T,k,h1,h2,h3,h4,h5⟩:=h;refine⟨va,decide ((min u v,max u v)∈A),fun w2 hb=>?_,fun w2 hb=>?_⟩
 ·have g:=h5.below hb;exact⟨(Sep.two (Sep.pk [_] g.sep)).1,(ki va A (min u v,max u v) w2 (Sep.Ri (Sep.pk [_,_] g.sep)) (by omega)).mono fun _ _ ⟨e,g⟩=>⟨e,GR.below g⟩⟩
 ·refine(Xv (n:=200) u v TT hr h0 HC (by omega) (Nat.le_refl _) (by omega) (h5.below hb)).mono fun e w3 ⟨e1,g1,g2⟩=>?_;have ec:GW E u v=if dy u v=0 then(if decide ((min u v,max u v)∈A)=true then 0 else 181)else dy u v:=by
   unfold GW;by_cases hm:dy u v=0
   ·rw[if_pos hm,if_pos hm,kK hm,h4.get h2 hm]
   ·rw[if_neg hm,if_neg hm]
  have eh:AO E u v=(decide (dy u v=0)&&decide ((min u v,max u v)∈A)):=by
   unfold AO;by_cases hm:dy u v=0
   ·rw[kK hm,h4.get h2 hm]
   ·rw[decide_eq_false hm];rfl
  rw[ec]at e1;rw[eh]at g1 g2;by_cases hx:dy u v=0∧decide ((min u v,max u v)∈A)=true
  ·have hm:=hx.1;have g3:=g2 (by rw[hx.1,hx.2];rfl);rw[kK hm]at g3;refine⟨e1,g3.wF,fun y=>absurd hx y,fun _ w4 hb4=>?_⟩;have hp:=py hm;rw[kK hm]at hp;have g4:=(g3.below hb4).perm (List.perm_middle (l₁:=[_,_,_])).symm;refine(aI.lift (xs:=iO sp va vt A T []) g4 fun L hL=>XC (min u v,max u v) (by omega) (by omega) hL).mono fun e w5 ⟨ys,⟨e2,va2,vt2,hy⟩,g5⟩=>?_;subst hy;simp only at g5;have l1:=P8 (E:=E) (u:=min u v) (v:=max u v);have l2:=rE A (min u v,max u v);have l3:=rE T (min u v,max u v);exact⟨e2,va2,vt2,Av E (min u v) (max u v),_,fQ A (min u v,max u v),fQ T (min u v,max u v),k+2,⟨by omega,by omega,by omega,by omega⟩,h2.clr hp,h3.up _ _ _,h4.drop (CX hm),g5.perm (List.perm_middle (l₁:=[_,_,_]))⟩
  ·have g3:=g1 (by
    cases hz:(decide (dy u v=0)&&decide ((min u v,max u v)∈A))with
    |false=>rfl
    |true=>
     rw[Bool.and_eq_true]at hz
     exact absurd ⟨of_decide_eq_true hz.1,hz.2⟩ hx)
   exact⟨e1,g3.wF,fun _=>⟨va,vt,E,F,A,T,k,⟨by omega,by omega,by omega,by omega⟩,h2,h3,h4,g3⟩,fun y=>absurd y hx⟩
theorem df.edg (hn:n<=80)(h:df B w0 d C q sp n l w):Calls Tryz.prog 15 #[ptr q] w fun e w'=>∃v va,e=.returned (.tuple #[v,.int .i64 0])∧Sep B w0 w' l∧∀w2,Below w'.heap.size w' w2->w2.cell? ⟨sp,0,none⟩=some va∧Calls Tryz.prog 16 #[v,va] w2 fun e w3=>e=.returned (.bool true)∧Below w2.heap.size w2 w3:=by
 obtain⟨va,vt,E,F,A,T,k,h1,h2,h3,h4,h5⟩:=h;refine(Rc TT hr h0 (by omega) h5).mono fun e w' ⟨v,o,e1,e2,e3,g⟩=>?_;rw[h2.AR,h4.edg h2]at e1 e2;obtain⟨rfl,ao,c,rfl⟩:=e2 rfl;refine⟨_,va,e1,(aI.yF g).wF,fun w2 hb=>?_⟩;have g2:=(g.below hb).sep;have k1:=Fz _ va _ _ w2 (Sep.XA g2) (Sep.Ri (Sep.pk [_,_,_] g2)) (by omega) (by omega);rw[decide_eq_true rfl]at k1;exact⟨(Sep.two (Sep.pk [_,_] g2)).1,k1⟩
end
end P
end Go.Proofs.YtcenfooehjcddaaGreatDoor
