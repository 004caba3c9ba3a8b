/- Walks of the package cowtree and of what it stands on: lemmas, made short. -/
import Derived.Test.YtceoeaemenhbhaaGreatDoorR15
import Derived.Deep.QuietTactic
import Derived.BigQuiet
import Derived.Test.YtceoeaemenhbhaaGreatDoorR10
import Derived.Test.YtceoeaemenhbhaaGreatDoorR14
import Derived.Test.YtceoeaemenhbhaaGreatDoorR13
set_option maxHeartbeats 16000000
set_option maxRecDepth 100000
set_option linter.unusedVariables false
set_option linter.unusedSimpArgs false
namespace Go.Proofs.YtceoeaemenhbhaaGreatDoor
open Go.Shelf Go.RowKit Go.Lib Go.Sort
section
open N (Nd En bD bc hidR aq aj Ch aQ ah waits)
section
variable {B:Nat}{w0 w:World}{l:List aO}{P:List NV}{C:Cx}{x:TX}{d d1:Dk}
def GEt (B:Nat)(w0:World)(C:Cx)(x:TX)(d:Dk)(P:List NV)(V:aO)(l:List aO)(er:Int)(e:Ending)(w':World):Prop:=
 e=.returned (.int .i64 er)∧∃P' d',(∀y∈P,y∈P')∧bf d d'∧Sep B w0 w' (TL C x d' P' (V::l))
def JTY (B:Nat)(w0:World)(C:Cx)(x:TX)(d d1:Dk)(P:List NV)(U1 U2:aO)(l:List aO)(f7:Bool)(w:World):Prop:=
 (f7=false->Sep B w0 w (TL C x d1 P (U1::l)))∧(f7=true->∃P' d',(∀y∈P,y∈P')∧bf d d'∧Sep B w0 w (TL C x d' P' (U2::l)))
def XO (B:Nat)(w0:World)(CC:Cx)(x:TX)(d d1:Dk)(P:List NV)(U1 U2:aO)(l:List aO)(b1:Bool)(e1:Int)(q4:Nat)(root:Int)(fr tt:ByteArray)(fy:Nat)(cy:Array Value){y1 y3 y5 y6 y9 uW rz rA y13 sR oK oL rB y29:Value}(C:List Bool->Act->Prop)(w:World):Prop:=∀{f0 f1 f2 f3 f4 f5 f6 f7 f8 f9 f10 f11 f12:Bool}{x7 x8 xF sS x20 jP kW kB x24 x25 rC x27 x28:Value},f12=false->JTY B w0 CC x d d1 P U1 U2 (aF q4 (.cells #[.string fr,.string tt] 95)::l) f7 w->Hid (f0=true->sS=ptr CC.tq)->Hid (f1=true->x20=ptr CC.tq)->Hid (f2=true->jP=ptr CC.tq)->Hid (f3=true->kW=.pointer (some ⟨CC.tq,1,none⟩))->Hid (f4=true->kB=.int .i64 root)->Hid (f5=true->x24=.agg #[.string fr,.string tt])->Hid (f6=true->x25=.func (.func fy) #[] cy)->Hid (f7=true->f4=true∧f5=true∧rC=.tuple #[.bool b1,.int .i64 e1])->Hid (f8=true->f7=true∧xF=.tuple #[.bool b1,.int .i64 e1])->Hid (f9=true->f7=true∧x27=.bool b1)->Hid (f10=true->f7=true∧x28=.int .i64 e1)->Hid (f11=true->f7=true∧x7=.bool b1)->C [f0,f1,f2,f3,f4,f5,f6,f7,f8,f9,f10,f11,f12] {tmps:=#[ptr CC.tq,y1,.func (.func fy) #[] cy,y3,.pointer (some ⟨q4,0,none⟩),y5,y6,x7,x8,y9,uW,rz,rA,y13,sR,oK,oL,rB,xF,sS,x20,jP,kW,kB,x24,x25,rC,x27,x28,y29],defers:=[]}
theorem Jk {σ:Type} {st:σ->En->σ×Bool} {m:σ->Nat} {Nm:Nat} {U:σ->aO} {fy:Nat} {cy:Array Value} {f:Nat} {s s':σ} {fr tt:ByteArray} {b:Bool} {er:Int} (T:bW B w0) (hr:d.room<=16384) (ok:x.Ok d.room) (hz:x.Sz) (EY:∀args w,(callFunc fy args).run Tryz.prog w=.ok (.enter fy args) w) (hu:UD B w0 C x fy cy st U m Nm) (hm:∀s e,m s<=m (st s e).1) (h0:C.err=0) (hw:Wf C.root) (hd:bf d d1) (he:eZ x d st f s C.root 0 fr tt=some (s',(b,er))) (hN:m s'<=Nm) (h:Sep B w0 w (TL C x d1 P (U s::l))):
  Calls Tryz.prog 51 #[ptr C.tq,.agg #[.string fr,.string tt],.func (.func fy) #[] cy] w (GEt B w0 C x d P (U s') l er):=by
 have S1:Hid (Sep B w0 (w.alloc (.cells #[.string fr,.string tt] 95)) (TL C x d1 P (U s::aF w.heap.size (.cells #[.string fr,.string tt] 95)::l))):=Sep.pb [_,_,_,_,_] (h.aP _);have KE:Hid (∀u,Sep B w0 u (TL C x d1 P (U s::aF w.heap.size (.cells #[.string fr,.string tt] 95)::l))->Calls Tryz.prog 87 #[ptr C.tq,.int .i64 C.root,.int .i64 0,.agg #[.string fr,.string tt],.func (.func fy) #[] cy] u (VF B w0 C x d P (U s') (aF w.heap.size (.cells #[.string fr,.string tt] 95)::l) b er)):=fun u hu'=>UE T hr ok hz EY hu hm f u d1 P _ s s' C.root 0 fr tt b er hw (by omega) hd he hN hu';obtain⟨ts,⟨t0,t1,t2⟩,_⟩:=Sep.vx (Sep.pk [_,_] (h));rw[h0]at t2;have XP:Hid (C.root=C.root):=rfl;clear h hu hm h0 hw hd he hN T hr ok hz;go_enter Tryz.func51,Tryz.ntmps51
 go_wp2_with fail
 clear t0 t1 t2 ts;generalize w.alloc (.cells #[.string fr,.string tt] 95)=w1 at*;generalize w.heap.size=q4 at*;refine bc 12 (XO B w0 C x d d1 P (U s) (U s') l b er q4 C.root fr tt fy cy) (by kernel_rfl) (by kernel_rfl) (by kernel_rfl) (fun _ k=>k rfl ⟨fun _=>Sep.drew S1.out,(fun h=>by cases h)⟩ aq aq aq aq aq aq aq aq aq aq aq aq) ?_ ?_ ?_
 ·intro i w' hne f0 f1 f2 f3 f4 f5 f6 f7 f8 f9 f10 f11 f12 x7 x8 xF sS x20 jP kW kB x24 x25 rC x27 x28 e12 hB h0 h1 h2 h3 h4 h5 h6 h7 h8 h9 h10 h11 hi;obtain⟨hlt,hun,_⟩:=aQ hi;have hlt':i<13:=hlt;clear hlt;rcases(by omega:i=0∨i=1∨i=2∨i=3∨i=4∨i=5∨i=6∨i=7∨i=8∨i=9∨i=10∨i=11)with rfl|rfl|rfl|rfl|rfl|rfl|rfl|rfl|rfl|rfl|rfl|rfl
  ·refine aj rfl fun K HK=>?_;go_simp;exact HK.out _ _ fun _ k=>k e12 hB hidR h1 h2 h3 h4 h5 h6 h7 h8 h9 h10 h11
  ·refine aj rfl fun K HK=>?_;go_simp;exact HK.out _ _ fun _ k=>k e12 hB h0 hidR h2 h3 h4 h5 h6 h7 h8 h9 h10 h11
  ·cases h1 (ah 1 hi (by kernel_rfl));refine aj rfl fun K HK=>?_;go_simp;exact HK.out _ _ fun _ k=>k e12 hB h0 h1 hidR h3 h4 h5 h6 h7 h8 h9 h10 h11
  ·cases h2 (ah 2 hi (by kernel_rfl));refine aj rfl fun K HK=>?_;go_simp;exact HK.out _ _ fun _ k=>k e12 hB h0 h1 h2 hidR h4 h5 h6 h7 h8 h9 h10 h11
  ·have un:f4=false:=hun;cases h3 (ah 3 hi (by kernel_rfl));have n7:f7=false:=by
    cases hf:f7
    ·rfl
    ·exact absurd (h7.out hf).1 (by rw[un];simp)
   obtain⟨_,⟨t0,t1,t2⟩,_⟩:=Sep.vx (Sep.pk [_,_] (hB.1 n7));refine aj rfl fun K HK=>?_;go_simp;exact HK.out _ _ fun _ k=>k e12 hB h0 h1 h2 h3 hidR h5 h6 (fun d=>by have e:=(h7.out d).1;rw[un]at e;cases e) h8 h9 h10 h11
  ·have un:f5=false:=hun;have n7:f7=false:=by
    cases hf:f7
    ·rfl
    ·exact absurd (h7.out hf).2.1 (by rw[un];simp)
   obtain⟨_,⟨y0,y1⟩,_⟩:=Sep.c2 (Sep.pk [_,_,_,_,_] (hB.1 n7));refine aj rfl fun K HK=>?_;go_simp;exact HK.out _ _ fun _ k=>k e12 hB h0 h1 h2 h3 h4 hidR h6 (fun d=>by have e:=(h7.out d).2.1;rw[un]at e;cases e) h8 h9 h10 h11
  ·refine aj rfl fun K HK=>?_;go_simp;exact HK.out _ _ fun _ k=>k e12 hB h0 h1 h2 h3 h4 h5 hidR h7 h8 h9 h10 h11
  ·have un:f7=false:=hun;cases h0 (ah 0 hi (by kernel_rfl));have d4:f4=true:=ah 4 hi (by kernel_rfl);cases h4 d4;have d5:f5=true:=ah 5 hi (by kernel_rfl);cases h5 d5;cases h6 (ah 6 hi (by kernel_rfl));refine aj rfl fun K HK=>?_;go_simp;refine Calls.mono (KE.out _ (hB.1 un)) ?_;rintro e u4 ⟨rfl,s4⟩;exact HK.out _ _ fun _ k=>k e12 ⟨(fun h=>by cases h),fun _=>s4⟩ h0 h1 h2 h3 h4 h5 h6 (fun _=>⟨d4,d5,rfl⟩) (fun d=>by have e:=(h8.out d).1;rw[un]at e;cases e) (fun d=>by have e:=(h9.out d).1;rw[un]at e;cases e) (fun d=>by have e:=(h10.out d).1;rw[un]at e;cases e) (fun d=>by have e:=(h11.out d).1;rw[un]at e;cases e)
  ·have d7:f7=true:=ah 7 hi (by kernel_rfl);obtain⟨u4,u5,rfl⟩:=h7.out d7;refine aj rfl fun K HK=>?_;go_simp;exact HK.out _ _ fun _ k=>k e12 hB h0 h1 h2 h3 h4 h5 h6 h7 (fun _=>⟨d7,rfl⟩) h9 h10 h11
  ·have d8:f8=true:=ah 8 hi (by kernel_rfl);obtain⟨_,rfl⟩:=h8.out d8;have d7:f7=true:=(h8.out d8).1;refine aj rfl fun K HK=>?_;go_simp;exact HK.out _ _ fun _ k=>k e12 hB h0 h1 h2 h3 h4 h5 h6 h7 h8 (fun _=>⟨d7,rfl⟩) h10 h11
  ·have d8:f8=true:=ah 8 hi (by kernel_rfl);obtain⟨_,rfl⟩:=h8.out d8;have d7:f7=true:=(h8.out d8).1;refine aj rfl fun K HK=>?_;go_simp;exact HK.out _ _ fun _ k=>k e12 hB h0 h1 h2 h3 h4 h5 h6 h7 h8 h9 (fun _=>⟨d7,rfl⟩) h11
  ·have d9:f9=true:=ah 9 hi (by kernel_rfl);obtain⟨_,rfl⟩:=h9.out d9;have d7:f7=true:=(h9.out d9).1;refine aj rfl fun K HK=>?_;go_simp;exact HK.out _ _ fun _ k=>k e12 hB h0 h1 h2 h3 h4 h5 h6 h7 h8 h9 h10 (fun _=>⟨d7,rfl⟩)
 ·intro w' f0 f1 f2 f3 f4 f5 f6 f7 f8 f9 f10 f11 f12 x7 x8 xF sS x20 jP kW kB x24 x25 rC x27 x28 e12 hB h0 h1 h2 h3 h4 h5 h6 h7 h8 h9 h10 h11 hi;have d10:f10=true:=ah 10 hi (by kernel_rfl);obtain⟨_,rfl⟩:=h10.out d10;have d11:f11=true:=ah 11 hi (by kernel_rfl);obtain⟨_,rfl⟩:=h11.out d11;clear hi;have u7:=(h10.out d10).1;refine aj rfl fun K HK=>?_;go_simp;refine HK.out _ _ ?_;obtain⟨P',d',m1,m2,s9⟩:=hB.2 u7;have S9:Hid (Sep B w0 w' (TL C x d' P' (U s'::aF q4 (.cells #[.string fr,.string tt] 95)::l))):=s9;have Zx:Hid ((∀y∈P,y∈P')∧bf d d'):=⟨m1,m2⟩;clear s9 m1 m2 h0 h1 h2 h3 h4 h5 h6 h7 h8 h9 h10 h11 hB;go_wp2;go_ret;exact⟨rfl,P',d',Zx.out.1,Zx.out.2,Sep.drop (Sep.pk [_,_,_,_,_] (S9.out))⟩
 ·intro _ _;intros;assumption
theorem ia:∀args w,(callFunc 52 args).run Tryz.prog w=.ok (.enter 52 args) w:=fun _ _=>rfl
theorem uT:∀args w,(callFunc 53 args).run Tryz.prog w=.ok (.enter 53 args) w:=fun _ _=>rfl
def GSc (B:Nat)(w0:World)(C:Cx)(x:TX)(d:Dk)(P:List NV)(l:List aO)(o:List En)(er:Int)(e:Ending)(w':World):Prop:=
 ∃v,e=.returned (.tuple #[v,.int .i64 er])∧(er=0->∃ao c,v=.slice ao o.length c)∧(er≠0->v=.slice none 0 0∧o=[])∧∃P' d',(∀y∈P,y∈P')∧bf d d'∧Sep B w0 w' (TL C x d' P' (CY v o::l))
theorem Ru {f:Nat}{s' o:List En}{fr tt:ByteArray}{b:Bool}{er:Int}(T:bW B w0)(hr:d.room<=16384)(ok:x.Ok d.room)(hz:x.Sz)(h0:C.err=0)(hw:Wf C.root)(hd:bf d d1)
  (he:eZ x d Rt f [] C.root 0 fr tt=some (s',(b,er)))(hN:s'.length<=900000)(ho1:er=0->o=s')(ho2:er≠0->o=[])(h:Sep B w0 w (TL C x d1 P l)):
  Calls Tryz.prog 19 #[ptr C.tq,.string fr,.string tt] w (GSc B w0 C x d P l o er):=by
 have S1:Hid (Sep B w0 (w.alloc (.cells #[.slice none 0 0] 27)) (TL C x d1 P (Sv w.heap.size []::l))):=Sep.pb [_,_,_,_] (Sep.Jh (v:=.slice none 0 0) (Sep.pk [_] (Sep.OO (h.aP (.cells #[.slice none 0 0] 27)))));have KG:Hid _:=ib (w.alloc (.cells #[.slice none 0 0] 27)) C.tq;have KE:Hid _:=Jk T hr ok hz ia (Ji (B:=B) (w0:=w0) (C:=C) (x:=x) (pl:=w.heap.size)) (fun s e=>by unfold Rt;simp) h0 hw hd he hN S1.out;have Zy:Hid ((er=0->o=s')∧(er≠0->o=[])):=⟨ho1,ho2⟩;clear h h0 hw hd he hN T hr ok hz ho1 ho2;go_enter Tryz.func19,Tryz.ntmps19
 go_wp2_with fail
 refine Calls.mono KG.out ?_;rintro e w1 ⟨rfl,rfl⟩;clear KG
 go_wp2_with fail
 clear S1;generalize w.alloc (.cells #[.slice none 0 0] 27)=w1 at*;generalize w.heap.size=pl at*;refine Calls.mono KE.out ?_;rintro e w2 ⟨rfl,P',d',m1,m2,s2⟩;obtain⟨ao,c,ho⟩:=Sep.Jg (Sep.pk [_,_,_,_] (s2));have HO:Hid _:=ho;have HM:Hid ((∀y∈P,y∈P')∧bf d d'):=⟨m1,m2⟩;obtain⟨ps,p0,_⟩:=Sep.c1 ho;clear KE s2 m1 m2 ho;by_cases he0:er=0
 ·subst he0;obtain rfl:=Zy.out.1 rfl;go_wp2;go_ret2;exact⟨_,rfl,fun _=>⟨ao,c,rfl⟩,fun h=>absurd rfl h,P',d',HM.out.1,HM.out.2,Sep.pb [_,_,_,_] (Sep.drop HO.out)⟩
 ·obtain rfl:=Zy.out.2 he0;have hne:(er != 0)=true:=bne_iff_ne.2 he0;go_wp2;go_ret2;exact⟨_,rfl,fun h=>absurd h he0,fun _=>⟨rfl,rfl⟩,P',d',HM.out.1,HM.out.2,Sep.pb [_,_,_,_] (Sep.OO (Sep.drop (Sep.drop HO.out)))⟩
def GNx (B:Nat)(w0:World)(C:Cx)(x:TX)(d:Dk)(P:List NV)(l:List aO)(o:Option En)(er:Int)(e:Ending)(w':World):Prop:=
 e=.returned (.tuple #[.agg #[.string (o.getD (⟨#[]⟩,⟨#[]⟩)).1,.string (o.getD (⟨#[]⟩,⟨#[]⟩)).2],.bool o.isSome,.int .i64 er])∧∃P' d',(∀y∈P,y∈P')∧bf d d'∧Sep B w0 w' (TL C x d' P' l)
theorem Jl {f:Nat}{s':Option En}{fr:ByteArray}{b:Bool}{er:Int}(T:bW B w0)(hr:d.room<=16384)(ok:x.Ok d.room)(hz:x.Sz)(h0:C.err=0)(hw:Wf C.root)(hd:bf d d1)
  (he:eZ x d Sw f none C.root 0 fr ⟨#[]⟩=some (s',(b,er)))(h:Sep B w0 w (TL C x d1 P l)):
  Calls Tryz.prog 22 #[ptr C.tq,.string fr] w (GNx B w0 C x d P l s' er):=by
 have WA:∃W,W=((w.alloc (.cells #[.string ⟨#[]⟩,.string ⟨#[]⟩] 45)).alloc (.cells #[.string ⟨#[]⟩,.string ⟨#[]⟩] 45)).alloc (.cells #[.bool false] 4):=⟨_,rfl⟩;have S1:Hid (Sep B w0 (((w.alloc (.cells #[.string ⟨#[]⟩,.string ⟨#[]⟩] 45)).alloc (.cells #[.string ⟨#[]⟩,.string ⟨#[]⟩] 45)).alloc (.cells #[.bool false] 4)) (TL C x d1 P (XN (w.heap.size+1) (w.heap.size+2) none::aF w.heap.size (.cells #[.string ⟨#[]⟩,.string ⟨#[]⟩] 45)::l))):=by
  have h3:=Sep.aR (Sep.aR (Sep.aP h (.cells #[.string ⟨#[]⟩,.string ⟨#[]⟩] 45)) (.cells #[.string ⟨#[]⟩,.string ⟨#[]⟩] 45) (w.heap.size+1) (by simp)) (.cells #[.bool false] 4) (w.heap.size+2) (by simp);exact Sep.pb [_,_,_,_] (Sep.pb [_,_,_,_,_] (Sep.pk [_] (Sep.join (Sep.pk [_] h3))))
 have KG:Hid (∀u,Calls Tryz.prog 42 #[ptr C.tq] u fun e w'=>e=.returned (ptr C.tq)∧u=w'):=fun u=>ib u C.tq;have KE:Hid _:=Jk T hr ok hz uT (Jj (B:=B) (w0:=w0) (C:=C) (x:=x) (p1:=w.heap.size+1) (p2:=w.heap.size+2)) (fun s e=>Nat.le_refl _) h0 hw hd he (Nat.le_refl _) S1.out;clear h h0 hw hd he T hr ok hz WA;go_enter Tryz.func22,Tryz.ntmps22
 go_wp2_with fail
 refine Calls.mono (KG.out _) ?_;rintro e w1 ⟨rfl,rfl⟩;clear KG
 go_wp2_with fail
 clear S1;generalize((w.alloc (.cells #[.string ⟨#[]⟩,.string ⟨#[]⟩] 45)).alloc (.cells #[.string ⟨#[]⟩,.string ⟨#[]⟩] 45)).alloc (.cells #[.bool false] 4)=w1 at*;generalize w.heap.size+2=p2 at*;generalize w.heap.size+1=p1 at*;generalize w.heap.size=p0 at*;refine Calls.mono KE.out ?_;rintro e w2 ⟨rfl,P',d',m1,m2,s2⟩;have HM:Hid ((∀y∈P,y∈P')∧bf d d'):=⟨m1,m2⟩;have ho:=Sep.dV (Sep.pk [_,_,_,_] s2);obtain⟨_,⟨a0,a1⟩,f0,f1⟩:=Sep.c2 ho;obtain⟨_,b0,_⟩:=Sep.c1 (Sep.pk [_] ho);obtain⟨_,⟨r0,r1⟩,g0,g1⟩:=Sep.c2 (Sep.pk [_,_,_,_,_,_] ho);have vD:p0≠p1:=Sep.ne (Sep.pk [_,_,_,_,_,_] ho);have n10:=vD.symm;have n02:p0≠p2:=Sep.ne (Sep.pk [_,_,_,_,_,_] (Sep.pk [_] ho));have n20:=n02.symm;generalize hk:(s'.getD (⟨#[]⟩,⟨#[]⟩)).1=k1 at*;generalize hv:(s'.getD (⟨#[]⟩,⟨#[]⟩)).2=v1 at*;have SF:Hid (Sep B w0 ((w2.setCell ⟨p0,0,none⟩ (.string k1)).setCell ⟨p0,1,none⟩ (.string v1)).drew (aF p0 (.cells #[.string k1,.string v1] 45)::TL C x d' P' l)):=by
  have h5:=Sep.kZ (x:=.string v1) (Sep.kZ (x:=.string k1) (Sep.pk [_,_,_,_,_,_] ho) 0) 1;exact Sep.drew (Sep.pk [] (Sep.drop (Sep.pk [_] (Sep.drop (Sep.pk [_] h5)))))
 have HK:Hid ((s'.getD (⟨#[]⟩,⟨#[]⟩)).1=k1∧(s'.getD (⟨#[]⟩,⟨#[]⟩)).2=v1):=⟨hk,hv⟩;clear KE s2 m1 m2 ho hk hv
 go_wp2_with fail
 go_region
 go_wp2;generalize((w2.setCell ⟨p0,0,none⟩ (.string k1)).setCell ⟨p0,1,none⟩ (.string v1)).drew=w3 at*;clear a0 a1 f0 f1 b0 r0 r1 g0 g1;obtain⟨_,⟨r0,r1⟩,g0,g1⟩:=Sep.c2 SF.out;refine bodyPost_ret (v:=.tuple #[.agg #[.string k1,.string v1],.bool s'.isSome,.int .i64 er]) ?_ rfl ⟨by rw[HK.out.1,HK.out.2],P',d',HM.out.1,HM.out.2,SF.out.drop⟩;rw[bL rfl];go_simp
end
end
section
open N (Nd En)
theorem Rv (w:World):(Instr.makeMap 135 none).run Tryz.prog w=.ok (.map (some w.heap.size)) (w.alloc (.map #[] 0)):=by kernel_rfl
theorem Rx (w:World):(zeroValue 3).run Tryz.prog w=.ok (.int .i64 0) w:=by kernel_rfl
section
variable {B:Nat}{w0 w w':World}{l:List aO}{m n:Nat}{g:Gv}
theorem Sep.Nq (h:Sep B w0 w (cP m g n::l)){k:Int}(hk:Wf k):(Instr.lookup 135 (.map (some m)) (.int .i64 k) true).run Tryz.prog w=.ok (.tuple #[((g k).getD (.int .i64 0)),.bool (g k).isSome]) w:=by
 obtain⟨D,o,hv⟩:=h.qw;obtain⟨v,ps,hr,hR⟩:=o.look_ok gN Tryz.underlying135 (Rx w) (zd:=.held (.int .i64 0)) (zp:=[]) rfl hk.key;rw[hr,mU (z:=.int .i64 0) (c:=.int .i64 0) hR ((hv k).2 _),(hv k).1]
theorem Sep.Nr (h:Sep B w0 w (cP m g n::l)){k:Int}(hk:Wf k)(c:Value)(hn:n<1000000):∃w',(Instr.mapUpdate 135 (.map (some m)) (.int .i64 k) c).run Tryz.prog w=.ok () w'∧Sep B w0 w' (cP m (wQ g k c) (n+1)::l):=by
 obtain⟨D,o,hv⟩:=h.qw;obtain⟨w',hr,o',ht⟩:=o.store gN Tryz.underlying135 (Nat.lt_of_lt_of_le hn (by decide)) hk.key (val:=c) (d:=.held c) (ps:=[]) rfl;refine⟨w',hr,h.step (cJ _ _ _) fun X hX=>⟨X,⟨⟨_,o',hv.put o.isMap k c⟩,hX.2⟩,cB.mapTurned ((hX.2 m).2 rfl) ht,fun k hk=>.inl hk⟩⟩
end
abbrev Ey:=Int×Int×NV
def OP (v:Ey):Pg:=(v.1,v.2.1,v.2.2.n)
def AK (v:Ey):List Value:=[.int .i64 v.1,.int .i64 v.2.1,.bool v.2.2.n.leaf,.slice v.2.2.ae v.2.2.n.es.length v.2.2.ce,.slice v.2.2.ak v.2.2.n.ks.length v.2.2.ck,.slice v.2.2.az v.2.2.n.ss.length v.2.2.cz]
theorem Jm (v:Ey):∀u∈AK v,u.oneCell'=true:=fun u hu=>by simp[AK]at hu;rcases hu with rfl|rfl|rfl|rfl|rfl|rfl<;>rfl
theorem Jn:(Tryz.prog.info? 85).map (fun i=>(i.zero,i.size,i.bytes))=some (some (.agg #[.int .i64 0,.int .i64 0,.bool false,.slice none 0 0,.slice none 0 0,.slice none 0 0]),6,96):=by kernel_rfl
def EM (v:Value)(V:List Ey):aO:=RowK 85 6 v V.length (V.flatMap AK)
theorem iP (v:Value)(V:List Ey):Good (EM v V):=fM _ _ _ _ _
def yI (pd pl:Nat)(s:List Pg)(P:List NV):aO:=fun w X=>∃(g:Gv) (m:Nat) (vl:Value) (V:List Ey) (n:Nat),(∀k,(∀p∈s,p.1≠k)->g k=none)∧V.map OP=s∧(∀v∈V,v.2.2∈P)∧n<=s.length∧Both (aF pd (.cells #[.map (some m)] 135)) (Both (cP m g n) (Both (aF pl (.cells #[vl] 79)) (EM vl V))) w X
theorem yJ (pd pl:Nat)(s:List Pg)(P:List NV):Good (yI pd pl s P):=
 ⟨fun w w' X ⟨g,m,vl,V,n,a,b,c,e,h⟩ hk hs=>⟨g,m,vl,V,n,a,b,c,e,(aJ (aZ _ _) (aJ (cJ _ _ _) (aJ (aZ _ _) (iP _ _)))).kept w w' X h hk hs⟩,
  fun w X ⟨g,m,vl,V,n,a,b,c,e,h⟩=>(aJ (aZ _ _) (aJ (cJ _ _ _) (aJ (aZ _ _) (iP _ _)))).lt w X h⟩
section
variable {B:Nat}{w0 w:World}{l:List aO}{P Q:List NV}{C:Cx}{x:TX}{d d1:Dk}{pd pl:Nat}{s s':List Pg}{er:Int}
theorem Sep.c6 {q:Nat}{a0 a1 a2 a3 a4 a5:Value}{ty:TypeId}(h:Sep B w0 w (aF q (.cells #[a0,a1,a2,a3,a4,a5] ty)::l)):w.cell? ⟨q,0,none⟩=some a0∧w.cell? ⟨q,1,none⟩=some a1:=by
 have hb:=h.blk;constructor<;>simp[World.cell?,hb]
theorem Sep.o5 {r1 r2 r3 r4 r5:aO}(h:Sep B w0 w (r1::r2::r3::r4::r5::l)):Sep B w0 w (r5::r3::r4::r1::r2::l):=
 Sep.sZ (Sep.kj (Sep.kj (Sep.kj h)))
theorem Sep.Ry (h:Sep B w0 w (yI pd pl s P::l))(hq:∀p∈P,p∈Q):Sep B w0 w (yI pd pl s Q::l):=
 h.step (yJ _ _ _ _) fun X ⟨g,m,vl,V,n,a,b,c,e,hX⟩=>⟨X,⟨g,m,vl,V,n,a,b,fun v hv=>hq _ (c v hv),e,hX⟩,cB.refl _ _,fun k hk=>.inl hk⟩
theorem Sep.Jo (h:Sep B w0 w (yI pd pl s P::l)):∃g m ao c V n,(∀k,(∀p∈s,p.1≠k)->g k=none)∧V.map OP=s∧(∀v∈V,v.2.2∈P)∧n<=s.length∧Sep B w0 w (aF pd (.cells #[.map (some m)] 135)::cP m g n::aF pl (.cells #[.slice ao V.length c] 79)::EM (.slice ao V.length c) V::l):=by
 obtain⟨hB,hb,Y,⟨gg,X,Z,⟨g,m,vl,V,n,a,b,c,e,hX⟩,hz,hd,hy⟩,hY⟩:=h;have h0:Hp w (Both (aF pd (.cells #[.map (some m)] 135)) (Both (cP m g n) (Both (aF pl (.cells #[vl] 79)) (EM vl V)))::l) Y:=⟨aJ (aZ _ _) (aJ (cJ _ _ _) (aJ (aZ _ _) (iP _ _))),X,Z,hX,hz,hd,hy⟩;have h1:Sep B w0 w (aF pd (.cells #[.map (some m)] 135)::cP m g n::aF pl (.cells #[vl] 79)::EM vl V::l):=⟨hB,hb,Y,Hp.under (Hp.part (aZ _ _) (aJ (cJ _ _ _) (aJ (aZ _ _) (iP _ _))) h0) fun _ h1=>Hp.under (Hp.part (cJ _ _ _) (aJ (aZ _ _) (iP _ _)) h1) fun _ h2=>Hp.part (aZ _ _) (iP _ _) h2,hY⟩;obtain⟨ao,cc,rfl⟩:=Sep.uf (n:=V.length) (Sep.wy h1);exact⟨g,m,ao,cc,V,n,a,b,c,e,h1⟩
theorem Sep.Jp {g:Gv}{m n:Nat}{vl:Value}{V:List Ey}(a:∀k,(∀p∈s,p.1≠k)->g k=none)(b:V.map OP=s)(c:∀v∈V,v.2.2∈P)(e:n<=s.length)(h:Sep B w0 w (aF pd (.cells #[.map (some m)] 135)::cP m g n::aF pl (.cells #[vl] 79)::EM vl V::l)):Sep B w0 w (yI pd pl s P::l):=by
 have h2:=(((h.map fun _ h=>Hp.under h fun _ h=>Hp.under h fun _=>Hp.join).map fun _ h=>Hp.under h fun _=>Hp.join)).join;obtain⟨hB,hb,Y,⟨gg,X,Z,hX,hz,hd,hy⟩,hY⟩:=h2;exact⟨hB,hb,Y,⟨yJ _ _ _ _,X,Z,⟨g,m,vl,V,n,a,b,c,e,hX⟩,hz,hd,hy⟩,hY⟩
theorem UN {v:Value}{V:List Ey}{y:Ey}(h:Sep B w0 w (RowK 85 6 v (V.length+1) (V.flatMap AK++AK y)::l)):Sep B w0 w (EM v (V++[y])::l):=by
 unfold EM;rw[List.length_append,List.length_singleton,List.flatMap_append,List.flatMap_singleton];exact h
theorem Jq {q:NV}{id dp:Int}(h:Sep B w0 w (TL C x d P (yI pd pl s P::l)))(hq:q∈P)(hw:Wf id)(hn:(s.any fun p=>decide (p.1=id))=false)(hs:s.length<=100000):
  Calls Tryz.prog 75 #[.agg #[.int .i64 id,.int .i64 dp,.bool q.n.leaf,.slice q.ae q.n.es.length q.ce,.slice q.ak q.n.ks.length q.ck,.slice q.az q.n.ss.length q.cz],.pointer (some ⟨pd,0,none⟩),.pointer (some ⟨pl,0,none⟩)] w fun e w'=>e=.returned (.bool true)∧Sep B w0 w' (TL C x d P (yI pd pl (s++[(id,dp,q.n)]) P::l)):=by
 obtain⟨g,m,ao,c,V,n,hg,hV,hP,hnn,ho⟩:=Sep.Jo (Sep.kj (h));have hgn:g id=none:=hg id fun p hp=>by simpa using(List.any_eq_false.1 hn) p hp
 have LK:=Sep.Nq (Sep.jk (ho.alloc (.cells #[.int .i64 id,.int .i64 dp,.bool q.n.leaf,.slice q.ae q.n.es.length q.ce,.slice q.ak q.n.ks.length q.ck,.slice q.az q.n.ss.length q.cz] 85))) hw;rw[hgn]at LK;simp only[Option.getD_none,Option.isSome_none]at LK;have hVl:V.length=s.length:=by rw[<-hV,List.length_map]
 have hln:V.length<1000000:=by omega
 have SB:Hid (Sep B w0 ((w.alloc (.cells #[.int .i64 id,.int .i64 dp,.bool q.n.leaf,.slice q.ae q.n.es.length q.ce,.slice q.ak q.n.ks.length q.ck,.slice q.az q.n.ss.length q.cz] 85)).alloc (.cells #[.int .i64 id,.int .i64 dp,.bool q.n.leaf,.slice q.ae q.n.es.length q.ce,.slice q.ak q.n.ks.length q.ck,.slice q.az q.n.ss.length q.cz] 85)) (RowK 85 6 (.slice ao V.length c) V.length (V.flatMap AK)::aF (w.heap.size+1) (.cells #[.int .i64 id,.int .i64 dp,.bool q.n.leaf,.slice q.ae q.n.es.length q.ce,.slice q.ak q.n.ks.length q.ck,.slice q.az q.n.ss.length q.cz] 85)::aF w.heap.size (.cells #[.int .i64 id,.int .i64 dp,.bool q.n.leaf,.slice q.ae q.n.es.length q.ce,.slice q.ak q.n.ks.length q.ck,.slice q.az q.n.ss.length q.cz] 85)::aF pd (.cells #[.map (some m)] 135)::cP m g n::aF pl (.cells #[.slice ao V.length c] 79)::Tx C.t C.f x::File C.f C.b d::kJ C::Pl P::l)):=Sep.dH (Sep.aR (ho.aP (.cells #[.int .i64 id,.int .i64 dp,.bool q.n.leaf,.slice q.ae q.n.es.length q.ce,.slice q.ak q.n.ks.length q.ck,.slice q.az q.n.ss.length q.cz] 85)) _ _ (by simp));have UM:Hid _:=Je (news:=AK (id,dp,q)) (Sep.blk (Sep.jk SB.out));obtain⟨ps,p0,_⟩:=Sep.c1 ho;obtain⟨Zz,l0,_⟩:=Sep.c1 (Sep.sZ ho);have HF:Hid ((∀k,(∀p∈s,p.1≠k)->g k=none)∧V.map OP=s∧(∀v∈V,v.2.2∈P)∧n<=s.length∧q∈P∧Wf id∧s.length<=100000):=⟨hg,hV,hP,hnn,hq,hw,hs⟩;clear h ho hg hV hP hnn hq hgn hn hs hVl;go_enter Tryz.func75,Tryz.ntmps75
 go_wp2_with (at_builtin;refine UJ rfl rfl Jn Tryz.underlying79 rfl (by decide) (by decide) _ rfl SB.out rfl UM.out rfl (Jm (id,dp,q)) hln ?_;intro JN c5 w5 s5;have S5:Hid (Sep B w0 w5 (aF pl (.cells #[.slice ao V.length c] 79)::aF pd (.cells #[.map (some m)] 135)::cP m g n::EM (.slice JN (V.length+1) c5) (V++[(id,dp,q)])::aF w.heap.size (.cells #[.int .i64 id,.int .i64 dp,.bool q.n.leaf,.slice q.ae q.n.es.length q.ce,.slice q.ak q.n.ks.length q.ck,.slice q.az q.n.ss.length q.cz] 85)::Tx C.t C.f x::File C.f C.b d::kJ C::Pl P::l)):=Sep.o5 (UN (Sep.drop (Sep.jk s5)));clear s5 SB UM LK p0 l0 ps Zz;obtain⟨ps,p0,_⟩:=Sep.c1 (Sep.jk S5.out);obtain⟨Zz,l0,lf⟩:=Sep.c1 S5.out;obtain⟨c60,c61⟩:=Sep.c6 (Sep.kj S5.out);have S6:Hid (Sep B w0 (w5.setCell ⟨pl,0,none⟩ (.slice JN (V.length+1) c5)) (aF pl (.cells #[.slice JN (V.length+1) c5] 79)::aF pd (.cells #[.map (some m)] 135)::cP m g n::EM (.slice JN (V.length+1) c5) (V++[(id,dp,q)])::aF w.heap.size (.cells #[.int .i64 id,.int .i64 dp,.bool q.n.leaf,.slice q.ae q.n.es.length q.ce,.slice q.ak q.n.ks.length q.ck,.slice q.az q.n.ss.length q.cz] 85)::Tx C.t C.f x::File C.f C.b d::kJ C::Pl P::l)):=Sep.kZ (x:=.slice JN (V.length+1) c5) S5.out 0;obtain⟨w7,hr7,s7⟩:=Sep.Nr (Sep.sZ S6.out) HF.out.2.2.2.2.2.1 (.int .i64 dp) (by have:=HF.out;omega);have hne:pl≠pd:=Sep.ne S5.out;have hne2:=hne.symm;have XQ:pl≠w.heap.size:=Sep.ne (Sep.TU (Sep.kj S5.out));have aao:=XQ.symm;have S7:Hid _:=Sep.drop (Sep.kj s7);clear S5 S6 s7)
 have SF:Hid (Sep B w0 w7 (TL C x d P (yI pd pl (s++[(id,dp,q.n)]) P::l))):=by
  obtain⟨f1,f2,f3,f4,f5,_⟩:=HF.out;refine Sep.L5 (Sep.Jp (n:=n+1) (m:=m) (vl:=.slice JN (V.length+1) c5) (V:=V++[(id,dp,q)]) (g:=wQ g id (.int .i64 dp)) ?_ ?_ ?_ ?_ (Sep.sZ S7.out))
  ·intro k hk;have h1:id≠k:=hk (id,dp,q.n) (by simp);unfold wQ;rw[if_neg (fun e=>h1 e.symm)];exact f1 k fun p hp=>hk p (by simp[hp])
  ·rw[List.map_append,f2];rfl
  ·intro v hv;rcases List.mem_append.1 hv with hv|hv
   ·exact f3 v hv
   ·rw[List.mem_singleton.1 hv];exact f5
  ·rw[List.length_append,List.length_singleton];omega
 go_ret;exact⟨rfl,SF.out⟩
def UO (B:Nat)(w0:World)(C:Cx)(x:TX)(d:Dk)(P:List NV)(pd pl:Nat)(s:List Pg)(l:List aO)(er:Int)(e:Ending)(w':World):Prop:=
 e=.returned (.int .i64 er)∧∃P' d',(∀y∈P,y∈P')∧bf d d'∧Sep B w0 w' (TL C x d' P' (yI pd pl s P'::l))
theorem Ns (T:bW B w0)(hr:d.room<=16384)(ok:x.Ok d.room)(hz:x.Sz):
  ∀(f:Nat) (w:World) (d1:Dk) (P:List NV) (l:List aO) (s s':List Pg) (id depth:Int) (er:Int),Wf id->bf d d1->fG x d f s id depth=some (s',er)->Sep B w0 w (TL C x d1 P (yI pd pl s P::l))->
  Calls Tryz.prog 112 #[ptr C.tq,.int .i64 id,.int .i64 depth,.func (.func 75) #[] #[.pointer (some ⟨pd,0,none⟩),.pointer (some ⟨pl,0,none⟩)]] w (UO B w0 C x d P pd pl s' l er):=by
 intro f
 induction f with
 |zero=>intro w d1 P l s s' id depth er _ _ he;cases he
 |succ f ih=>
 intro w d1 P l s s' id depth er hw hd he h;have IH:Hid (∀(w:World) (d1:Dk) (P:List NV) (l:List aO) (s s':List Pg) (id depth:Int) (er:Int),Wf id->bf d d1->fG x d f s id depth=some (s',er)->Sep B w0 w (TL C x d1 P (yI pd pl s P::l))->Calls Tryz.prog 112 #[ptr C.tq,.int .i64 id,.int .i64 depth,.func (.func 75) #[] #[.pointer (some ⟨pd,0,none⟩),.pointer (some ⟨pl,0,none⟩)]] w (UO B w0 C x d P pd pl s' l er)):=ih;have KR:Hid _:=rG (id:=id) (depth:=depth) T h hw (by rw[hd.room];exact ok) (by rw[hd.room];exact hr) hz;rw[hd.cM]at KR;have HD:Hid (bf d d1):=hd;have HWI:Hid (Wf id):=hw;rw[fG]at he;clear h ih hw hd T hr ok hz;generalize cM x d id depth=rr at*;obtain⟨n0,e0⟩:=rr;simp only at KR he;have HE:Hid (_=some (s',er)):=he;clear he;go_enter Tryz.func112,Tryz.ntmps112
 go_wp2_with fail
 refine Calls.mono KR.out ?_;rintro e v2 ⟨p,d2,hn0,rfl,hd2,s2⟩;subst hn0;unfold NV.v;have D2:Hid (bf d d2):=HD.out.trans ⟨_,hd2⟩;have S2:Hid (Sep B w0 (v2.alloc (.cells #[.bool p.n.leaf,.slice p.ae p.n.es.length p.ce,.slice p.ak p.n.ks.length p.ck,.slice p.az p.n.ss.length p.cz] 74)) (TL C x d2 (p::P) (yI pd pl s (p::P)::aF v2.heap.size (.cells #[.bool p.n.leaf,.slice p.ae p.n.es.length p.ce,.slice p.ak p.n.ks.length p.ck,.slice p.az p.n.ss.length p.cz] 74)::l))):=Sep.rF (Sep.aR (Sep.L5 (Sep.Ry (Sep.kj (s2)) fun y hy=>List.mem_cons_of_mem _ hy)) _ _ rfl);clear KR hd2 s2 HD;by_cases wB:e0≠0
 ·have hE:=HE.out;rw[if_pos wB]at hE;obtain⟨ha,hc⟩:s=s'∧e0=er:=by
   cases hE;exact⟨rfl,rfl⟩
  subst ha hc;have hne:(e0 != 0)=true:=bne_iff_ne.2 wB;clear hE wB HE;go_wp2;go_ret;exact⟨rfl,p::P,d2,fun y hy=>List.mem_cons_of_mem _ hy,D2.out,Sep.drop (Sep.dH (S2.out)) |> fun h=>h⟩
 ·have hE:=HE.out;rw[if_neg wB]at hE;have ez:e0=0:=Classical.not_not.1 wB;subst ez;by_cases hg:bS p.n=false∨1000<depth∨depth<0∨(s.any fun p=>decide (p.1=id))=true∨100000<s.length
  ·rw[if_pos hg]at hE;cases hE
  rw[if_neg hg]at hE;have hg2:bS p.n=true∧depth<=1000∧0<=depth∧(s.any fun p=>decide (p.1=id))=false∧s.length<=100000:=by
   refine⟨?_,by omega,by omega,?_,by omega⟩
   ·cases hx:bS p.n
    ·exact absurd (.inl hx) hg
    ·rfl
   ·cases hx:(s.any fun p=>decide (p.1=id))
    ·rfl
    ·exact absurd (.inr (.inr (.inr (.inl hx)))) hg
  obtain⟨hsm,hdp,hd0,hnm,hsl⟩:=hg2;obtain⟨jt,Jb,Np,_,hwk⟩:=eH hsm;have yP:Hid (∀k∈p.n.ks,Wf k):=hwk;have Jc:Hid (p.n.ks.length<=500∧0<=depth∧depth<=1000):=⟨Jb,hd0,hdp⟩;have ZA:Hid ((s.any fun p=>decide (p.1=id))=false∧s.length<=100000):=⟨hnm,hsl⟩;clear HE wB hg hsm hdp jt Jb Np hwk hd0 hnm hsl;have EG:Hid (tj (fun s k=>fG x d f s k (depth+1)) p.n.ks (s++[(id,depth,p.n)])=some (s',er)):=hE;clear hE
  go_upto_region 4 with fail
  generalize World.alloc _ _=v3 at*;generalize v2.heap.size=q9 at*;obtain⟨ae,ce,ak,ck,az,cz,n⟩:=p;simp only at*;have Jd:Hid ((⟨ae,ce,ak,ck,az,cz,n⟩:NV)∈(⟨ae,ce,ak,ck,az,cz,n⟩:NV)::P∧∀y∈P,y∈(⟨ae,ce,ak,ck,az,cz,n⟩:NV)::P):=⟨List.mem_cons_self ..,fun y hy=>List.mem_cons_of_mem _ hy⟩;generalize XI:(⟨ae,ce,ak,ck,az,cz,n⟩:NV)::P=PP at*;clear XI;have KU:Hid _:=Jq (id:=id) (dp:=depth) S2.out Jd.out.1 HWI.out ZA.out.1 ZA.out.2;obtain⟨_,⟨y0,y1,y2,y3⟩,_⟩:=Sep.c4 (Sep.dH (S2.out));simp only at KU
  go_wp2_with fail
  refine Calls.mono KU.out ?_;rintro e v4 ⟨rfl,s4⟩;have S4:Hid _:=s4;clear S2 y0 y1 y2 y3 KU s4;obtain⟨_,⟨y0,y1,y2,y3⟩,_⟩:=Sep.c4 (Sep.dH (S4.out));go_wp2;clear y0 y1 y2 y3
  go_loopg [34] n.ks.length (fun kx s34 wr=>∃(j:Nat) (sj:List Pg) (Pc:List NV) (dc:Dk),s34=.int .i64 (j:Int)∧j<=n.ks.length∧n.ks.length-j<=kx∧Hid (tj (fun s k=>fG x d f s k (depth+1)) (n.ks.drop j) sj=some (s',er))∧Hid ((⟨ae,ce,ak,ck,az,cz,n⟩:NV)∈Pc∧∀y∈P,y∈Pc)∧Hid (bf d dc)∧Hid (Sep B w0 wr (TL C x dc Pc (yI pd pl sj Pc::l))))
  case atStart=>exact⟨0,_,PP,d2,rfl,Nat.zero_le _,Nat.le_refl _,(by show _=_;rw[List.drop_zero];exact EG.out),Jd.out,D2.out,Sep.drop (Sep.dH (S4.out)) |> fun h=>h⟩
  case round=>
   clear S4 EG D2 Jd;obtain⟨j,sj,Pc,dc,rfl,hj,Xk,HE2,ot,HD,HS⟩:=hrel;by_cases hlt:j<n.ks.length
   ·have vF:(j:Int)< (n.ks.length:Int):=by omega
    obtain⟨r,ro,hak,hrs,hrc⟩:=NV.kid (p:=⟨ae,ce,ak,ck,az,cz,n⟩) (Sep.pool (Sep.wy (HS.out)) _ ot.out.1) (i:=j) hlt;simp only at hak hrc;subst hak;have hE:=HE2.out;rw[List.drop_eq_getElem_cons hlt,tj]at hE;have hgd:n.ks[j]=n.ks.getD j 0:=by rw[List.getD_eq_getElem?_getD,List.getElem?_eq_getElem hlt];rfl
    have Ux:Hid (Wf (n.ks.getD j 0)):=by
     refine yP.out _ ?_;rw[<-hgd];exact List.getElem_mem _
    rw[hgd]at hE;generalize n.ks.getD j 0=kid at*;have ZB:Hid (j<n.ks.length):=hlt;have hwd:IntKind.i64.wrap (depth+1)=depth+1:=bE (by have:=Jc.out;omega) (by have:=Jc.out;omega);have Xl:IntKind.i64.wrap ((j:Int)+1)=((j+1:Nat):Int):=by rw[bE (by omega) (by have:=Jc.out;omega)];rfl
    cases hrec:fG x d f sj kid (depth+1)with
    |none=>rw[hrec]at hE;cases hE
    |some rs=>
     obtain⟨s1,e1⟩:=rs;rw[hrec]at hE;simp only at hE;have KI:Hid _:=IH.out wr dc Pc l sj s1 kid (depth+1) e1 Ux.out HD.out hrec HS.out;have yf:Hid (_=some (s',er)):=hE;clear hE hrec HE2 HS hgd hlt
     go_wp2_with fail
     clear hrs hrc;refine Calls.mono KI.out ?_;rintro e v5 ⟨rfl,P1,d3,hp1,hd3,s5⟩;have S5:Hid _:=s5;have D3:Hid (bf d d3):=hd3;have M3:Hid ((⟨ae,ce,some ⟨r,ro,none⟩,ck,az,cz,n⟩:NV)∈P1∧∀y∈P,y∈P1):=⟨hp1 _ ot.out.1,fun y hy=>hp1 _ (ot.out.2 y hy)⟩;clear KI s5 hd3 hp1;by_cases h1:e1≠0
     ·have hE:=yf.out;rw[if_pos h1]at hE;obtain⟨ha,hc⟩:s1=s'∧e1=er:=by
       cases hE;exact⟨rfl,rfl⟩
      subst ha hc;have hne:(e1 != 0)=true:=bne_iff_ne.2 h1;clear hE yf h1;go_wp2;go_ret;exact⟨rfl,P1,d3,M3.out.2,D3.out,S5.out⟩
     ·have hE:=yf.out;rw[if_neg h1]at hE;have ez:e1=0:=Classical.not_not.1 h1;subst ez;have XK:Hid (_=some (s',er)):=hE;clear hE yf h1;go_wp2
      go_roundg (n.ks.length- (j+1))
      case measure=>have:=ZB.out;omega
      case rel=>exact⟨j+1,s1,P1,d3,(by go_num),(by have:=ZB.out;omega),Nat.le_refl _,XK.out,M3.out,D3.out,S5.out⟩
   ·have vF:¬(j:Int)< (n.ks.length:Int):=by omega
    obtain rfl:j=n.ks.length:=by omega
    have hE:=HE2.out;rw[List.drop_length,tj]at hE;obtain⟨ha,hc⟩:sj=s'∧0=er:=by
     cases hE;exact⟨rfl,rfl⟩
    subst ha hc;clear hE HE2;go_wp2;go_ret;exact⟨rfl,Pc,dc,ot.out.2,HD.out,HS.out⟩
theorem Nt (h0:C.err=0)(hr0:C.root=0)(hd:bf d d1)(h:Sep B w0 w (TL C x d1 P (yI pd pl s P::l))):
  Calls Tryz.prog 74 #[ptr C.tq,.func (.func 75) #[] #[.pointer (some ⟨pd,0,none⟩),.pointer (some ⟨pl,0,none⟩)]] w (UO B w0 C x d P pd pl s l 0):=by
 obtain⟨ts,⟨t0,t1,t2⟩,_⟩:=Sep.vx (Sep.sZ (h));rw[h0]at t2;rw[hr0]at t1;have HS:Hid _:=h;have HD:Hid (bf d d1):=hd;clear h h0 hr0 hd;go_enter Tryz.func74,Tryz.ntmps74;go_wp2;go_ret;exact⟨rfl,P,d1,fun _ h=>h,HD.out,HS.out⟩
theorem Nu {f:Nat}(T:bW B w0)(hr:d.room<=16384)(ok:x.Ok d.room)(hz:x.Sz)(h0:C.err=0)(hr0:C.root≠0)(hw:Wf C.root)(hd:bf d d1)(he:fG x d f s C.root 0=some (s',er))(h:Sep B w0 w (TL C x d1 P (yI pd pl s P::l))):
  Calls Tryz.prog 74 #[ptr C.tq,.func (.func 75) #[] #[.pointer (some ⟨pd,0,none⟩),.pointer (some ⟨pl,0,none⟩)]] w (UO B w0 C x d P pd pl s' l er):=by
 obtain⟨ts,⟨t0,t1,t2⟩,_⟩:=Sep.vx (Sep.sZ (h));rw[h0]at t2;have hne:(C.root==0)=false:=beq_eq_false_iff_ne.2 hr0;have KI:Hid _:=Ns T hr ok hz f w d1 P l s s' C.root 0 er hw hd he h;clear h h0 hd hr0 hw he T hr ok hz;go_enter Tryz.func74,Tryz.ntmps74
 go_wp2_with fail
 refine Calls.mono KI.out ?_;rintro e w1 ⟨rfl,P',d',m1,m2,s2⟩;have SF:Hid _:=s2;have HM:Hid ((∀y∈P,y∈P')∧bf d d'):=⟨m1,m2⟩;clear KI s2 m1 m2 t0 t1 t2 ts;go_wp2;go_ret;exact⟨rfl,P',d',HM.out.1,HM.out.2,SF.out⟩
def GWk (B:Nat)(w0:World)(C:Cx)(x:TX)(d:Dk)(P:List NV)(l:List aO)(s:List Pg)(e:Ending)(w':World):Prop:=
 ∃ao c V,e=.returned (.tuple #[.slice ao V.length c,.int .i64 0])∧V.map OP=s∧∃P' d',(∀v∈V,v.2.2∈P')∧(∀y∈P,y∈P')∧bf d d'∧Sep B w0 w' (TL C x d' P' (EM (.slice ao V.length c) V::l))
theorem Rz (hd:bf d d1)(h:Sep B w0 w (TL C x d1 P l))(hk:∀(u:World) (pd pl:Nat),Sep B w0 u (TL C x d1 P (yI pd pl [] P::l))->Calls Tryz.prog 74 #[ptr C.tq,.func (.func 75) #[] #[.pointer (some ⟨pd,0,none⟩),.pointer (some ⟨pl,0,none⟩)]] u (UO B w0 C x d P pd pl s l 0)):
  Calls Tryz.prog 39 #[ptr C.tq] w (GWk B w0 C x d P l s):=by
 have S1:Hid (Sep B w0 (((w.alloc (.cells #[.slice none 0 0] 79)).alloc (.map #[] 0)).alloc (.cells #[.map (some (w.heap.size+1))] 135)) (TL C x d1 P (yI (w.heap.size+2) w.heap.size [] P::l))):=by
  have h1:=Sep.Qw (e:=85) (k:=6) (h.aP (.cells #[.slice none 0 0] 79));have h2:=Sep.AZ h1;have h3:=Sep.aR h2 (.cells #[.map (some (w.heap.size+1))] 135) (w.heap.size+2) (by simp);refine Sep.L5 (Sep.Jp (g:=fun _=>none) (m:=w.heap.size+1) (n:=0) (vl:=.slice none 0 0) (V:=[]) (fun _ _=>rfl) rfl (fun _ hc=>by cases hc) (Nat.le_refl _) ?_);simp only[World.size_alloc]at h3;exact Sep.pb2 (Sep.wy h3)
 have KG:Hid (∀u,Calls Tryz.prog 42 #[ptr C.tq] u fun e w'=>e=.returned (ptr C.tq)∧u=w'):=fun u=>ib u C.tq;have KP:Hid _:=hk _ _ _ S1.out;have hmk:=Rv (w.alloc (.cells #[.slice none 0 0] 79));clear h hk hd;go_enter Tryz.func39,Tryz.ntmps39
 go_wp2_with fail
 refine Calls.mono (KG.out _) ?_;rintro e w1 ⟨rfl,rfl⟩;clear KG
 go_wp2_with fail
 clear S1;generalize World.alloc _ _=w1 at*;generalize w.heap.size+2=pd at*;generalize w.heap.size=pl at*;refine Calls.mono KP.out ?_;rintro e w2 ⟨rfl,P',d',m1,m2,s2⟩;obtain⟨g,m,ao,c,V,n,_,hV,hP,_,ho⟩:=Sep.Jo (Sep.kj (s2));have HO:Hid _:=ho;have HM:Hid ((∀v∈V,v.2.2∈P')∧(∀y∈P,y∈P')∧bf d d'∧V.map OP=s):=⟨hP,m1,m2,hV⟩;obtain⟨ps,p0,_⟩:=Sep.c1 (Sep.sZ ho);clear KP s2 m1 m2 ho hP hV;go_wp2;go_ret2;exact⟨ao,c,V,rfl,HM.out.2.2.2,P',d',HM.out.1,HM.out.2.1,HM.out.2.2.1,Sep.L5 (Sep.drop (Sep.drop (Sep.drop HO.out)))⟩
end
end
end Go.Proofs.YtceoeaemenhbhaaGreatDoor
namespace Go.Proofs.YtceoeaemenhbhaaGreatDoor
namespace P
open N
section
variable {room:Nat}{d:Dk}{S:Dr}{x:TX}{root:Int}{E:List En}{X:List Int}{H:Nat}
theorem TS.low (T:TS room d S root E X H)(hE:E.length<=200):H<=7:=by
 rcases T.cnt.2 with h|h
 ·omega
 ·rcases Nat.lt_or_ge 7 H with h7|h7
  ·have:2^8<=2^H:=Nat.pow_le_pow_right (by omega) h7;omega
  ·exact h7
def Cap (room:Nat)(d:Dk)(E:List En):Prop:=∀(S:Dr) (root:Int) (X:List Int) (H:Nat),TS room d S root E X H->(X.length:Int)+4*H+4< (room:Int)-2
theorem VH (hE:E.length<=200)(hr:400<=room):Cap room d E:=fun S root X H T=>by
 have h1:=T.cnt.1;have h2:=T.low hE;omega
theorem TS.flat (T:TS room d S root E X H)(hE:E.length<=3)(hz:cx E<80):H=0∧X.length<=1:=by
 rcases T with⟨a,b,c,e,f⟩| ⟨h,u,a,G,tb,e,rfl,rfl⟩
 ·subst c;exact⟨f,by simp⟩
 ·have T':TS room d S root E (dL u) h:=.inr ⟨h,u,a,G,tb,e,rfl,rfl⟩
  match h,u,G,tb,e,T' with
  |0,u,G,tb,e,T'=>exact⟨rfl,by simp[bV,bh,k8]⟩
  |1,u,G,tb,e,T'=>
   exfalso;obtain⟨p,b⟩:=u;obtain⟨K,ss,rfl⟩:=fq b;have hl:ss.length+1=K.length:=G.g.wl.1;have h1:K.length≠1:=tb;have kp:∀i,KP K ss i:=G.g.wl.2.1
   match K,ss,hl,h1,kp,e with
   |[],ss,hl,h1,kp,e=>simp at hl
   |[u],ss,hl,h1,kp,e=>exact h1 rfl
   |u::v::K,[],hl,h1,kp,e=>simp at hl
   |u::v::K,s::ss,hl,h1,kp,e=>
    have k0:=(kp 0 [] u v K [] s ss rfl rfl rfl).1 rfl;have e1:(show List En from u.2)++((show List En from v.2)++bM K)=E:=by rw[<-e];rfl
    have hz2:cx (show List En from u.2)+(cx (show List En from v.2)+cx (bM K))<80:=by rw[<-jb,<-jb,e1];exact hz
    have h3:bQ 0 u.2=cx (show List En from u.2):=rfl;have h4:bQ 0 v.2=cx (show List En from v.2):=rfl;have h5:=k0 (by rw[h3];omega);rw[nL,h3,h4,if_pos rfl]at h5;omega
  |h+2,u,G,tb,e,T'=>
   exfalso;rcases T'.cnt.2 with h0|h0
   ·omega
   ·have:2^2<=2^(h+2):=Nat.pow_le_pow_right (by omega) (by omega);omega
theorem sk (hE:E.length<=3)(hz:cx E<80)(hr:8<=room):Cap room d E:=fun S root X H T=>by
 obtain⟨h1,h2⟩:=T.flat hE hz;omega
theorem Da {σ:Type}{st:σ->En->σ×Bool}{fr tt:ByteArray}{s:σ}(hr:room<=16384)(T:TS room d (eR x) root E X H)(hH:H+1<24):∃b,eZ x d st 25 s root 0 fr tt=some ((kL st (iv fr tt E) s).1,(b,0)):=by
 rcases T with⟨rfl,rfl,rfl,sd,rfl⟩| ⟨h,u,rfl,G,tb,rfl,rfl,rfl⟩
 ·have hrd:cM x d 0 0=(⟨true,[],[],[]⟩,0):=by unfold cM;rw[if_pos rfl];rfl
  exact⟨_,ur (l:=[]) hrd (by decide) (by decide) (by omega) List.Pairwise.nil⟩
 ·exact⟨_,Cw hr h u 0 25 fr tt s G.g G.rd (by omega) (by omega)⟩
def XS (s:List Pg)(root:Int)(E:List En)(X:List Int)(H:Nat):Prop:=
 (root=0∧s=[]∧E=[]∧X=[]∧H=0)∨(root≠0∧∃h,∃u:KT h,u.1=root∧s=EK h 0 u∧WB h u.2 ⟨#[]⟩ ⟨#[]⟩∧dR h u.2=E∧dL u=X∧X.Nodup∧h=H∧Rg E)
theorem Nv (hr:room<=16384)(T:TS room d (eR x) root E X H)(hH:H+1<24)(hX:X.length<=100000):∃s,XS s root E X H∧(root≠0->fG x d 25 [] root 0=some (s,0)):=by
 have hrg:=T.rg;rcases T with⟨rfl,rfl,rfl,sd,rfl⟩| ⟨h,u,rfl,G,tb,rfl,rfl,rfl⟩
 ·exact⟨[],.inl ⟨rfl,rfl,rfl,rfl,rfl⟩,fun h=>absurd rfl h⟩
 ·have h0:u.1≠0:=by have:=G.us.lo;omega
  refine⟨EK h 0 u,.inr ⟨h0,h,u,rfl,rfl,Nk hr G.g,rfl,rfl,G.IL.2.1,rfl,hrg⟩,fun _=>?_⟩;have:=Cz hr h u 0 25 [] G.g G.rd G.IL.2.1 (fun _ _ _ hp=>by cases hp) (by simpa using hX) (by omega) (by omega) (by omega);simpa using this
theorem OQ:∀(l s:List En),kL (fun(s:List En) y=>(s++[y],true)) l s=(s++l,true)
 |[],s=>by simp[kL]
 |y::l,s=>by
  rw[kL,if_neg (by simp)];show kL _ l (s++[y])=_;rw[OQ l (s++[y])];simp
theorem UQ:∀(l:List En),(kL (fun(s:Option En) y=>(some y,false)) l none).1=l.head?
 |[]=>rfl
 |y::l=>by rw[kL,if_pos rfl];rfl
end
end P
end Go.Proofs.YtceoeaemenhbhaaGreatDoor
namespace Go.Proofs.YtceoeaemenhbhaaGreatDoor
open Go.Shelf Go.RowKit Go.Lib Go.Sort
namespace P
open N (Nd nd0 cA cQ dM cx bN iR fQ Sm cY En zG xj j8 nZ fk dg fX tK oY kR kH tJ Rg bD cF fY kA)
def jx (B:Nat)(w0:World)(d:Dk)(C:Cx)(E:List En)(k:Nat)(l:List aO)(w:World):Prop:=
 ∃r x d1 P X H,Sep B w0 w (TL (C.eI r) x d1 P l)∧bf d d1∧Tx d.room d x r E X H∧Mn d.room x X∧x.cnt<=1000*k
section
variable {B:Nat}{w0 w w':World}{C:Cx}{d:Dk}{l:List aO}{key val fr tt:ByteArray}{E:List En}{k:Nat}
theorem jx.of (h:jx B w0 d C E k l w){l':List aO}(f:∀r x d1 P,Sep B w0 w (TL (C.eI r) x d1 P l)->Sep B w0 w' (TL (C.eI r) x d1 P l')):jx B w0 d C E k l' w':=by
 obtain⟨r,x,d1,P,X,H,s,r1⟩:=h;exact⟨r,x,d1,P,X,H,f _ _ _ _ s,r1⟩
theorem jx.rg (h:jx B w0 d C E k l w):Rg E:=by
 obtain⟨r,x,d1,P,X,H,_,_,t,_⟩:=h;exact t.ts.rg
theorem jx.nT {root:Int}{x:TX}{X:List Int}{H:Nat}(T:Tx d.room d x root E X H)(hE:E.length<=1000):H<=9∧X.length<=1800:=by
 have h1:=T.ts.cnt.1;rcases T.ts.cnt.2 with h|h
 ·omega
 ·rcases Nat.lt_or_ge 9 H with h7|h7
  ·have:2^10<=2^H:=Nat.pow_le_pow_right (by omega) h7;omega
  ·omega
theorem Jr {X:List Int}{H:Nat}{x:TX}{r er:Int}{P:List NV}{d1:Dk}{E':List En}(cap:Cap d.room d E)(hd:bf d d1)(T:Tx d.room d x r E X H)(M:Mn d.room x X)(hE:E.length<=200)(hE':E'.length<=201)(hk:x.cnt<=1000*k)(g:GX B w0 (C.eI r) x d P l X H E' er w):er=0∧jx B w0 d C E' (k+1) l w:=by
 obtain⟨P',d',m1,m2,m3⟩:=g;rcases m3 with⟨_,hc,_⟩| ⟨he,x',r',X',H',T',M',hcnt,s⟩
 ·have h1:=hc M;have h2:=M.cap;have h3:=cap _ _ _ _ T.ts;omega
 ·refine⟨he,r',x',d',P',X',H',s,m2,T',M' M,?_⟩;have h1:=T.ts.low hE;have h2:=T.ts.cnt.1;have h4:=T'.ts.cnt.1;have h5:H'<=7:=by
   rcases T'.ts.cnt.2 with h|h
   ·omega
   ·rcases Nat.lt_or_ge 7 H' with h7|h7
    ·have:2^8<=2^H':=Nat.pow_le_pow_right (by omega) h7;omega
    ·exact h7
  omega
theorem Db (T:bW B w0)(hr:d.room<=16384)(h0:C.err=0)(hm:dg key val=true)(cap:Cap d.room d E)(hE:E.length<=200)(hk:k<=700)(h:jx B w0 d C E k l w):
  Calls Tryz.prog 12 #[ptr C.tq,.string key,.string val] w fun e w'=>e=.returned (.int .i64 0)∧jx B w0 d C (tK E key val) (k+1) l w':=by
 obtain⟨r,x,d1,P,X,H,s,hd,TT,M,hc⟩:=h;have hh:=jx.nT TT (by omega);refine(Rl (key:=key) (val:=val) T hr hd s h0 hm TT (by omega) (by omega) (by omega)).mono fun e w' ⟨er,he,g⟩=>?_;obtain⟨h1,h2⟩:=Jr cap hd TT M hE (by
  have:=CV key val E
  have e1:(Ox key val E).length=(tK E key val).length:=by unfold Ox;rw[if_pos (by rw[hm,fY TT.ts.rg];rfl)]
  omega) hc g
 rw[h1]at he;exact⟨he,h2⟩
theorem Nw (T:bW B w0)(hr:d.room<=16384)(h0:C.err=0)(cap:Cap d.room d E)(hE:E.length<=200)(hk:k<=700)(h:jx B w0 d C E k l w):
  Calls Tryz.prog 15 #[ptr C.tq,.string key] w fun e w'=>e=.returned (.tuple #[.bool (kH E key),.int .i64 0])∧jx B w0 d C (oY E key) (k+1) l w':=by
 obtain⟨r,x,d1,P,X,H,s,hd,TT,M,hc⟩:=h;have hh:=jx.nT TT (by omega);refine(Rm (key:=key) T hr hd s h0 TT (by omega) (by omega) (by omega)).mono fun e w' ⟨er,he,g⟩=>?_;obtain⟨h1,h2⟩:=Jr cap hd TT M hE (by
  have:=List.length_filter_le (fun x:En=>!decide (x.1=key)) E
  show(List.filter _ _).length<=_
  omega) hc g
 rw[h1]at he;exact⟨by rw[he];simp,h2⟩
theorem RD (h0:C.err=0)(h1:fk key val≠0)(h:jx B w0 d C E k l w):
  Calls Tryz.prog 12 #[ptr C.tq,.string key,.string val] w fun e w'=>e=.returned (.int .i64 (fk key val))∧jx B w0 d C E k l w':=by
 obtain⟨r,x,d1,P,X,H,s,hd,TT,M,hc⟩:=h;exact(MD (C:=C.eI r) s h0 h1).mono fun e w' ⟨he,s'⟩=>⟨he,r,x,d1,P,X,H,s',hd,TT,M,hc⟩
theorem Dc (T:bW B w0)(hr:d.room<=16384)(h0:C.err=0)(hE:E.length<=1000)(h:jx B w0 d C E k l w):
  Calls Tryz.prog 18 #[ptr C.tq,.string key] w fun e w'=>e=.returned (.tuple #[.string (tJ E key),.bool (kH E key),.int .i64 0])∧jx B w0 d C E k l w':=by
 obtain⟨r,x,d1,P,X,H,s,hd,TT,M,hc⟩:=h;have hh:=jx.nT TT (by omega);refine(Rq (key:=key) T hr hd s h0 TT (by omega)).mono fun e w' ⟨he,P',d',m1,m2,s'⟩=>⟨he,r,x,d',P',X,H,s',m2,TT,M,hc⟩
theorem Js (T:bW B w0)(hr:d.room<=16384)(h0:C.err=0)(hE:E.length<=1000)(h:jx B w0 d C E k l w):
  Calls Tryz.prog 19 #[ptr C.tq,.string fr,.string tt] w fun e w'=>∃ao c,e=.returned (.tuple #[.slice ao (iv fr tt E).length c,.int .i64 0])∧jx B w0 d C E k (CY (.slice ao (iv fr tt E).length c) (iv fr tt E)::l) w':=by
 obtain⟨r,x,d1,P,X,H,s,hd,TT,M,hc⟩:=h;have hh:=jx.nT TT (by omega);obtain⟨b,hb⟩:=Da (st:=Rt) (fr:=fr) (tt:=tt) (s:=[]) hr TT.ts (by omega);have e1:(kL Rt (iv fr tt E) []).1=iv fr tt E:=by
  have:=OQ (iv fr tt E) [];rw[show kL Rt (iv fr tt E) []=_ from this];rfl
 rw[e1]at hb;have hl:(iv fr tt E).length<=900000:=by
  have:=List.length_filter_le (fun e:En=>!bD e.1 fr&&bF tt e.1) E;unfold iv;omega
 refine(Ru (C:=C.eI r) T hr TT.ts.sd.x TT.ts.sd.bz h0 (TT.ts.wf hr) hd hb hl (fun _=>rfl) (fun h=>absurd rfl h) s).mono fun e w' ⟨v,he,h2,_,P',d',m1,m2,s'⟩=>?_;obtain⟨ao,c,rfl⟩:=h2 rfl;exact⟨ao,c,he,r,x,d',P',X,H,s',m2,TT,M,hc⟩
theorem Jt (T:bW B w0)(hr:d.room<=16384)(h0:C.err=0)(hE:E.length<=1000)(h:jx B w0 d C E k l w):
  Calls Tryz.prog 22 #[ptr C.tq,.string fr] w fun e w'=>e=.returned (.tuple #[.agg #[.string ((iv fr ⟨#[]⟩ E).head?.getD (⟨#[]⟩,⟨#[]⟩)).1,.string ((iv fr ⟨#[]⟩ E).head?.getD (⟨#[]⟩,⟨#[]⟩)).2],.bool (iv fr ⟨#[]⟩ E).head?.isSome,.int .i64 0])∧jx B w0 d C E k l w':=by
 obtain⟨r,x,d1,P,X,H,s,hd,TT,M,hc⟩:=h;have hh:=jx.nT TT (by omega);obtain⟨b,hb⟩:=Da (st:=Sw) (fr:=fr) (tt:=⟨#[]⟩) (s:=none) hr TT.ts (by omega);have e1:(kL Sw (iv fr ⟨#[]⟩ E) none).1=(iv fr ⟨#[]⟩ E).head?:=UQ _;rw[e1]at hb;exact(Jl (C:=C.eI r) T hr TT.ts.sd.x TT.ts.sd.bz h0 (TT.ts.wf hr) hd hb s).mono fun e w' ⟨he,P',d',m1,m2,s'⟩=>⟨he,r,x,d',P',X,H,s',m2,TT,M,hc⟩
theorem Nx (h:jx B w0 d C E k l w)(h0:C.err=0):Calls Tryz.prog 24 #[ptr C.tq] w fun e w'=>e=.returned (.int .i64 0)∧w=w':=by
 obtain⟨r,x,d1,P,X,H,s,hd,TT,M,hc⟩:=h;have:=Uf s;rw[show(C.eI r).err=0 from h0]at this;exact this
def UR (B:Nat)(w0:World)(d:Dk)(C:Cx)(E:List En)(k:Nat)(l:List aO)(V:List Ey)(r:Int)(X:List Int)(H:Nat)(w:World):Prop:=
 ∃x d1 P,Sep B w0 w (TL (C.eI r) x d1 P l)∧bf d d1∧Tx d.room d x r E X H∧Mn d.room x X∧x.cnt<=1000*k∧XS (V.map OP) r E X H∧∀v∈V,v.2.2∈P
theorem UR.XT {V:List Ey}{r:Int}{X:List Int}{H:Nat}(h:UR B w0 d C E k l V r X H w):jx B w0 d C E k l w:=by
 obtain⟨x,d1,P,s,hd,TT,M,hc,_⟩:=h;exact⟨r,x,d1,P,X,H,s,hd,TT,M,hc⟩
theorem Ju (T:bW B w0)(hr:d.room<=16384)(h0:C.err=0)(hE:E.length<=1000)(h:jx B w0 d C E k l w):
  Calls Tryz.prog 39 #[ptr C.tq] w fun e w'=>∃ao c V r X H,e=.returned (.tuple #[.slice ao V.length c,.int .i64 0])∧UR B w0 d C E k (EM (.slice ao V.length c) V::l) V r X H w':=by
 obtain⟨r,x,d1,P,X,H,s,hd,TT,M,hc⟩:=h;have hh:=jx.nT TT (by omega);obtain⟨sp,hw,hp⟩:=Nv hr TT.ts (by omega) (by omega);refine(Rz (C:=C.eI r) (s:=sp) hd s fun u pd pl hu=>?_).mono fun e w' ⟨ao,c,V,he,hV,P',d',m0,m1,m2,s'⟩=>⟨ao,c,V,r,X,H,he,x,d',P',s',m2,TT,M,hc,by rw[hV];exact hw,m0⟩;by_cases hz:r=0
 ·have:sp=[]:=by
   rcases hw with⟨_,e,_⟩| ⟨e,_⟩
   ·exact e
   ·exact absurd hz e
  subst this;exact Nt (C:=C.eI r) h0 hz hd hu
 ·exact Nu (C:=C.eI r) T hr TT.ts.sd.x TT.ts.sd.bz h0 hz (TT.ts.wf hr) hd (hp hz) hu
end
end P
namespace P
open N (Nd En fk dg tK oY kH tJ Rg bD cx)
section
variable {B:Nat}{w0 w w':World}{C:Cx}{d:Dk}{l:List aO}
theorem yK {n:Int}(h2:2<=n)(h:n<=16384):(Dk.new n).room=n.toNat:=by
 unfold Dk.room Dk.new;simp only[List.length_replicate];omega
theorem Jv {tq t f b room:Nat}(hr:d.room=room)(h2:2<=room)(s:Sep B w0 w (TL ⟨0,tq,t,f,b,0,0⟩ (TX.new [] 2 room) d [] l)):jx B w0 d ⟨0,tq,t,f,b,0,0⟩ [] 0 l w:=by
 subst hr;have ok:=TX.uz [] 2 h2;have hfr:∀p,(TX.new [] 2 d.room).fresh p=none:=fun _=>rfl;refine⟨0,TX.new [] 2 d.room,d,[],[],0,s,bf.refl d,⟨.inl ⟨rfl,rfl,rfl,Zl ok (fun q c hc=>by rw[hfr q]at hc;cases hc),rfl⟩,fun p hp=>by rw[hfr p]at hp;cases hp⟩,⟨fun _ hp=>(by cases hp),?_⟩,?_⟩
 ·have hp:(TX.new [] 2 d.room).pages=2:=by
   show cI 2 d.room=2;unfold cI;omega
  have hf:(TX.new [] 2 d.room).free=[]:=by
   show tE [] [(2,(cI 2 d.room:Int)-1)]=[];have hc:=mV [] [(2,(cI 2 d.room:Int)-1)];have hi:=mW [] [(2,(cI 2 d.room:Int)-1)];generalize tE [] [(2,(cI 2 d.room:Int)-1)]=m at*;cases m with
   |nil=>rfl
   |cons r s=>
    obtain⟨⟨a1,a2,a3⟩,_⟩:=bp.1 hc;have h1:=((hi r.1).1 ⟨a1,by omega,r,by simp,by omega,a2⟩).1;obtain⟨_,_,q,hq,_⟩:=h1;cases hq
  unfold TX.cap;rw[hp,hf];show(iZ []:Int)+_+_=_;rw[oV];simp
 ·exact Nat.zero_le _
theorem RH {n:Int}(h2:2<=n)(h3:n<=16384)(h:Sep B w0 w l):Calls Tryz.prog 11 #[.int .i64 n] w fun e w'=>∃C:Cx,e=.returned (ptr C.tq)∧C.err=0∧jx B w0 (Dk.new n) C [] 0 l w':=by
 have HR:Hid ((Dk.new n).room=n.toNat∧2<=n.toNat∧n.toNat<=16384):=⟨yK h2 h3,by omega,by omega⟩;have CD:Hid _:=NF n h;clear h h2 h3;generalize Dk.new n=d0 at*;go_enter Tryz.func11,Tryz.ntmps11
 go_wp2_with fail
 refine Calls.mono CD.out ?_;rintro e w2 ⟨b,rfl,s2⟩;have CF:Hid _:=NH s2;clear CD s2
 go_wp2_with fail
 refine Calls.mono CF.out ?_;rintro e w3 ⟨f,rfl,s3⟩;have CT:=TN s3 (by rw[HR.out.1];exact HR.out.2.2) (v:=.slice none 0 0) (fr:=[]) ⟨none,0,rfl,Nat.le_refl _,fun _=>rfl,fun h=>absurd rfl h⟩ (by simp) 2;rw[HR.out.1]at CT;have UT:Hid _:=CT;clear CF s3 CT
 go_wp2_with fail
 refine Calls.mono UT.out ?_;rintro e w4 ⟨t,rfl,s4⟩;have CN:Hid _:=Og (root:=0) s4;clear UT s4
 go_wp2_with fail
 refine Calls.mono CN.out ?_;rintro e w5 ⟨tq,rfl,s5⟩;have SF:Hid _:=s5;clear CN s5;go_wp2;go_ret;exact⟨⟨0,tq,t,f,b,0,0⟩,rfl,rfl,Jv HR.out.1 HR.out.2.1 SF.out⟩
end
end P
namespace P
open N (Nd En fk dg tK oY kH tJ Rg bD cx)
section
variable {B:Nat}{w0 w w':World}{C:Cx}{d:Dk}{l:List aO}{E:List En}{k:Nat}
theorem jx.blk (h:jx B w0 d C E k l w)(o:Obj):jx B w0 d C E k (aF w.heap.size o::l) (w.alloc o):=h.of fun _ _ _ _ s=>Sep.pb [_,_,_,_] (s.aP o)
theorem jx.sep (h:jx B w0 d C E k l w):Sep B w0 w l:=by
 obtain⟨r,x,d1,P,X,H,s,_⟩:=h;exact Sep.drop (Sep.drop (Sep.drop (Sep.drop s)))
theorem RJ {V:List Ey}{r:Int}{X:List Int}{H:Nat}{P:List NV}{x:TX}{d1:Dk}(hw:XS (V.map OP) r E X H):V.length=X.length:=by
 rcases hw with⟨_,h1,_,h2,_⟩| ⟨_,h,u,_,h1,_,_,h2,_⟩
 ·have:=congrArg List.length h1;rw[List.length_map]at this;rw[this,h2];rfl
 ·have:=congrArg List.length h1;rw[List.length_map,Cy,h2]at this;exact this
theorem UR.one {V:List Ey}{r:Int}{X:List Int}{H:Nat}(h:UR B w0 d C E k l V r X H w)(hE:E.length<=3)(hz:cx E<80)(hne:E≠[]):V.length=1:=by
 obtain⟨x,d1,P,s,hd,TT,M,hc,hw,_⟩:=h;rw[RJ (P:=P) (x:=x) (d1:=d1) hw];have h1:=(TT.ts.flat hE hz).2;rcases hw with⟨_,_,h2,_⟩| ⟨_,hh,u,_,_,_,_,h2,_⟩
 ·exact absurd h2 hne
 ·rw[<-h2,bV]at h1⊢;simp at h1⊢;exact h1
abbrev sA:ByteArray:=⟨#[97]⟩
abbrev sB:ByteArray:=⟨#[98]⟩
abbrev s1:ByteArray:=⟨#[49]⟩
abbrev s2:ByteArray:=⟨#[50]⟩
abbrev s0:ByteArray:=⟨#[]⟩
theorem xE1:tK [] sB s2=[(sB,s2)]:=by decide+kernel
theorem xE2:tK [(sB,s2)] sA s1=[(sA,s1),(sB,s2)]:=by decide+kernel
theorem xSc:iv s0 s0 [(sA,s1),(sB,s2)]=[(sA,s1),(sB,s2)]:=by decide+kernel
theorem xNx:(iv ⟨#[97,97]⟩ s0 [(sA,s1),(sB,s2)]).head?=some (sB,s2):=by decide+kernel
theorem XW:tJ [(sA,s1),(sB,s2)] sA=s1∧kH [(sA,s1),(sB,s2)] sA=true:=by decide+kernel
theorem xDl:oY [(sA,s1),(sB,s2)] sA=[(sB,s2)]:=by decide+kernel
theorem xGo:kH [(sB,s2)] sA=false:=by decide+kernel
theorem VJ:dg sB s2=true∧dg sA s1=true∧fk s0 s0=110:=by decide+kernel
theorem VK:cx ([]:List En)<80∧cx [(sB,s2)]<80∧cx [(sA,s1),(sB,s2)]<80:=by decide+kernel
theorem Ny (T:bW B w0)(h:Sep B w0 w l):Calls Tryz.prog 9 #[] w fun e w'=>e=.returned (.bool true)∧Sep B w0 w' l:=by
 have HT:Hid (bW B w0):=T;have ZC:(Dk.new 9).room=9:=yK (by omega) (by omega);have HC:Hid (Cap (Dk.new 9).room (Dk.new 9) []∧Cap (Dk.new 9).room (Dk.new 9) [(sB,s2)]∧Cap (Dk.new 9).room (Dk.new 9) [(sA,s1),(sB,s2)]∧(Dk.new 9).room<=16384):=by
  rw[ZC];exact⟨sk (by simp) VK.1 (by omega),sk (by simp) VK.2.1 (by omega),sk (by simp) VK.2.2 (by omega),by omega⟩
 have KT:Hid _:=RH (n:=9) (by omega) (by omega) h;clear h T ZC;generalize Dk.new 9=d0 at*;go_enter Tryz.func9,Tryz.ntmps9
 go_wp2_with fail
 refine Calls.mono KT.out ?_;rintro e w1 ⟨C,rfl,hC,h1⟩;have C0:Hid (C.err=0):=hC;have K1:Hid _:=Db (key:=sB) (val:=s2) HT.out HC.out.2.2.2 hC VJ.1 HC.out.1 (by simp) (by omega) h1;rw[xE1]at K1;clear KT h1 hC;unfold ptr at*
 go_wp2_with fail
 refine Calls.mono K1.out ?_;rintro e w2 ⟨rfl,h2⟩;have K2:Hid _:=Db (key:=sA) (val:=s1) HT.out HC.out.2.2.2 C0.out VJ.2.1 HC.out.2.1 (by simp) (by omega) h2;rw[xE2]at K2;clear K1 h2;unfold ptr at*
 go_wp2_with fail
 refine Calls.mono K2.out ?_;rintro e w3 ⟨rfl,h3⟩;have K3:Hid _:=Js (fr:=s0) (tt:=s0) HT.out HC.out.2.2.2 C0.out (by simp) h3;rw[xSc]at K3;clear K2 h3;unfold ptr at*
 go_wp2_with fail
 refine Calls.mono K3.out ?_;rintro e w4 ⟨ao,c,rfl,h4⟩;have K4:Hid _:=Jt (fr:=⟨#[97,97]⟩) HT.out HC.out.2.2.2 C0.out (by simp) h4;rw[xNx]at K4;clear K3 h4;unfold ptr at*
 go_wp2_with fail
 refine Calls.mono K4.out ?_;rintro e w5 ⟨rfl,h5⟩;have H6:Hid _:=jx.blk h5 (.cells #[.string sB,.string s2] 45);have K6:Hid _:=Dc (key:=sA) HT.out HC.out.2.2.2 C0.out (by simp) H6.out;rw[XW.1,XW.2]at K6;clear K4 h5;unfold ptr at*;simp only[Option.getD_some,Option.isSome_some]
 go_wp2_with fail
 generalize w5.alloc (.cells #[.string sB,.string s2] 45)=w6 at*;generalize w5.heap.size=q6 at*;refine Calls.mono K6.out ?_;rintro e w7 ⟨rfl,h7⟩;have K7:Hid _:=Nw (key:=sA) HT.out HC.out.2.2.2 C0.out HC.out.2.2.1 (by simp) (by omega) h7;rw[XW.2,xDl]at K7;clear K6 h7 H6;unfold ptr at*
 go_wp2_with fail
 refine Calls.mono K7.out ?_;rintro e w8 ⟨rfl,h8⟩;have K8:Hid _:=Dc (key:=sA) HT.out HC.out.2.2.2 C0.out (by simp) h8;rw[xGo]at K8;clear K7 h8;generalize tJ [(sB,s2)] sA=gv at*;unfold ptr at*
 go_wp2_with fail
 refine Calls.mono K8.out ?_;rintro e w9 ⟨rfl,h9⟩;have K9:Hid _:=Ju HT.out HC.out.2.2.2 C0.out (by simp) h9;clear K8 h9;unfold ptr at*
 go_wp2_with fail
 refine Calls.mono K9.out ?_;rintro e UW ⟨aw,cw,V,r,X,H,rfl,h10⟩;have hV:V.length=1:=h10.one (by simp) VK.2.1 (by simp);have H10:Hid _:=h10.XT;have XZ:Hid _:=RD (key:=s0) (val:=s0) C0.out (by rw[VJ.2.2];decide) h10.XT;rw[VJ.2.2]at XZ;have hs:=h10.XT.sep;obtain⟨_,⟨b0,b1⟩,_⟩:=Sep.c2 (Sep.pk [_] hs);obtain⟨dG,cap',e',_,_,h3⟩:=Sep.UL (Sep.pk [_,_] hs);obtain⟨rb,UF,hae,hrb,z0,_⟩:=N.dw h3 0 (by simp) (Below.refl _ _);obtain⟨rb2,X0,UU,X5,z2,_⟩:=N.dw h3 1 (by simp) (Below.refl _ _);have e2:ao=dG:=by injection e'
 subst e2;subst hae;obtain⟨rfl,rfl⟩:rb=rb2∧UF=X0:=by cases UU;exact⟨rfl,rfl⟩
 have z0':UW.cell? ⟨rb,UF,none⟩=some (.string sA):=z0;have z1':UW.cell? ⟨rb,UF+2,none⟩=some (.string sB):=z2;clear K9 h10 hs h3 e' UU z0 z2;rw[hV];unfold ptr at*
 go_wp2_with fail
 refine Calls.mono XZ.out ?_;rintro e w11 ⟨rfl,h11⟩;have H11:Hid _:=h11.sep;have ZE:Hid _:=Nx h11 C0.out;clear XZ h11 b0 b1 z0' z1' hrb X5 H10;unfold ptr at*
 go_wp2_with fail
 refine Calls.mono ZE.out ?_;rintro e w12 ⟨rfl,rfl⟩;clear ZE;go_wp2;go_ret;exact⟨rfl,Sep.drop (Sep.drop (Sep.drop H11.out))⟩
end
end P
namespace P
open N (Nd nd0 En cQ dM cx bN gh tU Sm dJ cX l7 nZ j8)
theorem Jw:∀(l:List En),(∀e∈l,e.1.size<=60∧e.2.size<=60)->cx l<=122*l.length
 |[],_=>Nat.le_refl _
 |x::l,h=>by
  have h1:=h x (by simp);have h2:=Jw l fun e he=>h e (by simp[he]);simp only[cx,N.kA,List.length_cons];omega
theorem Jx:∀(l:List ByteArray),(∀s∈l,s.size<=16)->bN l<=21*l.length
 |[],_=>Nat.le_refl _
 |x::l,h=>by
  have h1:=h x (by simp);have h2:=Jx l fun e he=>h e (by simp[he]);simp only[bN,List.length_cons];omega
theorem Nz {n:Nd}{ve vk vs:Value}{w:World}(h:gh w ve vk vs n)(h1:n.es.length<=5)(h2:n.ks.length<=3)(h3:n.ss.length<=3)(hz:∀e∈n.es,e.1.size<=60∧e.2.size<=60):
  Calls Tryz.prog 36 #[.agg #[.bool n.leaf,ve,vk,vs]] w fun e w'=>e=.returned (.tuple #[.int .u8 (N.jq n),.string (N.ia n),.int .i64 (N.kX n)])∧Below w.heap.size w w':=by
 have hl:tU n:=⟨by omega,by omega,by omega⟩;cases hr:cQ n with
 |false=>
  obtain⟨a,b,c⟩:=N.NT hr;rw[a,b,c];exact N.tX n ve vk vs w h hl hr
 |true=>
  refine N.oh n ve vk vs w h ⟨hl.e,hl.k,hl.s,by have:=Jw _ hz;omega,?_⟩;cases hf:n.leaf with
  |true=>
   rw[((dJ hf).1 hr).2.1];exact Nat.zero_le _
  |false=>
   have:=Jx n.ss fun s hs=>(l7 ((cX hf).1 hr).2.2.2.2 hs).2;omega
theorem Dd {n:Nd}(h:N.kX n=0):(N.ia n).size<=240:=by
 unfold N.kX at h;split at h
 ·rename_i hr
  split at h
  ·rename_i hs
   exact(N.NY hr hs).2.2.2
  ·cases h
 ·cases h
theorem vV {d:Dk}(h:Up 20 d):d.room=20:=by unfold Dk.room;rw[h.sl];rfl
theorem RM {d:Dk}(h:Up 20 d){i:Nat}(hi:i<4){n:Nd}(he:N.kX n=0):(d.wr (2+(i:Int)) (N.jq n).toNat.toUInt8 (N.ia n)).1=0∧Up 20 (d.wr (2+(i:Int)) (N.jq n).toNat.toUInt8 (N.ia n)).2∧(d.wr (2+(i:Int)) (N.jq n).toNat.toUInt8 (N.ia n)).2.pend.length<=d.pend.length+1:=by
 have hs:=Dd he;rcases h.wr (2+(i:Int)) (N.jq n).toNat.toUInt8 (N.ia n)with⟨a,_,_,_,b,c,_⟩| ⟨_,_,c⟩
 ·exact⟨a,b,by rw[c];simp⟩
 ·exact absurd ⟨by omega,by omega,hs⟩ c
theorem Jy {x:TX}{d:Dk}(h:Up 20 d)(hf:∀p,x.fresh p=none):Vv x d:=fun id k=>by
 unfold bO TX.get;rw[hf];simp only;split
 ·exact .inr rfl
 ·unfold Kr Dk.rd;by_cases hp:ky d id=true
  ·rw[if_pos hp];rw[Cf h]at hp;have hp:=of_decide_eq_true hp;obtain⟨j,rfl⟩:∃j:Nat,id=j:=⟨id.toNat,by omega⟩;obtain⟨g1,_⟩:=h.get j (by omega);rw[g1];simp only[if_true];unfold nX;split
   ·exact .inl rfl
   ·exact .inr rfl
  ·rw[if_neg hp];exact .inr rfl
section
variable {B:Nat}{w0 w:World}{l:List aO}{P:List NV}{C:Cx}{x:TX}{d d1:Dk}{key:ByteArray}
theorem NC (T:bW B w0)(hu:Up 20 d)(hf:∀p,x.fresh p=none)(ok:x.Ok 20)(h0:C.err=0)(hw:Wf C.root)(hd:bf d d1)(h:Sep B w0 w (TL C x d1 P l)):
  Calls Tryz.prog 18 #[ptr C.tq,.string key] w fun e w'=>∃v b er,e=.returned (.tuple #[.string v,.bool b,.int .i64 er])∧(er=0∨er=3)∧∃P' d',bf d d'∧Sep B w0 w' (TL C x d' P' l):=by
 have hc:=Jy hu hf;have hr:=vV hu;obtain⟨m,er,e1,e2,e3⟩:=I5 (key:=key) hc 30 (cM x d C.root 0).1 (cM x d C.root 0).2 1 (fun h=>sg _ _ h) (AH hc _ _) (by omega) (.inr (.inr (by omega))) (by omega) (.inl (by omega));refine(OM (es0:=m.es) (gv:=if er=0 then nZ m.es key else⟨#[]⟩) (gb:=if er=0 then j8 m.es key else false) (fun h=>by rw[if_pos h,if_pos h];exact⟨rfl,rfl⟩) (fun h=>by rw[if_neg h,if_neg h];exact⟨rfl,rfl⟩) T (by rw[hr];omega) (by rw[hr];exact ok) (fun k c hk=>by rw[hf]at hk;cases hk) h0 hw hd h e1 fun h=>⟨rfl,?_⟩).mono ?_
 ·have:=e3 h;unfold bS at this;simp only[Bool.and_eq_true,decide_eq_true_eq]at this;exact this.1.1.1.1.1
 ·rintro e w' ⟨rfl,P',d',_,m2,s⟩;exact⟨_,_,er,rfl,e2,P',d',m2,s⟩
theorem Jz (T:bW B w0)(hu:Up 20 d)(hf:∀p,x.fresh p=none)(ok:x.Ok 20)(h0:C.err=0)(hw:Wf C.root)(hd:bf d d1)(h:Sep B w0 w (TL C x d1 P l)):
  Calls Tryz.prog 22 #[ptr C.tq,.string key] w fun e w'=>∃k v b er,e=.returned (.tuple #[.agg #[.string k,.string v],.bool b,.int .i64 er])∧(er=0∨er=3)∧∃P' d',bf d d'∧Sep B w0 w' (TL C x d' P' l):=by
 have hc:=Jy hu hf;have hr:=vV hu;obtain⟨s',b,er,e1,e2⟩:=yG (st:=Sw) hc 30 none C.root 0 key ⟨#[]⟩ (by omega) (by omega) (by omega) (.inl (by omega));refine(Jl T (by rw[hr];omega) (by rw[hr];exact ok) (fun k c hk=>by rw[hf]at hk;cases hk) h0 hw hd e1 h).mono ?_;rintro e w' ⟨rfl,P',d',_,m2,s⟩;exact⟨_,_,_,er,rfl,e2,P',d',m2,s⟩
end
end P
end Go.Proofs.YtceoeaemenhbhaaGreatDoor
