/- Walks of the package cowtree and of what it stands on: lemmas, made short. -/
import Derived.Test.YtceoeaemenhbhabGreatDoorU14
import Derived.Test.YtceoeaemenhbhabGreatDoorU10
import Derived.Test.YtceoeaemenhbhabGreatDoorU12
import Derived.Maps.OwnIn
import Derived.Maps.AppendAt
import Derived.Deep.AppendLies
import Derived.Test.YtceoeaemenhbhabGreatDoorU11
import Derived.Deep.QuietTactic
import Derived.BigQuiet
import Derived.Test.YtceoeaemenhbhabGreatDoorU13
set_option maxHeartbeats 16000000
set_option maxRecDepth 100000
set_option linter.unusedVariables false
set_option linter.unusedSimpArgs false
namespace Go.Proofs.YtceoeaemenhbhabGreatDoor
open Go.Shelf Go.RowKit Go.Lib Go.Sort
section
open N (Nd bh aT hidR ar aj Ch aM ah waits)
section
variable {B:Nat}{w0 w w':World}{l:List aP}{fr tt k:ByteArray}
def JPr (B:Nat)(w0:World)(LL:List aP)(q1 q2 q3 r o cz ix Yu:Nat)(fz tt k9:ByteArray)(hb:Bool){y0 y1 y5 y6 y7 y8 y9 tH oW oX y13 rS nL nM oY tI vR y34 tN tO vS y38 y39:Value}(C:List Bool->Act->Prop)(w:World):Prop:=∀{f0 f1 f2 f3 f4 f5 f6 f7 f8 f9 f10 f11 f12 f13:Bool}{tK x20 jU ll kL x24 x25 rT x27 x28 x29 x30 x31 x32:Value},f13=false->Sep B w0 w LL->Hid (f0=true->tK=.int .i64 (ix:Int))->Hid (f1=true->x20=.pointer (some ⟨q2,3,none⟩))->Hid (f2=true->f1=true∧jU=.slice (some ⟨r,o,none⟩) Yu cz)->Hid (f3=true->f2=true∧ll=.int .i64 (Yu:Int))->Hid (f4=true->f0=true∧f3=true∧kL=.bool true)->Hid (f5=true->f4=true∧x24=.bool true)->Hid (f6=true->x25=.agg #[.string fz,.string tt])->Hid (f7=true->rT=.pointer (some ⟨q2,3,none⟩))->Hid (f8=true->f7=true∧x27=.slice (some ⟨r,o,none⟩) Yu cz)->Hid (f9=true->x28=.int .i64 (ix:Int))->Hid (f10=true->f8=true∧f9=true∧x29=.pointer (some ⟨r,o+ix,none⟩))->Hid (f11=true->f10=true∧x30=.string k9)->Hid (f12=true->f6=true∧f11=true∧x31=.bool hb)->C [f0,f1,f2,f3,f4,f5,f6,f7,f8,f9,f10,f11,f12,f13] {tmps:=#[y0,y1,.int .i64 (ix:Int),.pointer (some ⟨q1,0,none⟩),.pointer (some ⟨q2,0,none⟩),y5,y6,y7,y8,y9,tH,oW,oX,y13,rS,nL,nM,oY,tI,tK,x20,jU,ll,kL,x24,x25,rT,x27,x28,x29,x30,x31,x32,vR,y34,tN,tO,vS,y38,y39],defers:=[]}
theorem JQ {P:List NV}{p:NV}{ix:Nat}(h:Sep B w0 w (Pl P::l))(hp:p∈P)(hi:ix<=p.n.ss.length)(hb:p.n.ss.length<=500):Calls Tryz.prog 81 #[.agg #[.string fr,.string tt],.agg #[.bool p.n.leaf,.slice p.ae p.n.es.length p.ce,.slice p.ak p.n.ks.length p.ck,.slice p.az p.n.ss.length p.cz],.int .i64 (ix:Int)] w fun e w'=>e=.returned (.agg #[.string (j5 p.n.ss ix fr),.string (gW p.n.ss ix tt)])∧Sep B w0 w' (Pl P::l):=by
 obtain⟨ae,ce,ak,ck,az,cz,n⟩:=p;simp only at hi hb⊢;have HS:Hid (Sep B w0 w (Pl P::l)):=h;have HP:Hid (⟨ae,ce,ak,ck,az,cz,n⟩∈P):=hp;clear h hp;by_cases hi0:0<ix
 ·obtain⟨j,hij⟩:∃j,ix=j+1:=⟨ix-1,by omega⟩;have S3:Hid (Sep B w0 (((w.alloc (.cells #[.string fr,.string tt] 75)).alloc (.cells #[.bool n.leaf,.slice ae n.es.length ce,.slice ak n.ks.length ck,.slice az n.ss.length cz] 54)).alloc (.cells #[.string ⟨#[]⟩,.string ⟨#[]⟩] 75)).drew (Pl P::l)):=(((HS.out.alloc _).alloc _).alloc _).drew;obtain⟨r,o,haz,k1,k2⟩:=NV.key (p:=⟨ae,ce,ak,ck,az,cz,n⟩) (Sep.pool S3.out _ HP.out) (i:=j) (by simp only;omega);simp only at haz k2;subst haz;have wj:IntKind.i64.wrap ((ix:Int)-1)=(j:Int):=by rw[bf (by omega) (by omega)];omega
  have hj:(j:Int)< (n.ss.length:Int):=by omega
  have hj1:(0:Int)< (ix:Int):=by omega
  have SF:Hid (j5 n.ss ix fr=if bh fr (n.ss.getD j ⟨#[]⟩)=true then n.ss.getD j ⟨#[]⟩else fr):=by show _=_;rw[hij];simp[j5]
  generalize n.ss.getD j ⟨#[]⟩=kk at*;generalize j5 n.ss ix fr=fz at*;have hmx:Builtin.max_ #[9,9] 9 #[.string fr,.string kk]=pure (.string fz):=by rw[SF.out];exact Vs fr kk
  clear SF hij;go_enter Tryz.func81,Tryz.ntmps81
  go_wp2_with fail
  go_region
  clear k2 k1 S3 hmx wj hj
  go_wp2_with fail
  have S4:Hid (Sep B w0 (((w.alloc (.cells #[.string fz,.string tt] 75)).alloc (.cells #[.bool n.leaf,.slice ae n.es.length ce,.slice ak n.ks.length ck,.slice (some ⟨r,o,none⟩) n.ss.length cz] 54)).alloc (.cells #[.string ⟨#[]⟩,.string ⟨#[]⟩] 75)).drew (Pl P::aF w.heap.size (.cells #[.string fz,.string tt] 75)::aF (w.heap.size+1) (.cells #[.bool n.leaf,.slice ae n.es.length ce,.slice ak n.ks.length ck,.slice (some ⟨r,o,none⟩) n.ss.length cz] 54)::aF (w.heap.size+1+1) (.cells #[.string ⟨#[]⟩,.string ⟨#[]⟩] 75)::l)):=by
   have h1:=HS.out.aU (.cells #[.string fz,.string tt] 75) w.heap.size rfl;have h2:=h1.aU (.cells #[.bool n.leaf,.slice ae n.es.length ce,.slice ak n.ks.length ck,.slice (some ⟨r,o,none⟩) n.ss.length cz] 54) (w.heap.size+1) (by simp);have h3:=h2.aU (.cells #[.string ⟨#[]⟩,.string ⟨#[]⟩] 75) (w.heap.size+1+1) (by simp);exact Sep.drew (Sep.Rc (Sep.pb [_,_] (Sep.pb [_,_,_] h3)))
  generalize(((w.alloc (.cells #[.string fz,.string tt] 75)).alloc (.cells #[.bool n.leaf,.slice ae n.es.length ce,.slice ak n.ks.length ck,.slice (some ⟨r,o,none⟩) n.ss.length cz] 54)).alloc (.cells #[.string ⟨#[]⟩,.string ⟨#[]⟩] 75)).drew=u0 at*;generalize hq2:w.heap.size+1=q2 at*;generalize hq3:q2+1=q3 at*;generalize hq1:w.heap.size=q1 at*;clear hq1 hq2 hq3;have T0:Hid (Sep B w0 u0.drew (Pl P::aF q1 (.cells #[.string fz,.string tt] 75)::aF q2 (.cells #[.bool n.leaf,.slice ae n.es.length ce,.slice ak n.ks.length ck,.slice (some ⟨r,o,none⟩) n.ss.length cz] 54)::aF q3 (.cells #[.string ⟨#[]⟩,.string ⟨#[]⟩] 75)::l)):=S4.out.drew;clear S4 HS;have n13:q1≠q3:=Sep.ne (Sep.pk [_,_] (Sep.pk [_,_,_] T0.out));have n31:=n13.symm;by_cases hl:ix<n.ss.length
  ·obtain⟨r2,o2,JR,k1,k2⟩:=NV.key (p:=⟨ae,ce,ak,ck,some ⟨r,o,none⟩,cz,n⟩) (Sep.pool T0.out _ HP.out) (i:=ix) hl;simp only at JR k2;obtain⟨rfl,rfl⟩:r=r2∧o=o2:=by cases JR;exact⟨rfl,rfl⟩
   have Yv:(ix:Int)< (n.ss.length:Int):=by omega
   have hld:decide ((ix:Int)< (n.ss.length:Int))=true:=by simp;omega
   have Yw:decide (ix<n.ss.length)=true:=by simp;omega
   have HE:Hid (gW n.ss ix tt=if bH tt (n.ss.getD ix ⟨#[]⟩)=true then n.ss.getD ix ⟨#[]⟩else tt):=by show _=_;simp[gW,hl]
   have KK:Hid (∀u L,Sep B w0 u (Pl P::L)->u.cell? ⟨r,o+ix,none⟩=some (.string (n.ss.getD ix ⟨#[]⟩))):=fun u L hu=>by
    obtain⟨r',o',h1,_,h3⟩:=NV.key (p:=⟨ae,ce,ak,ck,some ⟨r,o,none⟩,cz,n⟩) (Sep.pool hu _ HP.out) (i:=ix) hl;cases h1;exact h3
   generalize n.ss.getD ix ⟨#[]⟩=k9 at*;clear k1 k2;refine lz 13 (JPr B w0 (Pl P::aF q1 (.cells #[.string fz,.string tt] 75)::aF q2 (.cells #[.bool n.leaf,.slice ae n.es.length ce,.slice ak n.ks.length ck,.slice (some ⟨r,o,none⟩) n.ss.length cz] 54)::aF q3 (.cells #[.string ⟨#[]⟩,.string ⟨#[]⟩] 75)::l) q1 q2 q3 r o cz ix n.ss.length fz tt k9 (bH tt k9)) (by kernel_rfl) (by kernel_rfl) (fun _ k=>k rfl T0.out ar ar ar ar ar ar ar ar ar ar ar ar ar) ?_ ?_ ?_ ?_
   ·intro w' f0 f1 f2 f3 f4 f5 f6 f7 f8 f9 f10 f11 f12 f13 tK x20 jU ll kL x24 x25 rT x27 x28 x29 x30 x31 x32 e13 hB h0 h1 h2 h3 h4 h5 h6 h7 h8 h9 h10 h11 h12 hi;have d5:f5=true:=ah 5 hi (by kernel_rfl);have d12:f12=true:=ah 12 hi (by kernel_rfl);obtain⟨d6,d11,_⟩:=h12.out d12;obtain⟨d10,_⟩:=h11.out d11;obtain⟨d8,d9,_⟩:=h10.out d10;obtain⟨d7,_⟩:=h8.out d8;obtain⟨d4,_⟩:=h5.out d5;obtain⟨d0,d3,_⟩:=h4.out d4;obtain⟨d2,_⟩:=h3.out d3;obtain⟨d1,_⟩:=h2.out d2;subst d0 d1 d2 d3 d4 d5 d6 d7 d8 d9 d10 d11 d12;rfl
   ·intro i w' hne f0 f1 f2 f3 f4 f5 f6 f7 f8 f9 f10 f11 f12 f13 tK x20 jU ll kL x24 x25 rT x27 x28 x29 x30 x31 x32 e13 hB h0 h1 h2 h3 h4 h5 h6 h7 h8 h9 h10 h11 h12 hi;obtain⟨hlt,hun,_⟩:=aM hi;have hlt':i<14:=hlt;clear hlt;rcases(by omega:i=0∨i=1∨i=2∨i=3∨i=4∨i=5∨i=6∨i=7∨i=8∨i=9∨i=10∨i=11∨i=12)with rfl|rfl|rfl|rfl|rfl|rfl|rfl|rfl|rfl|rfl|rfl|rfl|rfl
    ·have un:f0=false:=hun;refine aj rfl fun K HK=>?_;go_simp;exact HK.out _ _ fun _ k=>k e13 hB hidR h1 h2 h3 (fun d=>by have e:=(h4.out d).1;rw[un]at e;cases e) h5 h6 h7 h8 h9 h10 h11 h12
    ·have un:f1=false:=hun;refine aj rfl fun K HK=>?_;go_simp;exact HK.out _ _ fun _ k=>k e13 hB h0 hidR (fun d=>by have e:=(h2.out d).1;rw[un]at e;cases e) h3 h4 h5 h6 h7 h8 h9 h10 h11 h12
    ·have un:f2=false:=hun;have d1:f1=true:=ah 1 hi (by kernel_rfl);cases h1 d1;obtain⟨_,⟨y0,y1,y2,y3⟩,_⟩:=Sep.c4 (Sep.pk [_,_] hB);refine aj rfl fun K HK=>?_;go_simp;exact HK.out _ _ fun _ k=>k e13 hB h0 h1 (fun _=>⟨d1,rfl⟩) (fun d=>by have e:=(h3.out d).1;rw[un]at e;cases e) h4 h5 h6 h7 h8 h9 h10 h11 h12
    ·have un:f3=false:=hun;have d2:f2=true:=ah 2 hi (by kernel_rfl);obtain⟨_,rfl⟩:=h2.out d2;refine aj rfl fun K HK=>?_;go_simp;exact HK.out _ _ fun _ k=>k e13 hB h0 h1 h2 (fun _=>⟨d2,rfl⟩) (fun d=>by have e:=(h4.out d).2.1;rw[un]at e;cases e) h5 h6 h7 h8 h9 h10 h11 h12
    ·have un:f4=false:=hun;have d0:f0=true:=ah 0 hi (by kernel_rfl);cases h0 d0;have d3:f3=true:=ah 3 hi (by kernel_rfl);obtain⟨_,rfl⟩:=h3.out d3;refine aj rfl fun K HK=>?_;go_simp;exact HK.out _ _ fun _ k=>k e13 hB h0 h1 h2 h3 (fun _=>⟨d0,d3,rfl⟩) (fun d=>by have e:=(h5.out d).1;rw[un]at e;cases e) h6 h7 h8 h9 h10 h11 h12
    ·have d4:f4=true:=ah 4 hi (by kernel_rfl);obtain⟨_,_,rfl⟩:=h4.out d4;refine aj rfl fun K HK=>?_;go_simp;exact HK.out _ _ fun _ k=>k e13 hB h0 h1 h2 h3 h4 (fun _=>⟨d4,rfl⟩) h6 h7 h8 h9 h10 h11 h12
    ·have un:f6=false:=hun;obtain⟨_,rfl⟩:=h5.out (ah 5 hi (by kernel_rfl));obtain⟨_,⟨y0,y1⟩,_⟩:=Sep.c2 (Sep.gf hB);refine aj rfl fun K HK=>?_;go_simp;exact HK.out _ _ fun _ k=>k e13 hB h0 h1 h2 h3 h4 h5 hidR h7 h8 h9 h10 h11 (fun d=>by have e:=(h12.out d).1;rw[un]at e;cases e)
    ·have un:f7=false:=hun;obtain⟨_,rfl⟩:=h5.out (ah 5 hi (by kernel_rfl));refine aj rfl fun K HK=>?_;go_simp;exact HK.out _ _ fun _ k=>k e13 hB h0 h1 h2 h3 h4 h5 h6 hidR (fun d=>by have e:=(h8.out d).1;rw[un]at e;cases e) h9 h10 h11 h12
    ·have un:f8=false:=hun;obtain⟨_,rfl⟩:=h5.out (ah 5 hi (by kernel_rfl));have d7:f7=true:=ah 7 hi (by kernel_rfl);cases h7 d7;obtain⟨_,⟨y0,y1,y2,y3⟩,_⟩:=Sep.c4 (Sep.pk [_,_] hB);refine aj rfl fun K HK=>?_;go_simp;exact HK.out _ _ fun _ k=>k e13 hB h0 h1 h2 h3 h4 h5 h6 h7 (fun _=>⟨d7,rfl⟩) h9 (fun d=>by have e:=(h10.out d).1;rw[un]at e;cases e) h11 h12
    ·have un:f9=false:=hun;obtain⟨_,rfl⟩:=h5.out (ah 5 hi (by kernel_rfl));refine aj rfl fun K HK=>?_;go_simp;exact HK.out _ _ fun _ k=>k e13 hB h0 h1 h2 h3 h4 h5 h6 h7 h8 hidR (fun d=>by have e:=(h10.out d).2.1;rw[un]at e;cases e) h11 h12
    ·have un:f10=false:=hun;obtain⟨_,rfl⟩:=h5.out (ah 5 hi (by kernel_rfl));have d8:f8=true:=ah 8 hi (by kernel_rfl);obtain⟨_,rfl⟩:=h8.out d8;have d9:f9=true:=ah 9 hi (by kernel_rfl);cases h9 d9;refine aj rfl fun K HK=>?_;go_simp;exact HK.out _ _ fun _ k=>k e13 hB h0 h1 h2 h3 h4 h5 h6 h7 h8 h9 (fun _=>⟨d8,d9,rfl⟩) (fun d=>by have e:=(h11.out d).1;rw[un]at e;cases e) h12
    ·have un:f11=false:=hun;obtain⟨_,rfl⟩:=h5.out (ah 5 hi (by kernel_rfl));have d10:f10=true:=ah 10 hi (by kernel_rfl);obtain⟨_,_,rfl⟩:=h10.out d10;have Wc:=KK.out _ _ hB;refine aj rfl fun K HK=>?_;go_simp;exact HK.out _ _ fun _ k=>k e13 hB h0 h1 h2 h3 h4 h5 h6 h7 h8 h9 h10 (fun _=>⟨d10,rfl⟩) (fun d=>by have e:=(h12.out d).2.1;rw[un]at e;cases e)
    ·obtain⟨_,rfl⟩:=h5.out (ah 5 hi (by kernel_rfl));have d6:f6=true:=ah 6 hi (by kernel_rfl);cases h6 d6;have d11:f11=true:=ah 11 hi (by kernel_rfl);obtain⟨_,rfl⟩:=h11.out d11;refine aj rfl fun K HK=>?_;go_simp;refine Calls.mono (qo hB) ?_;rintro e u4 ⟨rfl,s4⟩;exact HK.out _ _ fun _ k=>k e13 s4 h0 h1 h2 h3 h4 h5 h6 h7 h8 h9 h10 h11 (fun _=>⟨d6,d11,rfl⟩)
   ·intro w' f0 f1 f2 f3 f4 f5 f6 f7 f8 f9 f10 f11 f12 f13 tK x20 jU ll kL x24 x25 rT x27 x28 x29 x30 x31 x32 e13 hB h0 h1 h2 h3 h4 h5 h6 h7 h8 h9 h10 h11 h12 hi;have d5:f5=true:=ah 5 hi (by kernel_rfl);obtain⟨_,rfl⟩:=h5.out d5;have d12:f12=true:=ah 12 hi (by kernel_rfl);obtain⟨u6,u11,rfl⟩:=h12.out d12;clear hi;refine aj rfl fun K HK=>?_;go_simp;refine HK.out _ _ ?_;have T1:Hid (Sep B w0 w' (Pl P::aF q1 (.cells #[.string fz,.string tt] 75)::aF q2 (.cells #[.bool n.leaf,.slice ae n.es.length ce,.slice ak n.ks.length ck,.slice (some ⟨r,o,none⟩) n.ss.length cz] 54)::aF q3 (.cells #[.string ⟨#[]⟩,.string ⟨#[]⟩] 75)::l)):=hB;clear hB h0 h1 h2 h3 h4 h5 h6 h7 h8 h9 h10 h11 h12;obtain⟨_,⟨x0,x1⟩,g0,g1⟩:=Sep.c2 (Sep.gf T1.out);obtain⟨_,⟨y0,y1,y2,y3⟩,_⟩:=Sep.c4 (Sep.pk [_,_] T1.out);obtain⟨_,⟨z0,z1⟩,Vt,f2'⟩:=Sep.c2 (Sep.pk [_,_,_] T1.out);have k2:=KK.out _ _ T1.out;cases hh:bH tt k9
    ·rw[hh]at HE;rw[if_neg Bool.false_ne_true]at HE;have SF:Hid (Sep B w0 ((w'.setCell ⟨q3,0,none⟩ (.string fz)).setCell ⟨q3,1,none⟩ (.string tt)) (Pl P::aF q1 (.cells #[.string fz,.string tt] 75)::aF q2 (.cells #[.bool n.leaf,.slice ae n.es.length ce,.slice ak n.ks.length ck,.slice (some ⟨r,o,none⟩) n.ss.length cz] 54)::aF q3 (.cells #[.string fz,.string tt] 75)::l)):=Sep.pb [_,_,_] (((Sep.pk [_,_,_] T1.out).dy 0 _).dy 1 _);clear hh T1 KK;go_wp2;generalize World.setCell _ _ _=u2 at*;clear x0 x1 g0 g1 y0 y1 y2 y3 z0 z1 Vt f2' k2;obtain⟨_,⟨z0,z1⟩,_⟩:=Sep.c2 (Sep.pk [_,_,_] SF.out);refine bodyPost_ret (v:=.agg #[.string fz,.string tt]) ?_ rfl ⟨by rw[HE.out],Sep.drop (Sep.gf (Sep.drop (Sep.gf (Sep.drop (Sep.gf SF.out)))))⟩;rw[N.bF rfl];go_simp
    ·rw[hh]at HE;rw[if_pos rfl]at HE;have SF:Hid (Sep B w0 (((w'.setCell ⟨q1,1,none⟩ (.string k9)).setCell ⟨q3,0,none⟩ (.string fz)).setCell ⟨q3,1,none⟩ (.string k9)) (Pl P::aF q1 (.cells #[.string fz,.string k9] 75)::aF q2 (.cells #[.bool n.leaf,.slice ae n.es.length ce,.slice ak n.ks.length ck,.slice (some ⟨r,o,none⟩) n.ss.length cz] 54)::aF q3 (.cells #[.string fz,.string k9] 75)::l)):=Sep.pb [_,_,_] (((Sep.pk [_,_,_] (Sep.Rc ((Sep.gf T1.out).dy 1 (.string k9)))).dy 0 _).dy 1 _);clear hh T1 KK;go_wp2;generalize World.setCell _ _ _=u2 at*;clear x0 x1 g0 g1 y0 y1 y2 y3 z0 z1 Vt f2' k2;obtain⟨_,⟨z0,z1⟩,_⟩:=Sep.c2 (Sep.pk [_,_,_] SF.out);refine bodyPost_ret (v:=.agg #[.string fz,.string k9]) ?_ rfl ⟨by rw[HE.out],Sep.drop (Sep.gf (Sep.drop (Sep.gf (Sep.drop (Sep.gf SF.out)))))⟩;rw[N.bF rfl];go_simp
   ·intro _ _;intros;assumption
  ·obtain⟨_,⟨x0,x1⟩,g0,g1⟩:=Sep.c2 (Sep.gf T0.out);obtain⟨_,⟨y0,y1,y2,y3⟩,_⟩:=Sep.c4 (Sep.pk [_,_] T0.out);obtain⟨_,⟨z0,z1⟩,f0,f2⟩:=Sep.c2 (Sep.pk [_,_,_] T0.out);have hd:decide ((ix:Int)< (n.ss.length:Int))=false:=by simp;omega
   have hd2:decide (ix<n.ss.length)=false:=by simp;omega
   have HE:Hid (gW n.ss ix tt=tt):=by show _=_;unfold gW;rw[if_neg fun h=>hl h.1]
   have SF:Hid (Sep B w0 ((u0.drew.setCell ⟨q3,0,none⟩ (.string fz)).setCell ⟨q3,1,none⟩ (.string tt)) (Pl P::aF q1 (.cells #[.string fz,.string tt] 75)::aF q2 (.cells #[.bool n.leaf,.slice ae n.es.length ce,.slice ak n.ks.length ck,.slice (some ⟨r,o,none⟩) n.ss.length cz] 54)::aF q3 (.cells #[.string fz,.string tt] 75)::l)):=Sep.pb [_,_,_] (((Sep.pk [_,_,_] T0.out).dy 0 _).dy 1 _);clear T0 hl
   go_region
   generalize u0.drew=u1 at*;go_wp2;generalize(u1.setCell ⟨q3,0,none⟩ (.string fz)).setCell ⟨q3,1,none⟩ (.string tt)=u2 at*;clear x0 x1 g0 g1 y0 y1 y2 y3 z0 z1 f0 f2;obtain⟨_,⟨z0,z1⟩,_⟩:=Sep.c2 (Sep.pk [_,_,_] SF.out);refine bodyPost_ret (v:=.agg #[.string fz,.string tt]) ?_ rfl ⟨by rw[HE.out],Sep.drop (Sep.gf (Sep.drop (Sep.gf (Sep.drop (Sep.gf SF.out)))))⟩;rw[N.bF rfl];go_simp
 ·have hz:j5 n.ss ix fr=fr:=by unfold j5;rw[if_neg fun h=>hi0 h.1]
  rw[hz];have hz2:decide ((0:Int)< (ix:Int))=false:=by simp;omega
  have hz3:decide (0<ix)=false:=by simp;omega
  have hz4:¬(0:Int)< (ix:Int):=by omega
  clear hz;go_enter Tryz.func81,Tryz.ntmps81
  go_wp2_with fail
  have S4:Hid (Sep B w0 (((w.alloc (.cells #[.string fr,.string tt] 75)).alloc (.cells #[.bool n.leaf,.slice ae n.es.length ce,.slice ak n.ks.length ck,.slice az n.ss.length cz] 54)).alloc (.cells #[.string ⟨#[]⟩,.string ⟨#[]⟩] 75)) (Pl P::aF w.heap.size (.cells #[.string fr,.string tt] 75)::aF (w.heap.size+1) (.cells #[.bool n.leaf,.slice ae n.es.length ce,.slice ak n.ks.length ck,.slice az n.ss.length cz] 54)::aF (w.heap.size+1+1) (.cells #[.string ⟨#[]⟩,.string ⟨#[]⟩] 75)::l)):=by
   have h1:=HS.out.aU (.cells #[.string fr,.string tt] 75) w.heap.size rfl;have h2:=h1.aU (.cells #[.bool n.leaf,.slice ae n.es.length ce,.slice ak n.ks.length ck,.slice az n.ss.length cz] 54) (w.heap.size+1) (by simp);have h3:=h2.aU (.cells #[.string ⟨#[]⟩,.string ⟨#[]⟩] 75) (w.heap.size+1+1) (by simp);exact(Sep.Rc (Sep.pb [_,_] (Sep.pb [_,_,_] h3)))
  generalize World.alloc _ _=u0 at*;generalize hq2:w.heap.size+1=q2 at*;generalize hq3:q2+1=q3 at*;generalize hq1:w.heap.size=q1 at*;clear hq1 hq2 hq3;have T0:Hid (Sep B w0 u0.drew (Pl P::aF q1 (.cells #[.string fr,.string tt] 75)::aF q2 (.cells #[.bool n.leaf,.slice ae n.es.length ce,.slice ak n.ks.length ck,.slice az n.ss.length cz] 54)::aF q3 (.cells #[.string ⟨#[]⟩,.string ⟨#[]⟩] 75)::l)):=S4.out.drew;clear S4 HS;have n13:q1≠q3:=Sep.ne (Sep.pk [_,_] (Sep.pk [_,_,_] T0.out));have n31:=n13.symm;by_cases hl:ix<n.ss.length
  ·obtain⟨r2,o2,JR,k1,k2⟩:=NV.key (p:=⟨ae,ce,ak,ck,az,cz,n⟩) (Sep.pool T0.out _ HP.out) (i:=ix) hl;simp only at JR k2;subst JR;have Yv:(ix:Int)< (n.ss.length:Int):=by omega
   have hld:decide ((ix:Int)< (n.ss.length:Int))=true:=by simp;omega
   have Yw:decide (ix<n.ss.length)=true:=by simp;omega
   have HE:Hid (gW n.ss ix tt=if bH tt (n.ss.getD ix ⟨#[]⟩)=true then n.ss.getD ix ⟨#[]⟩else tt):=by show _=_;simp[gW,hl]
   have KK:Hid (∀u L,Sep B w0 u (Pl P::L)->u.cell? ⟨r2,o2+ix,none⟩=some (.string (n.ss.getD ix ⟨#[]⟩))):=fun u L hu=>by
    obtain⟨r',o',h1,_,h3⟩:=NV.key (p:=⟨ae,ce,ak,ck,some ⟨r2,o2,none⟩,cz,n⟩) (Sep.pool hu _ HP.out) (i:=ix) hl;cases h1;exact h3
   generalize n.ss.getD ix ⟨#[]⟩=k9 at*;clear k1 k2;refine lz 13 (JPr B w0 (Pl P::aF q1 (.cells #[.string fr,.string tt] 75)::aF q2 (.cells #[.bool n.leaf,.slice ae n.es.length ce,.slice ak n.ks.length ck,.slice (some ⟨r2,o2,none⟩) n.ss.length cz] 54)::aF q3 (.cells #[.string ⟨#[]⟩,.string ⟨#[]⟩] 75)::l) q1 q2 q3 r2 o2 cz ix n.ss.length fr tt k9 (bH tt k9)) (by kernel_rfl) (by kernel_rfl) (fun _ k=>k rfl T0.out ar ar ar ar ar ar ar ar ar ar ar ar ar) ?_ ?_ ?_ ?_
   ·intro w' f0 f1 f2 f3 f4 f5 f6 f7 f8 f9 f10 f11 f12 f13 tK x20 jU ll kL x24 x25 rT x27 x28 x29 x30 x31 x32 e13 hB h0 h1 h2 h3 h4 h5 h6 h7 h8 h9 h10 h11 h12 hi;have d5:f5=true:=ah 5 hi (by kernel_rfl);have d12:f12=true:=ah 12 hi (by kernel_rfl);obtain⟨d6,d11,_⟩:=h12.out d12;obtain⟨d10,_⟩:=h11.out d11;obtain⟨d8,d9,_⟩:=h10.out d10;obtain⟨d7,_⟩:=h8.out d8;obtain⟨d4,_⟩:=h5.out d5;obtain⟨d0,d3,_⟩:=h4.out d4;obtain⟨d2,_⟩:=h3.out d3;obtain⟨d1,_⟩:=h2.out d2;subst d0 d1 d2 d3 d4 d5 d6 d7 d8 d9 d10 d11 d12;rfl
   ·intro i w' hne f0 f1 f2 f3 f4 f5 f6 f7 f8 f9 f10 f11 f12 f13 tK x20 jU ll kL x24 x25 rT x27 x28 x29 x30 x31 x32 e13 hB h0 h1 h2 h3 h4 h5 h6 h7 h8 h9 h10 h11 h12 hi;obtain⟨hlt,hun,_⟩:=aM hi;have hlt':i<14:=hlt;clear hlt;rcases(by omega:i=0∨i=1∨i=2∨i=3∨i=4∨i=5∨i=6∨i=7∨i=8∨i=9∨i=10∨i=11∨i=12)with rfl|rfl|rfl|rfl|rfl|rfl|rfl|rfl|rfl|rfl|rfl|rfl|rfl
    ·have un:f0=false:=hun;refine aj rfl fun K HK=>?_;go_simp;exact HK.out _ _ fun _ k=>k e13 hB hidR h1 h2 h3 (fun d=>by have e:=(h4.out d).1;rw[un]at e;cases e) h5 h6 h7 h8 h9 h10 h11 h12
    ·have un:f1=false:=hun;refine aj rfl fun K HK=>?_;go_simp;exact HK.out _ _ fun _ k=>k e13 hB h0 hidR (fun d=>by have e:=(h2.out d).1;rw[un]at e;cases e) h3 h4 h5 h6 h7 h8 h9 h10 h11 h12
    ·have un:f2=false:=hun;have d1:f1=true:=ah 1 hi (by kernel_rfl);cases h1 d1;obtain⟨_,⟨y0,y1,y2,y3⟩,_⟩:=Sep.c4 (Sep.pk [_,_] hB);refine aj rfl fun K HK=>?_;go_simp;exact HK.out _ _ fun _ k=>k e13 hB h0 h1 (fun _=>⟨d1,rfl⟩) (fun d=>by have e:=(h3.out d).1;rw[un]at e;cases e) h4 h5 h6 h7 h8 h9 h10 h11 h12
    ·have un:f3=false:=hun;have d2:f2=true:=ah 2 hi (by kernel_rfl);obtain⟨_,rfl⟩:=h2.out d2;refine aj rfl fun K HK=>?_;go_simp;exact HK.out _ _ fun _ k=>k e13 hB h0 h1 h2 (fun _=>⟨d2,rfl⟩) (fun d=>by have e:=(h4.out d).2.1;rw[un]at e;cases e) h5 h6 h7 h8 h9 h10 h11 h12
    ·have un:f4=false:=hun;have d0:f0=true:=ah 0 hi (by kernel_rfl);cases h0 d0;have d3:f3=true:=ah 3 hi (by kernel_rfl);obtain⟨_,rfl⟩:=h3.out d3;refine aj rfl fun K HK=>?_;go_simp;exact HK.out _ _ fun _ k=>k e13 hB h0 h1 h2 h3 (fun _=>⟨d0,d3,rfl⟩) (fun d=>by have e:=(h5.out d).1;rw[un]at e;cases e) h6 h7 h8 h9 h10 h11 h12
    ·have d4:f4=true:=ah 4 hi (by kernel_rfl);obtain⟨_,_,rfl⟩:=h4.out d4;refine aj rfl fun K HK=>?_;go_simp;exact HK.out _ _ fun _ k=>k e13 hB h0 h1 h2 h3 h4 (fun _=>⟨d4,rfl⟩) h6 h7 h8 h9 h10 h11 h12
    ·have un:f6=false:=hun;obtain⟨_,rfl⟩:=h5.out (ah 5 hi (by kernel_rfl));obtain⟨_,⟨y0,y1⟩,_⟩:=Sep.c2 (Sep.gf hB);refine aj rfl fun K HK=>?_;go_simp;exact HK.out _ _ fun _ k=>k e13 hB h0 h1 h2 h3 h4 h5 hidR h7 h8 h9 h10 h11 (fun d=>by have e:=(h12.out d).1;rw[un]at e;cases e)
    ·have un:f7=false:=hun;obtain⟨_,rfl⟩:=h5.out (ah 5 hi (by kernel_rfl));refine aj rfl fun K HK=>?_;go_simp;exact HK.out _ _ fun _ k=>k e13 hB h0 h1 h2 h3 h4 h5 h6 hidR (fun d=>by have e:=(h8.out d).1;rw[un]at e;cases e) h9 h10 h11 h12
    ·have un:f8=false:=hun;obtain⟨_,rfl⟩:=h5.out (ah 5 hi (by kernel_rfl));have d7:f7=true:=ah 7 hi (by kernel_rfl);cases h7 d7;obtain⟨_,⟨y0,y1,y2,y3⟩,_⟩:=Sep.c4 (Sep.pk [_,_] hB);refine aj rfl fun K HK=>?_;go_simp;exact HK.out _ _ fun _ k=>k e13 hB h0 h1 h2 h3 h4 h5 h6 h7 (fun _=>⟨d7,rfl⟩) h9 (fun d=>by have e:=(h10.out d).1;rw[un]at e;cases e) h11 h12
    ·have un:f9=false:=hun;obtain⟨_,rfl⟩:=h5.out (ah 5 hi (by kernel_rfl));refine aj rfl fun K HK=>?_;go_simp;exact HK.out _ _ fun _ k=>k e13 hB h0 h1 h2 h3 h4 h5 h6 h7 h8 hidR (fun d=>by have e:=(h10.out d).2.1;rw[un]at e;cases e) h11 h12
    ·have un:f10=false:=hun;obtain⟨_,rfl⟩:=h5.out (ah 5 hi (by kernel_rfl));have d8:f8=true:=ah 8 hi (by kernel_rfl);obtain⟨_,rfl⟩:=h8.out d8;have d9:f9=true:=ah 9 hi (by kernel_rfl);cases h9 d9;refine aj rfl fun K HK=>?_;go_simp;exact HK.out _ _ fun _ k=>k e13 hB h0 h1 h2 h3 h4 h5 h6 h7 h8 h9 (fun _=>⟨d8,d9,rfl⟩) (fun d=>by have e:=(h11.out d).1;rw[un]at e;cases e) h12
    ·have un:f11=false:=hun;obtain⟨_,rfl⟩:=h5.out (ah 5 hi (by kernel_rfl));have d10:f10=true:=ah 10 hi (by kernel_rfl);obtain⟨_,_,rfl⟩:=h10.out d10;have Wc:=KK.out _ _ hB;refine aj rfl fun K HK=>?_;go_simp;exact HK.out _ _ fun _ k=>k e13 hB h0 h1 h2 h3 h4 h5 h6 h7 h8 h9 h10 (fun _=>⟨d10,rfl⟩) (fun d=>by have e:=(h12.out d).2.1;rw[un]at e;cases e)
    ·obtain⟨_,rfl⟩:=h5.out (ah 5 hi (by kernel_rfl));have d6:f6=true:=ah 6 hi (by kernel_rfl);cases h6 d6;have d11:f11=true:=ah 11 hi (by kernel_rfl);obtain⟨_,rfl⟩:=h11.out d11;refine aj rfl fun K HK=>?_;go_simp;refine Calls.mono (qo hB) ?_;rintro e u4 ⟨rfl,s4⟩;exact HK.out _ _ fun _ k=>k e13 s4 h0 h1 h2 h3 h4 h5 h6 h7 h8 h9 h10 h11 (fun _=>⟨d6,d11,rfl⟩)
   ·intro w' f0 f1 f2 f3 f4 f5 f6 f7 f8 f9 f10 f11 f12 f13 tK x20 jU ll kL x24 x25 rT x27 x28 x29 x30 x31 x32 e13 hB h0 h1 h2 h3 h4 h5 h6 h7 h8 h9 h10 h11 h12 hi;have d5:f5=true:=ah 5 hi (by kernel_rfl);obtain⟨_,rfl⟩:=h5.out d5;have d12:f12=true:=ah 12 hi (by kernel_rfl);obtain⟨u6,u11,rfl⟩:=h12.out d12;clear hi;refine aj rfl fun K HK=>?_;go_simp;refine HK.out _ _ ?_;have T1:Hid (Sep B w0 w' (Pl P::aF q1 (.cells #[.string fr,.string tt] 75)::aF q2 (.cells #[.bool n.leaf,.slice ae n.es.length ce,.slice ak n.ks.length ck,.slice (some ⟨r2,o2,none⟩) n.ss.length cz] 54)::aF q3 (.cells #[.string ⟨#[]⟩,.string ⟨#[]⟩] 75)::l)):=hB;clear hB h0 h1 h2 h3 h4 h5 h6 h7 h8 h9 h10 h11 h12;obtain⟨_,⟨x0,x1⟩,g0,g1⟩:=Sep.c2 (Sep.gf T1.out);obtain⟨_,⟨y0,y1,y2,y3⟩,_⟩:=Sep.c4 (Sep.pk [_,_] T1.out);obtain⟨_,⟨z0,z1⟩,Vt,f2'⟩:=Sep.c2 (Sep.pk [_,_,_] T1.out);have k2:=KK.out _ _ T1.out;cases hh:bH tt k9
    ·rw[hh]at HE;rw[if_neg Bool.false_ne_true]at HE;have SF:Hid (Sep B w0 ((w'.setCell ⟨q3,0,none⟩ (.string fr)).setCell ⟨q3,1,none⟩ (.string tt)) (Pl P::aF q1 (.cells #[.string fr,.string tt] 75)::aF q2 (.cells #[.bool n.leaf,.slice ae n.es.length ce,.slice ak n.ks.length ck,.slice (some ⟨r2,o2,none⟩) n.ss.length cz] 54)::aF q3 (.cells #[.string fr,.string tt] 75)::l)):=Sep.pb [_,_,_] (((Sep.pk [_,_,_] T1.out).dy 0 _).dy 1 _);clear hh T1 KK;go_wp2;generalize World.setCell _ _ _=u2 at*;clear x0 x1 g0 g1 y0 y1 y2 y3 z0 z1 Vt f2' k2;obtain⟨_,⟨z0,z1⟩,_⟩:=Sep.c2 (Sep.pk [_,_,_] SF.out);refine bodyPost_ret (v:=.agg #[.string fr,.string tt]) ?_ rfl ⟨by rw[HE.out],Sep.drop (Sep.gf (Sep.drop (Sep.gf (Sep.drop (Sep.gf SF.out)))))⟩;rw[N.bF rfl];go_simp
    ·rw[hh]at HE;rw[if_pos rfl]at HE;have SF:Hid (Sep B w0 (((w'.setCell ⟨q1,1,none⟩ (.string k9)).setCell ⟨q3,0,none⟩ (.string fr)).setCell ⟨q3,1,none⟩ (.string k9)) (Pl P::aF q1 (.cells #[.string fr,.string k9] 75)::aF q2 (.cells #[.bool n.leaf,.slice ae n.es.length ce,.slice ak n.ks.length ck,.slice (some ⟨r2,o2,none⟩) n.ss.length cz] 54)::aF q3 (.cells #[.string fr,.string k9] 75)::l)):=Sep.pb [_,_,_] (((Sep.pk [_,_,_] (Sep.Rc ((Sep.gf T1.out).dy 1 (.string k9)))).dy 0 _).dy 1 _);clear hh T1 KK;go_wp2;generalize World.setCell _ _ _=u2 at*;clear x0 x1 g0 g1 y0 y1 y2 y3 z0 z1 Vt f2' k2;obtain⟨_,⟨z0,z1⟩,_⟩:=Sep.c2 (Sep.pk [_,_,_] SF.out);refine bodyPost_ret (v:=.agg #[.string fr,.string k9]) ?_ rfl ⟨by rw[HE.out],Sep.drop (Sep.gf (Sep.drop (Sep.gf (Sep.drop (Sep.gf SF.out)))))⟩;rw[N.bF rfl];go_simp
   ·intro _ _;intros;assumption
  ·obtain⟨_,⟨x0,x1⟩,g0,g1⟩:=Sep.c2 (Sep.gf T0.out);obtain⟨_,⟨y0,y1,y2,y3⟩,_⟩:=Sep.c4 (Sep.pk [_,_] T0.out);obtain⟨_,⟨z0,z1⟩,f0,f2⟩:=Sep.c2 (Sep.pk [_,_,_] T0.out);have hd:decide ((ix:Int)< (n.ss.length:Int))=false:=by simp;omega
   have hd2:decide (ix<n.ss.length)=false:=by simp;omega
   have HE:Hid (gW n.ss ix tt=tt):=by show _=_;unfold gW;rw[if_neg fun h=>hl h.1]
   have SF:Hid (Sep B w0 ((u0.drew.setCell ⟨q3,0,none⟩ (.string fr)).setCell ⟨q3,1,none⟩ (.string tt)) (Pl P::aF q1 (.cells #[.string fr,.string tt] 75)::aF q2 (.cells #[.bool n.leaf,.slice ae n.es.length ce,.slice ak n.ks.length ck,.slice az n.ss.length cz] 54)::aF q3 (.cells #[.string fr,.string tt] 75)::l)):=Sep.pb [_,_,_] (((Sep.pk [_,_,_] T0.out).dy 0 _).dy 1 _);clear T0 hl
   go_region
   generalize u0.drew=u1 at*;go_wp2;generalize World.setCell _ _ _=u2 at*;clear x0 x1 g0 g1 y0 y1 y2 y3 z0 z1 f0 f2;obtain⟨_,⟨z0,z1⟩,_⟩:=Sep.c2 (Sep.pk [_,_,_] SF.out);refine bodyPost_ret (v:=.agg #[.string fr,.string tt]) ?_ rfl ⟨by rw[HE.out],Sep.drop (Sep.gf (Sep.drop (Sep.gf (Sep.drop (Sep.gf SF.out)))))⟩;rw[N.bF rfl];go_simp
end
end
section
open N (Nd nd0 cE cI dG je fT Sm dA jd En bh aT hidR ar aj Ch aM ah waits)
section
variable {B:Nat}{w0 w:World}{l:List aP}{P:List NV}{C:Cx}{x:TX}{d d1:Dk}
def Wx (B:Nat)(w0:World)(C:Cx)(x:TX)(d:Dk)(P:List NV)(V:aP)(l:List aP)(b:Bool)(er:Int)(e:Ending)(w':World):Prop:=
 e=.returned (.tuple #[.bool b,.int .i64 er])∧∃P' d',(∀y∈P,y∈P')∧bp d d'∧Sep B w0 w' (TL C x d' P' (V::l))
def Vu {σ:Type}(B:Nat)(w0:World)(C:Cx)(x:TX)(fy:Nat)(cy:Array Value)(st:σ->En->σ×Bool)(U:σ->aP)(m:σ->Nat)(Nm:Nat):Prop:=
 ∀(w:World) (d:Dk) (P:List NV) (l:List aP) (s:σ) (y:En),m (st s y).1<=Nm->Sep B w0 w (TL C x d P (U s::l))->
  Calls Tryz.prog fy (#[.agg #[.string y.1,.string y.2]]++cy) w fun e w'=>e=.returned (.bool (st s y).2)∧Sep B w0 w' (TL C x d P (U (st s y).1::l))
def JEY (B:Nat)(w0:World)(C:Cx)(x:TX)(d dc:Dk)(Pc:List NV)(U1 U2:aP)(l:List aP)(f10:Bool)(w:World):Prop:=
 (f10=false->Sep B w0 w (TL C x dc Pc (U1::l)))∧(f10=true->∃P' d',(∀y∈Pc,y∈P')∧bp d d'∧Sep B w0 w (TL C x d' P' (U2::l)))
def Yx (B:Nat)(w0:World)(CC:Cx)(x:TX)(d dc:Dk)(Pc:List NV)(U1 U2:aP)(l:List aP)(b1:Bool)(e1:Int)(q8 Ce Mr r ro Ty ck ii:Nat)(kid dp:Int)(fa ta fb tb:ByteArray)(cs:Array Value)(fy:Nat)(cy:Array Value){y1 y3 y5 y6 y7 y8 y9 tH oW y13 rS nL nM oY y22 y23 y24 y25 vP y27 y28 y29 vQ y31 y32 vR y34 tN tO vS y38 y39 yt vT vU vV Ay Az AA AB AD AE yu yv yw yx yz yA Eg Hq Hr Hs Ht Hu MH ML H0 H4 H5 H7 H8 Ia Ib Ic Ie Ig Ih Ii Mu Mv Mw y93 Eh y95 y96 Ri y98 y99:Value}(C:List Bool->Act->Prop)(w:World):Prop:=∀{f0 f1 f2 f3 f4 f5 f6 f7 f8 f9 f10 f11 f12 f13 f14 f15:Bool}{x20 jU AG x80 x81 x82 x83 x84 x85 x86 x87 x88 x89 x90 x91 Wy:Value},f15=false->JEY B w0 CC x d dc Pc U1 U2 (aF q8 (.cells #[.string fb,.string tb] 75)::aF Ce (.cells cs 54)::aF Mr (.cells #[.string fa,.string ta] 75)::l) f10 w->Hid (f0=true->x80=ptr CC.tq)->Hid (f1=true->x81=.pointer (some ⟨Ce,2,none⟩))->Hid (f2=true->x82=.slice (some ⟨r,ro,none⟩) Ty ck)->Hid (f3=true->x83=.int .i64 (ii:Int))->Hid (f4=true->f2=true∧x84=.pointer (some ⟨r,ro+ii,none⟩))->Hid (f5=true->f4=true∧x85=.int .i64 kid)->Hid (f6=true->x86=.int .i64 dp)->Hid (f7=true->x87=.int .i64 (dp+1))->Hid (f8=true->x88=.agg #[.string fa,.string ta])->Hid (f9=true->x89=.func (.func fy) #[] cy)->Hid (f10=true->f2=true∧f5=true∧f8=true∧x90=.tuple #[.bool b1,.int .i64 e1])->Hid (f11=true->f10=true∧AG=.tuple #[.bool b1,.int .i64 e1])->Hid (f12=true->f10=true∧x91=.bool b1)->Hid (f13=true->f10=true∧Wy=.int .i64 e1)->Hid (f14=true->f10=true∧x20=.bool b1)->C [f0,f1,f2,f3,f4,f5,f6,f7,f8,f9,f10,f11,f12,f13,f14,f15] {tmps:=#[ptr CC.tq,y1,.int .i64 dp,y3,.func (.func fy) #[] cy,y5,y6,y7,y8,y9,tH,oW,.pointer (some ⟨Ce,0,none⟩),y13,rS,nL,nM,oY,.int .i64 (ii:Int),.pointer (some ⟨Mr,0,none⟩),x20,jU,y22,y23,y24,y25,vP,y27,y28,y29,vQ,y31,y32,vR,y34,tN,tO,vS,y38,y39,yt,vT,vU,vV,Ay,Az,AA,AB,AD,AE,yu,yv,yw,yx,yz,yA,Eg,Hq,Hr,Hs,Ht,Hu,MH,ML,H0,H4,H5,H7,H8,Ia,Ib,Ic,Ie,Ig,Ih,Ii,Mu,Mv,Mw,AG,x80,x81,x82,x83,x84,x85,x86,x87,x88,x89,x90,x91,Wy,y93,Eh,y95,y96,Ri,y98,y99],defers:=[]}
theorem Vv {σ:Type}{st:σ->En->σ×Bool}{m:σ->Nat}{Nm:Nat}{U:σ->aP}{fy:Nat}{cy:Array Value}(T:cd B w0)(hr:d.room<=16384)(ok:x.Ok d.room)(hz:x.Sz)(EY:∀args w,(callFunc fy args).run Tryz.prog w=.ok (.enter fy args) w)(hu:Vu B w0 C x fy cy st U m Nm)(hm:∀s e,m s<=m (st s e).1):
  ∀(f:Nat) (w:World) (d1:Dk) (P:List NV) (l:List aP) (s s':σ) (id depth:Int) (fr tt:ByteArray) (b:Bool) (er:Int),Wf id->0<=depth->bp d d1->fI x d st f s id depth fr tt=some (s',(b,er))->m s'<=Nm->Sep B w0 w (TL C x d1 P (U s::l))->
  Calls Tryz.prog 54 #[ptr C.tq,.int .i64 id,.int .i64 depth,.agg #[.string fr,.string tt],.func (.func fy) #[] cy] w (Wx B w0 C x d P (U s') l b er):=by
 intro f
 induction f with
 |zero=>intro w d1 P l s s' id depth fr tt b er _ _ _ he;cases he
 |succ f ih=>
 intro w d1 P l s s' id depth fr tt b er hw hd0 hd he hN h;have HU:Hid (Vu B w0 C x fy cy st U m Nm):=hu;have HM:Hid (∀s e,m s<=m (st s e).1):=hm;have HN:Hid (m s'<=Nm):=hN;have HD:Hid (bp d d1):=hd;have IH:Hid (∀(w:World) (d1:Dk) (P:List NV) (l:List aP) (s s':σ) (id depth:Int) (fr tt:ByteArray) (b:Bool) (er:Int),Wf id->0<=depth->bp d d1->fI x d st f s id depth fr tt=some (s',(b,er))->m s'<=Nm->Sep B w0 w (TL C x d1 P (U s::l))->Calls Tryz.prog 54 #[ptr C.tq,.int .i64 id,.int .i64 depth,.agg #[.string fr,.string tt],.func (.func fy) #[] cy] w (Wx B w0 C x d P (U s') l b er)):=ih;have S1:Hid (Sep B w0 (w.alloc (.cells #[.string fr,.string tt] 75)) _):=Sep.rX (h.aN _);have KR:Hid (∀u L,Sep B w0 u (TL C x d1 P L)->Calls Tryz.prog 58 #[ptr C.tq,.int .i64 id,.int .i64 depth] u (GN B w0 C x d1 P L 2 (dJ x d id depth).1 (dJ x d id depth).2)):=fun u L hu=>by
  have:=rY (id:=id) (depth:=depth) T hu hw (by rw[hd.room];exact ok) (by rw[hd.room];exact hr) hz
  rwa [hd.dJ]at this
 have HD0:Hid (0<=depth):=hd0;rw[fI]at he;clear h hu hm hN hd ih hw hd0 T hr ok hz;generalize dJ x d id depth=rr at*;obtain⟨n0,e0⟩:=rr;simp only at KR he;have HE:Hid (_=some (s',(b,er))):=he;clear he;go_enter Tryz.func54,Tryz.ntmps54
 go_wp2_with fail
 generalize World.alloc _ _=v1 at*;generalize w.heap.size=q8 at*;refine Calls.mono (KR.out _ _ S1.out) ?_;rintro e v2 ⟨p,d2,hn0,rfl,hd2,s2⟩;subst hn0;unfold NV.v;have D2:Hid (bp d d2):=HD.out.trans ⟨_,hd2⟩;have S2:Hid (Sep B w0 (v2.alloc (.cells #[.bool p.n.leaf,.slice p.ae p.n.es.length p.ce,.slice p.ak p.n.ks.length p.ck,.slice p.az p.n.ss.length p.cz] 54)) (TL C x d2 (p::P) (U s::aF q8 (.cells #[.string fr,.string tt] 75)::aF v2.heap.size (.cells #[.bool p.n.leaf,.slice p.ae p.n.es.length p.ce,.slice p.ak p.n.ks.length p.ck,.slice p.az p.n.ss.length p.cz] 54)::l))):=Sep.nQ (Sep.aU s2 _ _ rfl);clear KR hd2 s2 S1 HD;by_cases E8:e0≠0
 ·have hE:=HE.out;rw[if_pos E8]at hE;obtain⟨ha,hb,hc⟩:s=s'∧false=b∧e0=er:=by
   cases hE;exact⟨rfl,rfl,rfl⟩
  subst ha hb hc;have hne:(e0 != 0)=true:=bne_iff_ne.2 E8;clear hE E8 HE;go_wp2;go_ret2;exact⟨rfl,p::P,d2,fun y hy=>List.mem_cons_of_mem _ hy,D2.out,Sep.drop (Sep.dI (Sep.drop (Sep.dI (S2.out))))⟩
 ·have hE:=HE.out;rw[if_neg E8]at hE;have ez:e0=0:=Classical.not_not.1 E8;subst ez;by_cases hg:(bZ p.n&&cI p.n)=false∨1000<depth
  ·rw[if_pos hg]at hE;cases hE
  rw[if_neg hg]at hE;have hg2:bZ p.n=true∧cI p.n=true∧depth<=1000:=by
   refine⟨?_,?_,by omega⟩
   ·cases hx:bZ p.n
    ·exact absurd (.inl (by rw[hx];rfl)) hg
    ·rfl
   ·cases hx:cI p.n
    ·exact absurd (.inl (by rw[hx,Bool.and_false])) hg
    ·rfl
  obtain⟨hsm,hrt,hdp⟩:=hg2;obtain⟨jA,JS,Ot,_,hwk⟩:=dT hsm;have hrg:N.Rg p.n.es:=by
   cases hl:p.n.leaf with
   |true=>exact((N.fE hl).1 hrt).2.2
   |false=>rw[((N.ft hl).1 hrt).1];exact⟨List.Pairwise.nil,fun _ h=>by cases h⟩
  have E9:Hid (N.Rg p.n.es):=hrg;have zK:Hid (Sm p.n∧∀k∈p.n.ks,Wf k):=⟨jA,hwk⟩;have Bf:Hid (p.n.es.length<=500∧p.n.ks.length<=500∧0<=depth∧depth<=1000):=⟨Ot,JS,HD0.out,hdp⟩;clear HE E8 hg hsm hrt hdp jA JS Ot hwk hrg HD0;have Fs:Hid (_=some (s',(b,er))):=hE;clear hE
  go_upto_region 4 with fail
  generalize World.alloc _ _=v3 at*;generalize v2.heap.size=Ce at*;obtain⟨ae,ce,ak,ck,az,cz,n⟩:=p;simp only at*;have JT:Hid ((⟨ae,ce,ak,ck,az,cz,n⟩:NV)∈(⟨ae,ce,ak,ck,az,cz,n⟩:NV)::P∧∀y∈P,y∈(⟨ae,ce,ak,ck,az,cz,n⟩:NV)::P):=⟨List.mem_cons_self ..,fun y hy=>List.mem_cons_of_mem _ hy⟩;generalize Yy:(⟨ae,ce,ak,ck,az,cz,n⟩:NV)::P=PP at*;clear Yy;have KF:Hid _:=N.mq (.slice ae n.es.length ce) n.es fr v3 (Sep.pool (Sep.td S2.out) _ JT.out.1).e (by have:=Bf.out;omega);obtain⟨_,⟨x0,x1⟩,_⟩:=Sep.c2 (Sep.dI (S2.out));obtain⟨_,⟨y0,y1,y2,y3⟩,_⟩:=Sep.c4 (Sep.cU (S2.out))
  go_wp2_with fail
  refine Calls.mono KF.out ?_;rintro e v4 ⟨i0,ff,rfl,hf,b4⟩;have hi1:=(hf.2.2 E9.out).1;have hi2:=hf.1;have S4:Hid _:=S2.out.below b4;clear S2 b4 x0 x1 y0 y1 y2 y3 KF hf E9;rw[<-hi1]at Fs;clear hi1;have RS:Hid (∀u,(Instr.slice 32 (.slice ae n.es.length ce) (some (.int .i64 (i0:Int))) none none).run Tryz.prog u=.ok (.slice (if ce=i0 then ae else ae.map (·.add (i0*2))) (n.es.length-i0) (ce-i0)) u):=fun u=>N.vB ae n.es.length ce i0 hi2 u;have RR:Hid (∀u L,Sep B w0 u (TL C x d2 PP L)->N.Row N.aG 2 u (.slice (if ce=i0 then ae else ae.map (·.add (i0*2))) (n.es.length-i0) (ce-i0)) (n.es.drop i0)):=fun u L hu=>N.Row.suf (Sep.pool (Sep.td hu) _ JT.out.1).e i0 hi2;rw[show n.es.length-i0=(n.es.drop i0).length by rw[List.length_drop]]at RS RR;have hLl:(n.es.drop i0).length<=500:=by rw[List.length_drop];have:=Bf.out;omega
  generalize n.es.drop i0=L at*;generalize(if ce=i0 then ae else ae.map (·.add (i0*2)))=aS at*;generalize ce-i0=cS at*;have HL5:Hid (L.length<=500):=hLl;have Yz:(i0:Int)<=(n.es.length:Int):=by omega
  clear hLl hi2;obtain⟨_,⟨y0,y1,y2,y3⟩,_⟩:=Sep.c4 (Sep.cU (S4.out));have RSv:=RS.out v4;go_wp2;clear y0 y1 y2 y3 RSv RS Yz
  go_loopg [45] L.length (fun kx s45 wr=>∃(j:Nat) (sj:σ),s45=.int .i64 (j:Int)∧j<=L.length∧L.length-j<=kx∧Hid (wQ st tt L s=wQ st tt (L.drop j) sj)∧Hid (Sep B w0 wr (TL C x d2 PP (U sj::aF q8 (.cells #[.string fr,.string tt] 75)::aF Ce (.cells #[.bool n.leaf,.slice ae n.es.length ce,.slice ak n.ks.length ck,.slice az n.ss.length cz] 54)::l))))
  case atStart=>exact⟨0,s,rfl,Nat.zero_le _,Nat.le_refl _,(by show _=_;rw[List.drop_zero]),S4.out⟩
  case round=>
   clear S4;obtain⟨j,sj,rfl,hj,Pw,HJ,HS⟩:=hrel;by_cases hlt:j<L.length
   ·have o0:(j:Int)< (L.length:Int):=by omega
    obtain⟨cW,cap',e',_,_,h3⟩:=RR.out _ _ HS.out;obtain⟨rb,Wz,hae,hrb,z0,z1⟩:=N.cC h3 j hlt (Below.refl _ _);have e2:aS=cW:=by injection e'
    subst hae;subst e2;have hJ:=HJ.out;rw[N.gJ hlt,wQ]at hJ;have NT:IntKind.i64.wrap ((j:Int)+1)=((j+1:Nat):Int):=by rw[bf (by omega) (by have:=HL5.out;omega)];rfl
    have HB1:Hid (m (wQ st tt L s).1<=Nm):=by
     have h1:=Fs.out;show _<=_;refine Nat.le_trans ?_ HN.out;split at h1
     ·cases h1;exact Nat.le_refl _
     ·exact kG (fun s k f' t s' r hh=>oh HM.out x d f s k (depth+1) f' t s' r hh) _ _ _ _ _ _ _ _ h1
    generalize ky:L[j]! =y at*;clear ky h3 e' HJ;have S5:Hid (Sep B w0 (wr.alloc (.cells #[.string y.1,.string y.2] 38)) _):=Sep.xe (HS.out.aN _);have HJ2:Hid (_=_):=hJ;clear hJ HS
    go_upto_region 8 with fail
    clear z0 z1 hrb;generalize World.alloc _ _=v5 at*;generalize wr.heap.size=q17 at*;obtain⟨_,⟨x0,x1⟩,_⟩:=Sep.c2 (Sep.dI (S5.out));obtain⟨_,⟨z0,z1⟩,_⟩:=Sep.c2 (Sep.dU (S5.out))
    go_wp2_with fail
    refine Calls.mono (qo S5.out) ?_;rintro e v6 ⟨rfl,s6⟩;have S6:Hid _:=s6;clear x0 x1 z0 z1 s6 S5;by_cases hh:bH tt y.1=false
    ·have hJ:=HJ2.out;rw[if_pos hh]at hJ;have h1:=Fs.out;rw[hJ]at h1;obtain⟨ha,hb,hc⟩:sj=s'∧true=b∧0=er:=by
      cases h1;exact⟨rfl,rfl,rfl⟩
     subst ha hb hc;clear hJ h1 Fs HJ2 HB1;rw[hh];go_wp2;go_ret2;exact⟨rfl,PP,d2,JT.out.2,D2.out,Sep.drop (Sep.dI (Sep.drop (Sep.dI (Sep.drop (Sep.dI (S6.out))))))⟩
    ·have Vw:bH tt y.1=true:=by simpa using hh
     have hJ:=HJ2.out;rw[if_neg hh]at hJ;have hbd:m (st sj y).1<=Nm:=by
      have h1:=HB1.out;rw[hJ]at h1;refine Nat.le_trans ?_ h1;split
      ·exact Nat.le_refl _
      ·exact ql HM.out tt _ _
     have KU:Hid _:=HU.out v6 d2 PP _ sj y hbd S6.out;obtain⟨_,⟨z0,z1⟩,_⟩:=Sep.c2 (Sep.dU (S6.out));have Vx:Hid (_=_):=hJ;clear hJ HJ2 HB1 hbd S6 hh;rw[Vw];clear Vw;generalize st sj y=sy at*;obtain⟨s2,b2⟩:=sy;simp only at KU Vx
     go_wp2_with fail
     refine Calls.mono KU.out ?_;rintro e v7 ⟨rfl,s7⟩;have S7:Hid _:=s7;clear z0 z1 s7 KU;cases b2 with
     |false=>
      have hJ:=Vx.out;rw[if_pos rfl]at hJ;have h1:=Fs.out;rw[hJ]at h1;obtain⟨ha,hb,hc⟩:s2=s'∧false=b∧0=er:=by
       cases h1;exact⟨rfl,rfl,rfl⟩
      subst ha hb hc;clear hJ h1 Fs Vx;go_wp2;go_ret2;exact⟨rfl,PP,d2,JT.out.2,D2.out,Sep.drop (Sep.dI (Sep.drop (Sep.dI (Sep.drop (Sep.dI (S7.out))))))⟩
     |true=>
      have hJ:=Vx.out;rw[if_neg (by simp)]at hJ;have HJ4:Hid (wQ st tt L s=wQ st tt (L.drop (j+1)) s2):=hJ;clear hJ Vx;go_wp2
      go_roundg (L.length- (j+1))
      case measure=>omega
      case rel=>exact⟨j+1,s2,by go_num,by omega,Nat.le_refl _,HJ4.out,Sep.nQ (Sep.rX (Sep.dI (Sep.cU (Sep.drop (Sep.dU (S7.out))))))⟩
   ·have o0:¬(j:Int)< (L.length:Int):=by omega
    obtain rfl:j=L.length:=by omega
    have hJ:=HJ.out;rw[List.drop_length,wQ]at hJ;have hE:=Fs.out;rw[hJ]at hE;have HE2:Hid (jb (fun s id fr tt=>fI x d st f s id (depth+1) fr tt) n fr tt (n.ks.length-dA n.ss fr) (dA n.ss fr) sj=some (s',(b,er))):=hE;have KC:Hid _:=N.nO n fr (.slice ae n.es.length ce) (.slice ak n.ks.length ck) (.slice az n.ss.length cz) wr (Sep.pool (Sep.td HS.out) _ JT.out.1) zK.out.1;obtain⟨_,⟨x0,x1⟩,_⟩:=Sep.c2 (Sep.dI (HS.out));obtain⟨_,⟨y0,y1,y2,y3⟩,_⟩:=Sep.c4 (Sep.cU (HS.out));clear hJ hE HJ Fs RR;generalize dA n.ss fr=c0 at*
    go_wp2_with fail
    refine Calls.mono KC.out ?_;rintro e v8 ⟨rfl,b8⟩;have S8:Hid _:=HS.out.below b8;clear KC b8 HS x0 x1 y0 y1 y2 y3;go_wp2
    go_loopg [18] n.ks.length (fun kx WZ wr=>∃(ii:Nat) (si:σ) (Pc:List NV) (dc:Dk),WZ=.int .i64 (ii:Int)∧n.ks.length-ii<=kx∧Hid (jb (fun s id fr tt=>fI x d st f s id (depth+1) fr tt) n fr tt (n.ks.length-ii) ii si=some (s',(b,er)))∧Hid ((⟨ae,ce,ak,ck,az,cz,n⟩:NV)∈Pc∧∀y∈P,y∈Pc)∧Hid (bp d dc)∧Hid (Sep B w0 wr (TL C x dc Pc (U si::aF q8 (.cells #[.string fr,.string tt] 75)::aF Ce (.cells #[.bool n.leaf,.slice ae n.es.length ce,.slice ak n.ks.length ck,.slice az n.ss.length cz] 54)::l))))
    case atStart=>exact⟨c0,sj,PP,d2,rfl,by omega,HE2.out,JT.out,D2.out,S8.out⟩
    case round=>
     clear S8 HE2 D2 JT;obtain⟨ii,si,Pc,dc,rfl,hix,HE2,oJ,HD,HS⟩:=hrel;by_cases hlt:ii<n.ks.length
     ·have o0:(ii:Int)< (n.ks.length:Int):=by omega
      obtain⟨g,UY⟩:∃g,n.ks.length-ii=g+1:=⟨n.ks.length-ii-1,by omega⟩;have hE:=HE2.out;rw[UY,jb]at hE;by_cases hss:n.ss.length<ii
      ·rw[if_pos hss]at hE;cases hE
      rw[if_neg hss]at hE;have KP:Hid _:=JQ (fr:=fr) (tt:=tt) (ix:=ii) (Sep.td HS.out) oJ.out.1 (by simp only;omega) (by have:=zK.out.1.s;omega);obtain⟨r,ro,hak,_,_⟩:=NV.kid (p:=⟨ae,ce,ak,ck,az,cz,n⟩) (Sep.pool (Sep.td HS.out) _ oJ.out.1) (i:=ii) hlt;simp only at hak;subst hak;have Vn:Hid (Wf (n.ks.getD ii 0)):=by
       refine zK.out.2 _ ?_;rw[List.getD_eq_getElem?_getD,List.getElem?_eq_getElem hlt];exact List.getElem_mem _
      have Vy:Hid (ii<n.ks.length):=hlt;have HG:Hid (n.ks.length-ii=g+1):=UY;generalize j5 n.ss ii fr=fa at*;generalize gW n.ss ii tt=ta at*;obtain⟨_,⟨x0,x1⟩,_⟩:=Sep.c2 (Sep.dI (HS.out));obtain⟨_,⟨y0,y1,y2,y3⟩,_⟩:=Sep.c4 (Sep.cU (HS.out));have yS:Hid (_=some (s',(b,er))):=hE;clear hE HE2 hss UY hlt HS;simp only at KP
      go_wp2_with fail
      clear x0 x1 y0 y1 y2 y3;refine Calls.mono KP.out ?_;rintro e v8 ⟨rfl,s8⟩;have S8:Hid (Sep B w0 (v8.alloc (.cells #[.string fa,.string ta] 75)) (TL C x dc Pc (U si::aF q8 (.cells #[.string fr,.string tt] 75)::aF Ce (.cells #[.bool n.leaf,.slice ae n.es.length ce,.slice (some ⟨r,ro,none⟩) n.ks.length ck,.slice az n.ss.length cz] 54)::aF v8.heap.size (.cells #[.string fa,.string ta] 75)::l))):=Sep.xe (Sep.aU (Sep.XJ s8) _ _ rfl);clear s8 KP
      go_upto_region 17 with fail
      generalize World.alloc _ _=v9 at*;generalize v8.heap.size=Mr at*;obtain⟨_,⟨x0,x1⟩,_⟩:=Sep.c2 (Sep.dU (S8.out))
      go_wp2_with fail
      refine Calls.mono (qo S8.out) ?_;rintro e v10 ⟨rfl,s9⟩;have S9:Hid _:=s9;clear x0 x1 s9 S8;by_cases hh:bH ta fa=false
      ·have hE:=yS.out;rw[if_pos hh]at hE;obtain⟨ha,hb,hc⟩:si=s'∧true=b∧0=er:=by
        cases hE;exact⟨rfl,rfl,rfl⟩
       subst ha hb hc;clear hE yS;rw[hh];go_wp2;go_ret2;exact⟨rfl,Pc,dc,oJ.out.2,HD.out,Sep.drop (Sep.dI (Sep.drop (Sep.dI (Sep.drop (Sep.dI (S9.out))))))⟩
      ·have Vw:bH ta fa=true:=by simpa using hh
       have hE:=yS.out;rw[if_neg hh]at hE;clear yS hh;rw[Vw];clear Vw;have MX:Hid _:=oJ.out.1;generalize wA:n.ks.getD ii 0=kid at*;have Ys:Hid (n.ks.getD ii 0=kid):=wA;have HWD:Hid (IntKind.i64.wrap (depth+1)=depth+1):=bf (by have:=Bf.out;omega) (by have:=Bf.out;omega);cases hrec:fI x d st f si kid (depth+1) fa ta with
       |none=>rw[hrec]at hE;cases hE
       |some rs=>
        obtain⟨s1,b1,e1⟩:=rs;rw[hrec]at hE;simp only at hE;have hb1:m s1<=Nm:=by
         refine Nat.le_trans ?_ HN.out;split at hE
         ·cases hE;exact Nat.le_refl _
         ·exact kG (fun s k f' t s' r hh=>oh HM.out x d f s k (depth+1) f' t s' r hh) _ _ _ _ _ _ _ _ hE
        have KI:Hid (∀u,Sep B w0 u (TL C x dc Pc (U si::aF q8 (.cells #[.string fr,.string tt] 75)::aF Ce (.cells #[.bool n.leaf,.slice ae n.es.length ce,.slice (some ⟨r,ro,none⟩) n.ks.length ck,.slice az n.ss.length cz] 54)::aF Mr (.cells #[.string fa,.string ta] 75)::l))->Calls Tryz.prog 54 #[ptr C.tq,.int .i64 kid,.int .i64 (depth+1),.agg #[.string fa,.string ta],.func (.func fy) #[] cy] u (Wx B w0 C x d Pc (U s1) (aF q8 (.cells #[.string fr,.string tt] 75)::aF Ce (.cells #[.bool n.leaf,.slice ae n.es.length ce,.slice (some ⟨r,ro,none⟩) n.ks.length ck,.slice az n.ss.length cz] 54)::aF Mr (.cells #[.string fa,.string ta] 75)::l) b1 e1)):=fun u hu=>IH.out u dc Pc _ si s1 kid (depth+1) fa ta b1 e1 Vn.out (by have:=Bf.out;omega) HD.out hrec hb1 hu;have yS:Hid (_=some (s',(b,er))):=hE;clear hE hrec hb1 wA
        go_wp2_with fail
        refine aT 15 (Yx B w0 C x d dc Pc (U si) (U s1) l b1 e1 q8 Ce Mr r ro n.ks.length ck ii kid depth fa ta fr tt #[.bool n.leaf,.slice ae n.es.length ce,.slice (some ⟨r,ro,none⟩) n.ks.length ck,.slice az n.ss.length cz] fy cy) (by kernel_rfl) (by kernel_rfl) (by kernel_rfl) (fun _ k=>k rfl ⟨fun _=>Sep.drew S9.out,(fun h=>by cases h)⟩ ar ar ar ar ar ar ar ar ar ar ar ar ar ar ar) ?_ ?_ ?_
        ·intro i w' hne f0 f1 f2 f3 f4 f5 f6 f7 f8 f9 f10 f11 f12 f13 f14 f15 x20 jU AG x80 x81 x82 x83 x84 x85 x86 x87 x88 x89 x90 x91 Wy e15 hB h0 h1 h2 h3 h4 h5 h6 h7 h8 h9 h10 h11 h12 dH fw hi;obtain⟨hlt,hun,_⟩:=aM hi;have hlt':i<16:=hlt;clear hlt;rcases(by omega:i=0∨i=1∨i=2∨i=3∨i=4∨i=5∨i=6∨i=7∨i=8∨i=9∨i=10∨i=11∨i=12∨i=13∨i=14)with rfl|rfl|rfl|rfl|rfl|rfl|rfl|rfl|rfl|rfl|rfl|rfl|rfl|rfl|rfl
         ·refine aj rfl fun K HK=>?_;go_simp;exact HK.out _ _ fun _ k=>by apply k<;>first|assumption|exact hidR|(repeat' first|apply Exists.intro|assumption|rfl|apply And.intro|exact fun _=>rfl)
         ·refine aj rfl fun K HK=>?_;go_simp;exact HK.out _ _ fun _ k=>by apply k<;>first|assumption|exact hidR|(repeat' first|apply Exists.intro|assumption|rfl|apply And.intro|exact fun _=>rfl)
         ·have un:f2=false:=hun;cases h1 (ah 1 hi (by kernel_rfl));have n10:f10=false:=by
           cases hf:f10
           ·rfl
           ·exact absurd (h10.out hf).1 (by rw[un];simp)
          obtain⟨_,⟨y0,y1,y2,y3⟩,_⟩:=Sep.c4 (Sep.cU (hB.1 n10));refine aj rfl fun K HK=>?_;go_simp;exact HK.out _ _ fun _ k=>k e15 hB h0 h1 hidR h3 (fun d=>by have e:=(h4.out d).1;rw[un]at e;cases e) h5 h6 h7 h8 h9 (fun d=>by have e:=(h10.out d).1;rw[un]at e;cases e) h11 h12 dH fw
         ·refine aj rfl fun K HK=>?_;go_simp;exact HK.out _ _ fun _ k=>by apply k<;>first|assumption|exact hidR|(repeat' first|apply Exists.intro|assumption|rfl|apply And.intro|exact fun _=>rfl)
         ·have un:f4=false:=hun;have d2:f2=true:=ah 2 hi (by kernel_rfl);cases h2 d2;cases h3 (ah 3 hi (by kernel_rfl));have hil:(ii:Int)< (n.ks.length:Int):=by have:=Vy.out;omega
          refine aj rfl fun K HK=>?_;go_simp;exact HK.out _ _ fun _ k=>k e15 hB h0 h1 h2 h3 (fun _=>⟨d2,rfl⟩) (fun d=>by have e:=(h5.out d).1;rw[un]at e;cases e) h6 h7 h8 h9 h10 h11 h12 dH fw
         ·have un:f5=false:=hun;have d4:f4=true:=ah 4 hi (by kernel_rfl);obtain⟨_,rfl⟩:=h4.out d4;have n10:f10=false:=by
           cases hf:f10
           ·rfl
           ·exact absurd (h10.out hf).2.1 (by rw[un];simp)
          obtain⟨z1,z2,hz3,hzs,hzc⟩:=NV.kid (p:=(⟨ae,ce,some ⟨r,ro,none⟩,ck,az,cz,n⟩:NV)) (Sep.pool (Sep.td (hB.1 n10)) _ MX.out) (i:=ii) Vy.out;cases hz3;simp only at hzc;rw[Ys.out]at hzc;refine aj rfl fun K HK=>?_;go_simp;exact HK.out _ _ fun _ k=>k e15 hB h0 h1 h2 h3 h4 (fun _=>⟨d4,rfl⟩) h6 h7 h8 h9 (fun d=>by have e:=(h10.out d).2.1;rw[un]at e;cases e) h11 h12 dH fw
         ·refine aj rfl fun K HK=>?_;go_simp;exact HK.out _ _ fun _ k=>by apply k<;>first|assumption|exact hidR|(repeat' first|apply Exists.intro|assumption|rfl|apply And.intro|exact fun _=>rfl)
         ·cases h6 (ah 6 hi (by kernel_rfl));have wd:=HWD.out;refine aj rfl fun K HK=>?_;go_simp;exact HK.out _ _ fun _ k=>by apply k<;>first|assumption|exact hidR|(repeat' first|apply Exists.intro|assumption|rfl|apply And.intro|exact fun _=>rfl)
         ·have un:f8=false:=hun;have n10:f10=false:=by
           cases hf:f10
           ·rfl
           ·exact absurd (h10.out hf).2.2.1 (by rw[un];simp)
          obtain⟨_,⟨y0,y1⟩,_⟩:=Sep.c2 (Sep.dU (hB.1 n10));refine aj rfl fun K HK=>?_;go_simp;exact HK.out _ _ fun _ k=>k e15 hB h0 h1 h2 h3 h4 h5 h6 h7 hidR h9 (fun d=>by have e:=(h10.out d).2.2.1;rw[un]at e;cases e) h11 h12 dH fw
         ·refine aj rfl fun K HK=>?_;go_simp;exact HK.out _ _ fun _ k=>by apply k<;>first|assumption|exact hidR|(repeat' first|apply Exists.intro|assumption|rfl|apply And.intro|exact fun _=>rfl)
         ·have un:f10=false:=hun;cases h0 (ah 0 hi (by kernel_rfl));have d5:f5=true:=ah 5 hi (by kernel_rfl);obtain⟨_,rfl⟩:=h5.out d5;cases h7 (ah 7 hi (by kernel_rfl));have d8:f8=true:=ah 8 hi (by kernel_rfl);cases h8 d8;cases h9 (ah 9 hi (by kernel_rfl));refine aj rfl fun K HK=>?_;go_simp;refine Calls.mono (KI.out _ (hB.1 un)) ?_;rintro e u4 ⟨rfl,s4⟩;exact HK.out _ _ fun _ k=>k e15 ⟨(fun h=>by cases h),fun _=>s4⟩ h0 h1 h2 h3 h4 h5 h6 h7 h8 h9 (fun _=>⟨(h4.out (h5.out d5).1).1,d5,d8,rfl⟩) (fun d=>by have e:=(h11.out d).1;rw[un]at e;cases e) (fun d=>by have e:=(h12.out d).1;rw[un]at e;cases e) (fun d=>by have e:=(dH.out d).1;rw[un]at e;cases e) (fun d=>by have e:=(fw.out d).1;rw[un]at e;cases e)
         ·have d10:f10=true:=ah 10 hi (by kernel_rfl);obtain⟨u2,u5,u8,rfl⟩:=h10.out d10;refine aj rfl fun K HK=>?_;go_simp;exact HK.out _ _ fun _ k=>k e15 hB h0 h1 h2 h3 h4 h5 h6 h7 h8 h9 h10 (fun _=>⟨d10,rfl⟩) h12 dH fw
         ·have d11:f11=true:=ah 11 hi (by kernel_rfl);obtain⟨_,rfl⟩:=h11.out d11;have d10:f10=true:=(h11.out d11).1;refine aj rfl fun K HK=>?_;go_simp;exact HK.out _ _ fun _ k=>k e15 hB h0 h1 h2 h3 h4 h5 h6 h7 h8 h9 h10 h11 (fun _=>⟨d10,rfl⟩) dH fw
         ·have d11:f11=true:=ah 11 hi (by kernel_rfl);obtain⟨_,rfl⟩:=h11.out d11;have d10:f10=true:=(h11.out d11).1;refine aj rfl fun K HK=>?_;go_simp;exact HK.out _ _ fun _ k=>k e15 hB h0 h1 h2 h3 h4 h5 h6 h7 h8 h9 h10 h11 h12 (fun _=>⟨d10,rfl⟩) fw
         ·have d12:f12=true:=ah 12 hi (by kernel_rfl);obtain⟨_,rfl⟩:=h12.out d12;have d10:f10=true:=(h12.out d12).1;refine aj rfl fun K HK=>?_;go_simp;exact HK.out _ _ fun _ k=>k e15 hB h0 h1 h2 h3 h4 h5 h6 h7 h8 h9 h10 h11 h12 dH (fun _=>⟨d10,rfl⟩)
        ·intro w' f0 f1 f2 f3 f4 f5 f6 f7 f8 f9 f10 f11 f12 f13 f14 f15 x20 jU AG x80 x81 x82 x83 x84 x85 x86 x87 x88 x89 x90 x91 Wy e15 hB h0 h1 h2 h3 h4 h5 h6 h7 h8 h9 h10 h11 h12 dH fw hi;have d13:f13=true:=ah 13 hi (by kernel_rfl);obtain⟨_,rfl⟩:=dH.out d13;have d14:f14=true:=ah 14 hi (by kernel_rfl);obtain⟨_,rfl⟩:=fw.out d14;clear hi;have u10:=(dH.out d13).1;refine aj rfl fun K HK=>?_;go_simp;refine HK.out _ _ ?_;obtain⟨P1,d3,hp1,hd3,s9⟩:=hB.2 u10;have Fo:Hid _:=Sep.drop (Sep.dU (s9));have D3:Hid (bp d d3):=hd3;have M3:Hid ((⟨ae,ce,some ⟨r,ro,none⟩,ck,az,cz,n⟩:NV)∈P1∧∀y∈P,y∈P1):=⟨hp1 _ oJ.out.1,fun y hy=>hp1 _ (oJ.out.2 y hy)⟩;clear s9 hp1 hd3 h0 h1 h2 h3 h4 h5 h6 h7 h8 h9 h10 h11 h12 dH fw hB u10;have wi:IntKind.i64.wrap ((ii:Int)+1)=((ii+1:Nat):Int):=by rw[bf (by have:=Vy.out;have:=Bf.out;omega) (by have:=Vy.out;have:=Bf.out;omega)];rfl
         by_cases hq:e1≠0∨b1=false
         ·have hE:=yS.out;rw[if_pos hq]at hE;obtain⟨ha,hb,hc⟩:s1=s'∧false=b∧e1=er:=by
           cases hE;exact⟨rfl,rfl,rfl⟩
          subst ha hb hc;clear hE yS;rcases Classical.em (e1=0)with h00|h00
          ·obtain rfl:b1=false:=by
            rcases hq with h|h
            ·exact absurd h00 h
            ·exact h
           subst h00;go_wp2;go_ret2;exact⟨rfl,P1,d3,M3.out.2,D3.out,Sep.drop (Sep.dI (Sep.drop (Sep.dI (Fo.out))))⟩
          ·have hne:(e1 != 0)=true:=bne_iff_ne.2 h00;go_wp2;go_ret2;exact⟨rfl,P1,d3,M3.out.2,D3.out,Sep.drop (Sep.dI (Sep.drop (Sep.dI (Fo.out))))⟩
         ·have hE:=yS.out;rw[if_neg hq]at hE;obtain⟨rfl,rfl⟩:e1=0∧b1=true:=by
           refine⟨?_,?_⟩
           ·rcases Classical.em (e1=0)with h|h
            ·exact h
            ·exact absurd (.inl h) hq
           ·cases hb1:b1
            ·exact absurd (.inr hb1) hq
            ·rfl
          have YA:Hid (jb (fun s id fr tt=>fI x d st f s id (depth+1) fr tt) n fr tt g (ii+1) s1=some (s',(b,er))):=hE;clear hE yS hq;go_wp2
          go_roundg (n.ks.length- (ii+1))
          case measure=>have:=Vy.out;omega
          case rel=>exact⟨ii+1,s1,P1,d3,(by go_num),Nat.le_refl _,(by show _=_;rw[show n.ks.length- (ii+1)=g by have:=HG.out;omega];exact YA.out),M3.out,D3.out,Fo.out⟩
        ·intro _ _;intros;assumption
     ·have o0:¬(ii:Int)< (n.ks.length:Int):=by omega
      have hE:=HE2.out;rw[show n.ks.length-ii=0 by omega,jb]at hE;obtain⟨ha,hb,hc⟩:si=s'∧true=b∧0=er:=by
       cases hE;exact⟨rfl,rfl,rfl⟩
      subst ha hb hc;obtain⟨_,⟨y0,y1,y2,y3⟩,_⟩:=Sep.c4 (Sep.cU (HS.out));clear hE HE2;go_wp2;go_ret2;exact⟨rfl,Pc,dc,oJ.out.2,HD.out,Sep.drop (Sep.dI (Sep.drop (Sep.dI (HS.out))))⟩
end
end
section
section
variable {B:Nat}{w0 w w':World}{l:List aP}{e:TypeId}{k n:Nat}{v v':Value}{cs:List Value}
theorem om {m:Nat}{news:List Value}(h:Sep B w0 w (RowK e k v n cs::l))(h2:w'.ownsRow 0 e k v' m news)(hg:w.grownBy w' v.ownBlock)(hloc:v'.ownBlock=v.ownBlock∨v'.ownBlock=some w.heap.size):Sep B w0 w' (RowK e k v' m news::l):=by
 refine h.step (fO _ _ _ _ _) fun X hX=>⟨fun q=>v'.ownBlock=some q,⟨h2,fun q=>Iff.rfl⟩,cX.grown hg (fun q hq=>(hX.2 q).2 hq),fun q hq=>?_⟩;rcases hloc with e1|e1
 ·exact .inl ((hX.2 q).2 (e1▸hq))
 ·rw[e1]at hq;exact .inr (Nat.le_of_eq (Option.some.inj hq))
variable {F:Fence}{nF:Nat}{ops:Array Oper}{rest:List Oper}{o:Oper}{a:Act}{Q:Exit->Act->World->Prop}{P:Program}{z:Value}{bytes:Nat}{t:TypeId}{r c m:Nat}{news:List Value}{s x:Operand}
theorem wR {r:Nat}{w:World}{ts:TypeId}{news:List Value}(h:w.heap[r]? =some (.cells news.toArray ts (0,0))):∀j u,news[j]? =some u->w.cell? ((⟨r,0,none⟩:Addr).add j)=some u:=fun j u hj=>by
 rw[Go.WideShapes.add_plain,Nat.zero_add];simp only[World.cell?,h];simpa using hj
theorem YB (hgd:o.guard=.none)(ho:o.op=.call {callee:=.builtin .append,args:=#[s,x],argTypes:=#[t,t]})(JU:(P.info? e).map (fun i=>(i.zero,i.size,i.bytes))=some (some z,k,bytes))(ht:P.underlying t=some (.slice e))(hz:z.cells.size=k)(hk:0<k)(hby:bytes<=1000)
  (v:Value)(hs:a.eval s=v)(h:Sep B w0 w (RowK e k v n cs::l))(hx:a.eval x=.slice (some ⟨r,0,none⟩) 1 c)(hnews:∀j u,news[j]? =some u->w.cell? ((⟨r,0,none⟩:Addr).add j)=some u)(hlen:news.length=k)(h1:∀u∈news,u.oneCell'=true)(hn:n<1000000)
  (hK:∀ao c' w',Sep B w0 w' (RowK e k (.slice ao (n+1) c') (n+1) (cs++news)::l)->wpListIn F nF P ops Q rest (a.put o.dst (.slice ao (n+1) c')) w'):wpListIn F nF P ops Q (o::rest) a w:=by
 obtain⟨i0,hi,hz0,hz1,hz2⟩:=info_parts JU;refine wpListIn_append_own_at w hgd s x t ho 0 e i0 z k bytes ht hi hz0 hz1 hz2 hz hk v n cs hs h.EI ⟨r,0,none⟩ 1 c news hx (by omega) hnews h1 (by unfold maxLen;omega) ?_ (Nat.zero_le _) ?_
 ·exact Nat.le_trans (Nat.mul_le_mul (show n+1<=1000000 by omega) hby) (by decide)
 ·intro v' w' g1 g2 _ g4;obtain⟨cW,n',c',rfl⟩:∃ao n c,v'=.slice ao n c:=by
   rcases g1.2 with⟨h,_⟩| ⟨g,cap,cur,h,_⟩
   ·exact⟨_,_,_,h⟩
   ·exact⟨_,_,_,h⟩
  obtain rfl:n'=n+1:=by
   rcases g1.2 with⟨_,h⟩| ⟨g,cap,cur,h,_⟩
   ·omega
   ·cases h;rfl
  exact hK _ _ _ (om h g1 g2 g4)
theorem Vz (hgd:o.guard=.none)(ho:o.op=.call {callee:=.builtin .append,args:=#[s,x],argTypes:=#[t,t]})(JU:(P.info? e).map (fun i=>(i.zero,i.size,i.bytes))=some (some z,k,bytes))(ht:P.underlying t=some (.slice e))(hz:z.cells.size=k)(hk:0<k)(hby:bytes<=1000)
  (v:Value)(hs:a.eval s=v)(h:Sep B w0 w (RowK e k v n cs::l))(hx:a.eval x=.slice (some ⟨r,0,none⟩) 1 c)(hnews:∀j u,news[j]? =some u->w.cell? ((⟨r,0,none⟩:Addr).add j)=some u)(hlen:news.length=k)(h1:∀u∈news,u.oneCell'=true)(hn:n<1000000)
  (hK:∀ao c' w',Sep B w0 w' (RowK e k (.slice ao (n+1) c') (n+1) (cs++news)::l)->wpList P ops Q rest (a.put o.dst (.slice ao (n+1) c')) w'):wpList P ops Q (o::rest) a w:=by
 obtain⟨i0,hi,hz0,hz1,hz2⟩:=info_parts JU;refine wpList_append_own_at w hgd s x t ho 0 e i0 z k bytes ht hi hz0 hz1 hz2 hz hk v n cs hs h.EI ⟨r,0,none⟩ 1 c news hx (by omega) hnews h1 (by unfold maxLen;omega) ?_ (Nat.zero_le _) ?_
 ·exact Nat.le_trans (Nat.mul_le_mul (show n+1<=1000000 by omega) hby) (by decide)
 ·intro v' w' g1 g2 _ g4;obtain⟨cW,n',c',rfl⟩:∃ao n c,v'=.slice ao n c:=by
   rcases g1.2 with⟨h,_⟩| ⟨g,cap,cur,h,_⟩
   ·exact⟨_,_,_,h⟩
   ·exact⟨_,_,_,h⟩
  obtain rfl:n'=n+1:=by
   rcases g1.2 with⟨_,h⟩| ⟨g,cap,cur,h,_⟩
   ·omega
   ·cases h;rfl
  exact hK _ _ _ (om h g1 g2 g4)
end
section
variable {ops:Array Oper}{o:Oper}{a:Act}{K:Act->World->Prop}{Q:Exit->Act->World->Prop}{E:Prop}{B:Nat}{w0 w:World}{l:List aP}{P:Program}{e t:TypeId}{k n bytes r c:Nat}{z:Value}{cs news:List Value}{s x:Operand}
end
def gX (v:Value)(o:List N.En):aP:=RowK 38 2 v o.length (flatK N.aG 2 o.toArray).toList
theorem mS (v:Value)(o:List N.En):Good (gX v o):=fO _ _ _ _ _
theorem PJ {B:Nat}{w0 w:World}{l:List aP}{v:Value}{s:List N.En}{y:N.En}(h:Sep B w0 w (RowK 38 2 v (s.length+1) ((flatK N.aG 2 s.toArray).toList++N.aG y)::l)):Sep B w0 w (gX v (s++[y])::l):=by
 unfold gX;rw[List.length_append,List.length_singleton,N.bR N.aG 2 N.cP];exact h
theorem Sep.zm {B:Nat}{w0 w:World}{l:List aP}{v:Value}{s:List N.En}(h:Sep B w0 w (gX v s::l)):N.Row N.aG 2 w v s:=(N.cf (base:=0) (by decide) h.EI).row
end
section
open N (Nd En)
def TH (pl:Nat)(s:List En):aP:=fun w X=>∃v,Both (aF pl (.cells #[v] 32)) (gX v s) w X
theorem JV (pl:Nat)(s:List En):Good (TH pl s):=
 ⟨fun w w' X ⟨v,h⟩ hk hs=>⟨v,(aL (a8 _ _) (mS _ _)).kept w w' X h hk hs⟩,fun w X ⟨v,h⟩=>(aL (a8 _ _) (mS _ _)).lt w X h⟩
def YC (p1 p2:Nat)(s:Option En):aP:=Both (aF p1 (.cells #[.string (s.getD (⟨#[]⟩,⟨#[]⟩)).1,.string (s.getD (⟨#[]⟩,⟨#[]⟩)).2] 38)) (aF p2 (.cells #[.bool s.isSome] 4))
def SJ (s:List En)(y:En):List En×Bool:=(s++[y],true)
def VC (s:Option En)(y:En):Option En×Bool:=(some y,false)
section
variable {B:Nat}{w0 w:World}{l:List aP}{P:List NV}{C:Cx}{x:TX}{d d1:Dk}{pl p1 p2:Nat}
theorem Sep.Dq (h:Sep B w0 w l):Sep B w0 w (gX (.slice none 0 0) []::l):=by
 unfold gX;simpa[flatK]using Sep.NC (e:=38) (k:=2) h
theorem Sep.JW {s:List En}(h:Sep B w0 w (TH pl s::l)):∃ao c,Sep B w0 w (aF pl (.cells #[.slice ao s.length c] 32)::gX (.slice ao s.length c) s::l):=by
 obtain⟨hB,hb,Y,⟨gg,X,Z,⟨v,hX⟩,hz,hd,hy⟩,hY⟩:=h;have h0:Hp w (Both (aF pl (.cells #[v] 32)) (gX v s)::l) Y:=⟨aL (a8 _ _) (mS _ _),X,Z,hX,hz,hd,hy⟩;have h1:Sep B w0 w (aF pl (.cells #[v] 32)::gX v s::l):=⟨hB,hb,Y,Hp.part (a8 _ _) (mS _ _) h0,hY⟩;obtain⟨ao,c,rfl⟩:=Sep.kA (n:=s.length) (Sep.pk [_] h1);exact⟨ao,c,h1⟩
theorem Sep.JX {s:List En}{v:Value}(h:Sep B w0 w (aF pl (.cells #[v] 32)::gX v s::l)):Sep B w0 w (TH pl s::l):=by
 obtain⟨hB,hb,Y,⟨gg,X,Z,hX,hz,hd,hy⟩,hY⟩:=Sep.join h;exact⟨hB,hb,Y,⟨JV _ _,X,Z,⟨v,hX⟩,hz,hd,hy⟩,hY⟩
theorem JY:Vu B w0 C x 33 #[.pointer (some ⟨pl,0,none⟩)] SJ (TH pl) List.length 900000:=by
 intro w d P l s y hb h;unfold SJ at hb⊢;simp only[List.length_append,List.length_singleton]at hb;obtain⟨ao,c,ho⟩:=Sep.JW (Sep.pk [_,_,_,_] h);have hn:s.length<1000000:=by omega
 have SB:Hid (Sep B w0 ((w.alloc (.cells #[.string y.1,.string y.2] 38)).alloc (.cells #[.string y.1,.string y.2] 38)) (RowK 38 2 (.slice ao s.length c) s.length (flatK N.aG 2 s.toArray).toList::aF (w.heap.size+1) (.cells #[.string y.1,.string y.2] 38)::aF pl (.cells #[.slice ao s.length c] 32)::Tx C.t C.f x::File C.f C.b d::kQ C::Pl P::l)):=
  Sep.pk [_,_] (Sep.aU (ho.alloc (.cells #[.string y.1,.string y.2] 38)) _ _ (by simp))
 have JZ:Hid _:=wR (news:=N.aG y) (Sep.blk (Sep.pk [_] SB.out));obtain⟨ps,p0,_⟩:=Sep.c1 ho;clear h ho hb;go_enter Tryz.func33,Tryz.ntmps33
 go_wp2_with (at_builtin;refine Vz rfl rfl N.eG Tryz.underlying32 rfl (by decide) (by decide) _ rfl SB.out rfl JZ.out rfl (N.ew y) hn ?_;intro Lh c5 w5 s5;have S5:Hid (Sep B w0 w5 (aF pl (.cells #[.slice ao s.length c] 32)::gX (.slice Lh (s.length+1) c5) (s++[y])::Tx C.t C.f x::File C.f C.b d::kQ C::Pl P::l)):=Sep.pk [_] (PJ (Sep.drop (Sep.pk [_] s5)));clear s5 SB JZ;obtain⟨qs,q0,qf⟩:=Sep.c1 S5.out)
 have SF:Hid (Sep B w0 (w5.setCell ⟨pl,0,none⟩ (.slice Lh (s.length+1) c5)) (TL C x d P (TH pl (s++[y])::l))):=by
  have h6:=Sep.gC (x:=.slice Lh (s.length+1) c5) S5.out 0;exact Sep.pb [_,_,_,_] (Sep.JX h6)
 go_ret;exact⟨rfl,SF.out⟩
theorem J0:Vu B w0 C x 34 #[.pointer (some ⟨p1,0,none⟩),.pointer (some ⟨p2,0,none⟩)] VC (YC p1 p2) (fun _=>0) 0:=by
 intro w d P l s y hb h;unfold VC;have h2:=Sep.dW (Sep.pk [_,_,_,_] h);obtain⟨k1,⟨a0,a1⟩,f0,f1⟩:=Sep.c2 h2;obtain⟨k2,b0,g0⟩:=Sep.c1 (Sep.pk [_] h2);have hne:p1≠p2:=Sep.ne h2;have hne':=hne.symm;have SF:Hid (Sep B w0 ((((w.setCell ⟨p1,0,none⟩ (.string y.1)).setCell ⟨p1,1,none⟩ (.string y.2)).setCell ⟨p2,0,none⟩ (.bool true)).alloc (.cells #[.string y.1,.string y.2] 38)) (TL C x d P (YC p1 p2 (some y)::l))):=by
  have h3:=Sep.gC (x:=.string y.1) h2 0;have h4:=Sep.gC (x:=.string y.2) h3 1;have h5:=Sep.gC (x:=.bool true) (Sep.pk [_] h4) 0;exact(Sep.pb [_,_,_,_] (Sep.join (Sep.pk [_] h5))).alloc _
 clear h h2 hb;go_enter Tryz.func34,Tryz.ntmps34;go_wp2;go_ret;exact⟨rfl,SF.out⟩
end
end
section
open N (Nd En bh aT hidR ar aj Ch aM ah waits)
section
variable {B:Nat}{w0 w:World}{l:List aP}{P:List NV}{C:Cx}{x:TX}{d d1:Dk}
def GEt (B:Nat)(w0:World)(C:Cx)(x:TX)(d:Dk)(P:List NV)(V:aP)(l:List aP)(er:Int)(e:Ending)(w':World):Prop:=
 e=.returned (.int .i64 er)∧∃P' d',(∀y∈P,y∈P')∧bp d d'∧Sep B w0 w' (TL C x d' P' (V::l))
def JTY (B:Nat)(w0:World)(C:Cx)(x:TX)(d d1:Dk)(P:List NV)(U1 U2:aP)(l:List aP)(f7:Bool)(w:World):Prop:=
 (f7=false->Sep B w0 w (TL C x d1 P (U1::l)))∧(f7=true->∃P' d',(∀y∈P,y∈P')∧bp d d'∧Sep B w0 w (TL C x d' P' (U2::l)))
def YD (B:Nat)(w0:World)(CC:Cx)(x:TX)(d d1:Dk)(P:List NV)(U1 U2:aP)(l:List aP)(b1:Bool)(e1:Int)(q4:Nat)(root:Int)(fr tt:ByteArray)(fy:Nat)(cy:Array Value){y1 y3 y5 y6 y9 tH oW oX y13 rS nL nM oY y29:Value}(C:List Bool->Act->Prop)(w:World):Prop:=∀{f0 f1 f2 f3 f4 f5 f6 f7 f8 f9 f10 f11 f12:Bool}{x7 x8 yo tK x20 jU ll kL x24 x25 rT x27 x28:Value},f12=false->JTY B w0 CC x d d1 P U1 U2 (aF q4 (.cells #[.string fr,.string tt] 75)::l) f7 w->Hid (f0=true->tK=ptr CC.tq)->Hid (f1=true->x20=ptr CC.tq)->Hid (f2=true->jU=ptr CC.tq)->Hid (f3=true->ll=.pointer (some ⟨CC.tq,1,none⟩))->Hid (f4=true->kL=.int .i64 root)->Hid (f5=true->x24=.agg #[.string fr,.string tt])->Hid (f6=true->x25=.func (.func fy) #[] cy)->Hid (f7=true->f4=true∧f5=true∧rT=.tuple #[.bool b1,.int .i64 e1])->Hid (f8=true->f7=true∧yo=.tuple #[.bool b1,.int .i64 e1])->Hid (f9=true->f7=true∧x27=.bool b1)->Hid (f10=true->f7=true∧x28=.int .i64 e1)->Hid (f11=true->f7=true∧x7=.bool b1)->C [f0,f1,f2,f3,f4,f5,f6,f7,f8,f9,f10,f11,f12] {tmps:=#[ptr CC.tq,y1,.func (.func fy) #[] cy,y3,.pointer (some ⟨q4,0,none⟩),y5,y6,x7,x8,y9,tH,oW,oX,y13,rS,nL,nM,oY,yo,tK,x20,jU,ll,kL,x24,x25,rT,x27,x28,y29],defers:=[]}
theorem J4 {σ:Type} {st:σ->En->σ×Bool} {m:σ->Nat} {Nm:Nat} {U:σ->aP} {fy:Nat} {cy:Array Value} {f:Nat} {s s':σ} {fr tt:ByteArray} {b:Bool} {er:Int} (T:cd B w0) (hr:d.room<=16384) (ok:x.Ok d.room) (hz:x.Sz) (EY:∀args w,(callFunc fy args).run Tryz.prog w=.ok (.enter fy args) w) (hu:Vu B w0 C x fy cy st U m Nm) (hm:∀s e,m s<=m (st s e).1) (h0:C.err=0) (hw:Wf C.root) (hd:bp d d1) (he:fI x d st f s C.root 0 fr tt=some (s',(b,er))) (hN:m s'<=Nm) (h:Sep B w0 w (TL C x d1 P (U s::l))):
  Calls Tryz.prog 32 #[ptr C.tq,.agg #[.string fr,.string tt],.func (.func fy) #[] cy] w (GEt B w0 C x d P (U s') l er):=by
 have S1:Hid (Sep B w0 (w.alloc (.cells #[.string fr,.string tt] 75)) (TL C x d1 P (U s::aF w.heap.size (.cells #[.string fr,.string tt] 75)::l))):=Sep.pb [_,_,_,_,_] (h.aN _);have KE:Hid (∀u,Sep B w0 u (TL C x d1 P (U s::aF w.heap.size (.cells #[.string fr,.string tt] 75)::l))->Calls Tryz.prog 54 #[ptr C.tq,.int .i64 C.root,.int .i64 0,.agg #[.string fr,.string tt],.func (.func fy) #[] cy] u (Wx B w0 C x d P (U s') (aF w.heap.size (.cells #[.string fr,.string tt] 75)::l) b er)):=fun u hu'=>Vv T hr ok hz EY hu hm f u d1 P _ s s' C.root 0 fr tt b er hw (by omega) hd he hN hu';obtain⟨ts,⟨t0,t1,t2⟩,_⟩:=Sep.uJ (Sep.pk [_,_] (h));rw[h0]at t2;have HRT:Hid (C.root=C.root):=rfl;clear h hu hm h0 hw hd he hN T hr ok hz;go_enter Tryz.func32,Tryz.ntmps32
 go_wp2_with fail
 clear t0 t1 t2 ts;generalize w.alloc (.cells #[.string fr,.string tt] 75)=w1 at*;generalize w.heap.size=q4 at*;refine aT 12 (YD B w0 C x d d1 P (U s) (U s') l b er q4 C.root fr tt fy cy) (by kernel_rfl) (by kernel_rfl) (by kernel_rfl) (fun _ k=>k rfl ⟨fun _=>Sep.drew S1.out,(fun h=>by cases h)⟩ ar ar ar ar ar ar ar ar ar ar ar ar) ?_ ?_ ?_
 ·intro i w' hne f0 f1 f2 f3 f4 f5 f6 f7 f8 f9 f10 f11 f12 x7 x8 yo tK x20 jU ll kL x24 x25 rT x27 x28 e12 hB h0 h1 h2 h3 h4 h5 h6 h7 h8 h9 h10 h11 hi;obtain⟨hlt,hun,_⟩:=aM hi;have hlt':i<13:=hlt;clear hlt;rcases(by omega:i=0∨i=1∨i=2∨i=3∨i=4∨i=5∨i=6∨i=7∨i=8∨i=9∨i=10∨i=11)with rfl|rfl|rfl|rfl|rfl|rfl|rfl|rfl|rfl|rfl|rfl|rfl
  ·refine aj rfl fun K HK=>?_;go_simp;exact HK.out _ _ fun _ k=>k e12 hB hidR h1 h2 h3 h4 h5 h6 h7 h8 h9 h10 h11
  ·refine aj rfl fun K HK=>?_;go_simp;exact HK.out _ _ fun _ k=>k e12 hB h0 hidR h2 h3 h4 h5 h6 h7 h8 h9 h10 h11
  ·cases h1 (ah 1 hi (by kernel_rfl));refine aj rfl fun K HK=>?_;go_simp;exact HK.out _ _ fun _ k=>k e12 hB h0 h1 hidR h3 h4 h5 h6 h7 h8 h9 h10 h11
  ·cases h2 (ah 2 hi (by kernel_rfl));refine aj rfl fun K HK=>?_;go_simp;exact HK.out _ _ fun _ k=>k e12 hB h0 h1 h2 hidR h4 h5 h6 h7 h8 h9 h10 h11
  ·have un:f4=false:=hun;cases h3 (ah 3 hi (by kernel_rfl));have n7:f7=false:=by
    cases hf:f7
    ·rfl
    ·exact absurd (h7.out hf).1 (by rw[un];simp)
   obtain⟨_,⟨t0,t1,t2⟩,_⟩:=Sep.uJ (Sep.pk [_,_] (hB.1 n7));refine aj rfl fun K HK=>?_;go_simp;exact HK.out _ _ fun _ k=>k e12 hB h0 h1 h2 h3 hidR h5 h6 (fun d=>by have e:=(h7.out d).1;rw[un]at e;cases e) h8 h9 h10 h11
  ·have un:f5=false:=hun;have n7:f7=false:=by
    cases hf:f7
    ·rfl
    ·exact absurd (h7.out hf).2.1 (by rw[un];simp)
   obtain⟨_,⟨y0,y1⟩,_⟩:=Sep.c2 (Sep.pk [_,_,_,_,_] (hB.1 n7));refine aj rfl fun K HK=>?_;go_simp;exact HK.out _ _ fun _ k=>k e12 hB h0 h1 h2 h3 h4 hidR h6 (fun d=>by have e:=(h7.out d).2.1;rw[un]at e;cases e) h8 h9 h10 h11
  ·refine aj rfl fun K HK=>?_;go_simp;exact HK.out _ _ fun _ k=>k e12 hB h0 h1 h2 h3 h4 h5 hidR h7 h8 h9 h10 h11
  ·have un:f7=false:=hun;cases h0 (ah 0 hi (by kernel_rfl));have d4:f4=true:=ah 4 hi (by kernel_rfl);cases h4 d4;have d5:f5=true:=ah 5 hi (by kernel_rfl);cases h5 d5;cases h6 (ah 6 hi (by kernel_rfl));refine aj rfl fun K HK=>?_;go_simp;refine Calls.mono (KE.out _ (hB.1 un)) ?_;rintro e u4 ⟨rfl,s4⟩;exact HK.out _ _ fun _ k=>k e12 ⟨(fun h=>by cases h),fun _=>s4⟩ h0 h1 h2 h3 h4 h5 h6 (fun _=>⟨d4,d5,rfl⟩) (fun d=>by have e:=(h8.out d).1;rw[un]at e;cases e) (fun d=>by have e:=(h9.out d).1;rw[un]at e;cases e) (fun d=>by have e:=(h10.out d).1;rw[un]at e;cases e) (fun d=>by have e:=(h11.out d).1;rw[un]at e;cases e)
  ·have d7:f7=true:=ah 7 hi (by kernel_rfl);obtain⟨u4,u5,rfl⟩:=h7.out d7;refine aj rfl fun K HK=>?_;go_simp;exact HK.out _ _ fun _ k=>k e12 hB h0 h1 h2 h3 h4 h5 h6 h7 (fun _=>⟨d7,rfl⟩) h9 h10 h11
  ·have d8:f8=true:=ah 8 hi (by kernel_rfl);obtain⟨_,rfl⟩:=h8.out d8;have d7:f7=true:=(h8.out d8).1;refine aj rfl fun K HK=>?_;go_simp;exact HK.out _ _ fun _ k=>k e12 hB h0 h1 h2 h3 h4 h5 h6 h7 h8 (fun _=>⟨d7,rfl⟩) h10 h11
  ·have d8:f8=true:=ah 8 hi (by kernel_rfl);obtain⟨_,rfl⟩:=h8.out d8;have d7:f7=true:=(h8.out d8).1;refine aj rfl fun K HK=>?_;go_simp;exact HK.out _ _ fun _ k=>k e12 hB h0 h1 h2 h3 h4 h5 h6 h7 h8 h9 (fun _=>⟨d7,rfl⟩) h11
  ·have d9:f9=true:=ah 9 hi (by kernel_rfl);obtain⟨_,rfl⟩:=h9.out d9;have d7:f7=true:=(h9.out d9).1;refine aj rfl fun K HK=>?_;go_simp;exact HK.out _ _ fun _ k=>k e12 hB h0 h1 h2 h3 h4 h5 h6 h7 h8 h9 h10 (fun _=>⟨d7,rfl⟩)
 ·intro w' f0 f1 f2 f3 f4 f5 f6 f7 f8 f9 f10 f11 f12 x7 x8 yo tK x20 jU ll kL x24 x25 rT x27 x28 e12 hB h0 h1 h2 h3 h4 h5 h6 h7 h8 h9 h10 h11 hi;have d10:f10=true:=ah 10 hi (by kernel_rfl);obtain⟨_,rfl⟩:=h10.out d10;have d11:f11=true:=ah 11 hi (by kernel_rfl);obtain⟨_,rfl⟩:=h11.out d11;clear hi;have u7:=(h10.out d10).1;refine aj rfl fun K HK=>?_;go_simp;refine HK.out _ _ ?_;obtain⟨P',d',m1,m2,s9⟩:=hB.2 u7;have S9:Hid (Sep B w0 w' (TL C x d' P' (U s'::aF q4 (.cells #[.string fr,.string tt] 75)::l))):=s9;have HMM:Hid ((∀y∈P,y∈P')∧bp d d'):=⟨m1,m2⟩;clear s9 m1 m2 h0 h1 h2 h3 h4 h5 h6 h7 h8 h9 h10 h11 hB;go_wp2;go_ret;exact⟨rfl,P',d',HMM.out.1,HMM.out.2,Sep.drop (Sep.pk [_,_,_,_,_] (S9.out))⟩
 ·intro _ _;intros;assumption
theorem kq:∀args w,(callFunc 33 args).run Tryz.prog w=.ok (.enter 33 args) w:=fun _ _=>rfl
theorem vJ:∀args w,(callFunc 34 args).run Tryz.prog w=.ok (.enter 34 args) w:=fun _ _=>rfl
def GSc (B:Nat)(w0:World)(C:Cx)(x:TX)(d:Dk)(P:List NV)(l:List aP)(o:List En)(er:Int)(e:Ending)(w':World):Prop:=
 ∃v,e=.returned (.tuple #[v,.int .i64 er])∧(er=0->∃ao c,v=.slice ao o.length c)∧(er≠0->v=.slice none 0 0∧o=[])∧∃P' d',(∀y∈P,y∈P')∧bp d d'∧Sep B w0 w' (TL C x d' P' (gX v o::l))
theorem SK {f:Nat}{s' o:List En}{fr tt:ByteArray}{b:Bool}{er:Int}(T:cd B w0)(hr:d.room<=16384)(ok:x.Ok d.room)(hz:x.Sz)(h0:C.err=0)(hw:Wf C.root)(hd:bp d d1)
  (he:fI x d SJ f [] C.root 0 fr tt=some (s',(b,er)))(hN:s'.length<=900000)(ho1:er=0->o=s')(ho2:er≠0->o=[])(h:Sep B w0 w (TL C x d1 P l)):
  Calls Tryz.prog 11 #[ptr C.tq,.string fr,.string tt] w (GSc B w0 C x d P l o er):=by
 have S1:Hid (Sep B w0 (w.alloc (.cells #[.slice none 0 0] 32)) (TL C x d1 P (TH w.heap.size []::l))):=Sep.pb [_,_,_,_] (Sep.JX (v:=.slice none 0 0) (Sep.pk [_] (Sep.Dq (h.aN (.cells #[.slice none 0 0] 32)))));have KG:Hid _:=gD (w.alloc (.cells #[.slice none 0 0] 32)) C.tq;have KE:Hid _:=J4 T hr ok hz kq (JY (B:=B) (w0:=w0) (C:=C) (x:=x) (pl:=w.heap.size)) (fun s e=>by unfold SJ;simp) h0 hw hd he hN S1.out;have HOO:Hid ((er=0->o=s')∧(er≠0->o=[])):=⟨ho1,ho2⟩;clear h h0 hw hd he hN T hr ok hz ho1 ho2;go_enter Tryz.func11,Tryz.ntmps11
 go_wp2_with fail
 refine Calls.mono KG.out ?_;rintro e w1 ⟨rfl,rfl⟩;clear KG
 go_wp2_with fail
 clear S1;generalize w.alloc (.cells #[.slice none 0 0] 32)=w1 at*;generalize w.heap.size=pl at*;refine Calls.mono KE.out ?_;rintro e w2 ⟨rfl,P',d',m1,m2,s2⟩;obtain⟨ao,c,ho⟩:=Sep.JW (Sep.pk [_,_,_,_] (s2));have HO:Hid _:=ho;have HM:Hid ((∀y∈P,y∈P')∧bp d d'):=⟨m1,m2⟩;obtain⟨ps,p0,_⟩:=Sep.c1 ho;clear KE s2 m1 m2 ho;by_cases he0:er=0
 ·subst he0;obtain rfl:=HOO.out.1 rfl;go_wp2;go_ret2;exact⟨_,rfl,fun _=>⟨ao,c,rfl⟩,fun h=>absurd rfl h,P',d',HM.out.1,HM.out.2,Sep.pb [_,_,_,_] (Sep.drop HO.out)⟩
 ·obtain rfl:=HOO.out.2 he0;have hne:(er != 0)=true:=bne_iff_ne.2 he0;go_wp2;go_ret2;exact⟨_,rfl,fun h=>absurd h he0,fun _=>⟨rfl,rfl⟩,P',d',HM.out.1,HM.out.2,Sep.pb [_,_,_,_] (Sep.Dq (Sep.drop (Sep.drop HO.out)))⟩
def GNx (B:Nat)(w0:World)(C:Cx)(x:TX)(d:Dk)(P:List NV)(l:List aP)(o:Option En)(er:Int)(e:Ending)(w':World):Prop:=
 e=.returned (.tuple #[.agg #[.string (o.getD (⟨#[]⟩,⟨#[]⟩)).1,.string (o.getD (⟨#[]⟩,⟨#[]⟩)).2],.bool o.isSome,.int .i64 er])∧∃P' d',(∀y∈P,y∈P')∧bp d d'∧Sep B w0 w' (TL C x d' P' l)
theorem SL {f:Nat}{s':Option En}{fr:ByteArray}{b:Bool}{er:Int}(T:cd B w0)(hr:d.room<=16384)(ok:x.Ok d.room)(hz:x.Sz)(h0:C.err=0)(hw:Wf C.root)(hd:bp d d1)
  (he:fI x d VC f none C.root 0 fr ⟨#[]⟩=some (s',(b,er)))(h:Sep B w0 w (TL C x d1 P l)):
  Calls Tryz.prog 14 #[ptr C.tq,.string fr] w (GNx B w0 C x d P l s' er):=by
 have WA:∃W,W=((w.alloc (.cells #[.string ⟨#[]⟩,.string ⟨#[]⟩] 38)).alloc (.cells #[.string ⟨#[]⟩,.string ⟨#[]⟩] 38)).alloc (.cells #[.bool false] 4):=⟨_,rfl⟩;have S1:Hid (Sep B w0 (((w.alloc (.cells #[.string ⟨#[]⟩,.string ⟨#[]⟩] 38)).alloc (.cells #[.string ⟨#[]⟩,.string ⟨#[]⟩] 38)).alloc (.cells #[.bool false] 4)) (TL C x d1 P (YC (w.heap.size+1) (w.heap.size+2) none::aF w.heap.size (.cells #[.string ⟨#[]⟩,.string ⟨#[]⟩] 38)::l))):=by
  have h3:=Sep.aU (Sep.aU (Sep.aN h (.cells #[.string ⟨#[]⟩,.string ⟨#[]⟩] 38)) (.cells #[.string ⟨#[]⟩,.string ⟨#[]⟩] 38) (w.heap.size+1) (by simp)) (.cells #[.bool false] 4) (w.heap.size+2) (by simp);exact Sep.pb [_,_,_,_] (Sep.pb [_,_,_,_,_] (Sep.pk [_] (Sep.join (Sep.pk [_] h3))))
 have KG:Hid (∀u,Calls Tryz.prog 27 #[ptr C.tq] u fun e w'=>e=.returned (ptr C.tq)∧u=w'):=fun u=>gD u C.tq;have KE:Hid _:=J4 T hr ok hz vJ (J0 (B:=B) (w0:=w0) (C:=C) (x:=x) (p1:=w.heap.size+1) (p2:=w.heap.size+2)) (fun s e=>Nat.le_refl _) h0 hw hd he (Nat.le_refl _) S1.out;clear h h0 hw hd he T hr ok hz WA;go_enter Tryz.func14,Tryz.ntmps14
 go_wp2_with fail
 refine Calls.mono (KG.out _) ?_;rintro e w1 ⟨rfl,rfl⟩;clear KG
 go_wp2_with fail
 clear S1;generalize((w.alloc (.cells #[.string ⟨#[]⟩,.string ⟨#[]⟩] 38)).alloc (.cells #[.string ⟨#[]⟩,.string ⟨#[]⟩] 38)).alloc (.cells #[.bool false] 4)=w1 at*;generalize w.heap.size+2=p2 at*;generalize w.heap.size+1=p1 at*;generalize w.heap.size=p0 at*;refine Calls.mono KE.out ?_;rintro e w2 ⟨rfl,P',d',m1,m2,s2⟩;have HM:Hid ((∀y∈P,y∈P')∧bp d d'):=⟨m1,m2⟩;have ho:=Sep.dW (Sep.pk [_,_,_,_] s2);obtain⟨_,⟨a0,a1⟩,f0,f1⟩:=Sep.c2 ho;obtain⟨_,b0,_⟩:=Sep.c1 (Sep.pk [_] ho);obtain⟨_,⟨r0,r1⟩,g0,g1⟩:=Sep.c2 (Sep.pk [_,_,_,_,_,_] ho);have wB:p0≠p1:=Sep.ne (Sep.pk [_,_,_,_,_,_] ho);have n10:=wB.symm;have n02:p0≠p2:=Sep.ne (Sep.pk [_,_,_,_,_,_] (Sep.pk [_] ho));have n20:=n02.symm;generalize hk:(s'.getD (⟨#[]⟩,⟨#[]⟩)).1=k1 at*;generalize hv:(s'.getD (⟨#[]⟩,⟨#[]⟩)).2=v1 at*;have SF:Hid (Sep B w0 ((w2.setCell ⟨p0,0,none⟩ (.string k1)).setCell ⟨p0,1,none⟩ (.string v1)).drew (aF p0 (.cells #[.string k1,.string v1] 38)::TL C x d' P' l)):=by
  have h5:=Sep.gC (x:=.string v1) (Sep.gC (x:=.string k1) (Sep.pk [_,_,_,_,_,_] ho) 0) 1;exact Sep.drew (Sep.pk [] (Sep.drop (Sep.pk [_] (Sep.drop (Sep.pk [_] h5)))))
 have HK:Hid ((s'.getD (⟨#[]⟩,⟨#[]⟩)).1=k1∧(s'.getD (⟨#[]⟩,⟨#[]⟩)).2=v1):=⟨hk,hv⟩;clear KE s2 m1 m2 ho hk hv
 go_wp2_with fail
 go_region
 go_wp2;generalize((w2.setCell ⟨p0,0,none⟩ (.string k1)).setCell ⟨p0,1,none⟩ (.string v1)).drew=w3 at*;clear a0 a1 f0 f1 b0 r0 r1 g0 g1;obtain⟨_,⟨r0,r1⟩,g0,g1⟩:=Sep.c2 SF.out;refine bodyPost_ret (v:=.tuple #[.agg #[.string k1,.string v1],.bool s'.isSome,.int .i64 er]) ?_ rfl ⟨by rw[HK.out.1,HK.out.2],P',d',HM.out.1,HM.out.2,SF.out.drop⟩;rw[bN rfl];go_simp
end
end
section
open N (Nd En)
theorem SP (w:World):(Instr.makeMap 83 none).run Tryz.prog w=.ok (.map (some w.heap.size)) (w.alloc (.map #[] 0)):=by kernel_rfl
theorem SQ (w:World):(zeroValue 3).run Tryz.prog w=.ok (.int .i64 0) w:=by kernel_rfl
section
variable {B:Nat}{w0 w w':World}{l:List aP}{m n:Nat}{g:Gv}
theorem Sep.Ou (h:Sep B w0 w (cY m g n::l)){k:Int}(hk:Wf k):(Instr.lookup 83 (.map (some m)) (.int .i64 k) true).run Tryz.prog w=.ok (.tuple #[((g k).getD (.int .i64 0)),.bool (g k).isSome]) w:=by
 obtain⟨D,o,hv⟩:=h.qR;obtain⟨v,ps,hr,hR⟩:=o.look_ok im Tryz.underlying83 (SQ w) (zd:=.held (.int .i64 0)) (zp:=[]) rfl hk.key;rw[hr,nt (z:=.int .i64 0) (c:=.int .i64 0) hR ((hv k).2 _),(hv k).1]
theorem Sep.Ov (h:Sep B w0 w (cY m g n::l)){k:Int}(hk:Wf k)(c:Value)(hn:n<1000000):∃w',(Instr.mapUpdate 83 (.map (some m)) (.int .i64 k) c).run Tryz.prog w=.ok () w'∧Sep B w0 w' (cY m (xy g k c) (n+1)::l):=by
 obtain⟨D,o,hv⟩:=h.qR;obtain⟨w',hr,o',ht⟩:=o.store im Tryz.underlying83 (Nat.lt_of_lt_of_le hn (by decide)) hk.key (val:=c) (d:=.held c) (ps:=[]) rfl;refine⟨w',hr,h.step (cQ _ _ _) fun X hX=>⟨X,⟨⟨_,o',hv.put o.isMap k c⟩,hX.2⟩,cX.mapTurned ((hX.2 m).2 rfl) ht,fun k hk=>.inl hk⟩⟩
end
abbrev kH:=Int×Int×NV
def uR (v:kH):Pg:=(v.1,v.2.1,v.2.2.n)
def lK (v:kH):List Value:=[.int .i64 v.1,.int .i64 v.2.1,.bool v.2.2.n.leaf,.slice v.2.2.ae v.2.2.n.es.length v.2.2.ce,.slice v.2.2.ak v.2.2.n.ks.length v.2.2.ck,.slice v.2.2.az v.2.2.n.ss.length v.2.2.cz]
theorem zn (v:kH):∀u∈lK v,u.oneCell'=true:=fun u hu=>by simp[lK]at hu;rcases hu with rfl|rfl|rfl|rfl|rfl|rfl<;>rfl
theorem J5:(Tryz.prog.info? 56).map (fun i=>(i.zero,i.size,i.bytes))=some (some (.agg #[.int .i64 0,.int .i64 0,.bool false,.slice none 0 0,.slice none 0 0,.slice none 0 0]),6,96):=by kernel_rfl
def wS (v:Value)(V:List kH):aP:=RowK 56 6 v V.length (V.flatMap lK)
theorem jc (v:Value)(V:List kH):Good (wS v V):=fO _ _ _ _ _
def zq (pd pl:Nat)(s:List Pg)(P:List NV):aP:=fun w X=>∃(g:Gv) (m:Nat) (vl:Value) (V:List kH) (n:Nat),(∀k,(∀p∈s,p.1≠k)->g k=none)∧V.map uR=s∧(∀v∈V,v.2.2∈P)∧n<=s.length∧Both (aF pd (.cells #[.map (some m)] 83)) (Both (cY m g n) (Both (aF pl (.cells #[vl] 48)) (wS vl V))) w X
theorem zx (pd pl:Nat)(s:List Pg)(P:List NV):Good (zq pd pl s P):=
 ⟨fun w w' X ⟨g,m,vl,V,n,a,b,c,e,h⟩ hk hs=>⟨g,m,vl,V,n,a,b,c,e,(aL (a8 _ _) (aL (cQ _ _ _) (aL (a8 _ _) (jc _ _)))).kept w w' X h hk hs⟩,
  fun w X ⟨g,m,vl,V,n,a,b,c,e,h⟩=>(aL (a8 _ _) (aL (cQ _ _ _) (aL (a8 _ _) (jc _ _)))).lt w X h⟩
section
variable {B:Nat}{w0 w:World}{l:List aP}{P Q:List NV}{C:Cx}{x:TX}{d d1:Dk}{pd pl:Nat}{s s':List Pg}{er:Int}
theorem Sep.c6 {q:Nat}{a0 a1 a2 a3 a4 a5:Value}{ty:TypeId}(h:Sep B w0 w (aF q (.cells #[a0,a1,a2,a3,a4,a5] ty)::l)):w.cell? ⟨q,0,none⟩=some a0∧w.cell? ⟨q,1,none⟩=some a1:=by
 have hb:=h.blk;constructor<;>simp[World.cell?,hb]
theorem Sep.o5 {r1 r2 r3 r4 r5:aP}(h:Sep B w0 w (r1::r2::r3::r4::r5::l)):Sep B w0 w (r5::r3::r4::r1::r2::l):=
 Sep.lr (Sep.iU (Sep.iU (Sep.iU h)))
theorem Sep.SR (h:Sep B w0 w (zq pd pl s P::l))(hq:∀p∈P,p∈Q):Sep B w0 w (zq pd pl s Q::l):=
 h.step (zx _ _ _ _) fun X ⟨g,m,vl,V,n,a,b,c,e,hX⟩=>⟨X,⟨g,m,vl,V,n,a,b,fun v hv=>hq _ (c v hv),e,hX⟩,cX.refl _ _,fun k hk=>.inl hk⟩
theorem Sep.J6 (h:Sep B w0 w (zq pd pl s P::l)):∃g m ao c V n,(∀k,(∀p∈s,p.1≠k)->g k=none)∧V.map uR=s∧(∀v∈V,v.2.2∈P)∧n<=s.length∧Sep B w0 w (aF pd (.cells #[.map (some m)] 83)::cY m g n::aF pl (.cells #[.slice ao V.length c] 48)::wS (.slice ao V.length c) V::l):=by
 obtain⟨hB,hb,Y,⟨gg,X,Z,⟨g,m,vl,V,n,a,b,c,e,hX⟩,hz,hd,hy⟩,hY⟩:=h;have h0:Hp w (Both (aF pd (.cells #[.map (some m)] 83)) (Both (cY m g n) (Both (aF pl (.cells #[vl] 48)) (wS vl V)))::l) Y:=⟨aL (a8 _ _) (aL (cQ _ _ _) (aL (a8 _ _) (jc _ _))),X,Z,hX,hz,hd,hy⟩;have h1:Sep B w0 w (aF pd (.cells #[.map (some m)] 83)::cY m g n::aF pl (.cells #[vl] 48)::wS vl V::l):=⟨hB,hb,Y,Hp.under (Hp.part (a8 _ _) (aL (cQ _ _ _) (aL (a8 _ _) (jc _ _))) h0) fun _ h1=>Hp.under (Hp.part (cQ _ _ _) (aL (a8 _ _) (jc _ _)) h1) fun _ h2=>Hp.part (a8 _ _) (jc _ _) h2,hY⟩;obtain⟨ao,cc,rfl⟩:=Sep.kA (n:=V.length) (Sep.td h1);exact⟨g,m,ao,cc,V,n,a,b,c,e,h1⟩
theorem Sep.J7 {g:Gv}{m n:Nat}{vl:Value}{V:List kH}(a:∀k,(∀p∈s,p.1≠k)->g k=none)(b:V.map uR=s)(c:∀v∈V,v.2.2∈P)(e:n<=s.length)(h:Sep B w0 w (aF pd (.cells #[.map (some m)] 83)::cY m g n::aF pl (.cells #[vl] 48)::wS vl V::l)):Sep B w0 w (zq pd pl s P::l):=by
 have h2:=(((h.map fun _ h=>Hp.under h fun _ h=>Hp.under h fun _=>Hp.join).map fun _ h=>Hp.under h fun _=>Hp.join)).join;obtain⟨hB,hb,Y,⟨gg,X,Z,hX,hz,hd,hy⟩,hY⟩:=h2;exact⟨hB,hb,Y,⟨zx _ _ _ _,X,Z,⟨g,m,vl,V,n,a,b,c,e,hX⟩,hz,hd,hy⟩,hY⟩
theorem VD {v:Value}{V:List kH}{y:kH}(h:Sep B w0 w (RowK 56 6 v (V.length+1) (V.flatMap lK++lK y)::l)):Sep B w0 w (wS v (V++[y])::l):=by
 unfold wS;rw[List.length_append,List.length_singleton,List.flatMap_append,List.flatMap_singleton];exact h
theorem J8 {q:NV}{id dp:Int}(h:Sep B w0 w (TL C x d P (zq pd pl s P::l)))(hq:q∈P)(hw:Wf id)(hn:(s.any fun p=>decide (p.1=id))=false)(hs:s.length<=100000):
  Calls Tryz.prog 41 #[.agg #[.int .i64 id,.int .i64 dp,.bool q.n.leaf,.slice q.ae q.n.es.length q.ce,.slice q.ak q.n.ks.length q.ck,.slice q.az q.n.ss.length q.cz],.pointer (some ⟨pd,0,none⟩),.pointer (some ⟨pl,0,none⟩)] w fun e w'=>e=.returned (.bool true)∧Sep B w0 w' (TL C x d P (zq pd pl (s++[(id,dp,q.n)]) P::l)):=by
 obtain⟨g,m,ao,c,V,n,hg,hV,hP,hnn,ho⟩:=Sep.J6 (Sep.iU (h));have hgn:g id=none:=hg id fun p hp=>by simpa using(List.any_eq_false.1 hn) p hp
 have LK:=Sep.Ou (Sep.gf (ho.alloc (.cells #[.int .i64 id,.int .i64 dp,.bool q.n.leaf,.slice q.ae q.n.es.length q.ce,.slice q.ak q.n.ks.length q.ck,.slice q.az q.n.ss.length q.cz] 56))) hw;rw[hgn]at LK;simp only[Option.getD_none,Option.isSome_none]at LK;have hVl:V.length=s.length:=by rw[<-hV,List.length_map]
 have hln:V.length<1000000:=by omega
 have SB:Hid (Sep B w0 ((w.alloc (.cells #[.int .i64 id,.int .i64 dp,.bool q.n.leaf,.slice q.ae q.n.es.length q.ce,.slice q.ak q.n.ks.length q.ck,.slice q.az q.n.ss.length q.cz] 56)).alloc (.cells #[.int .i64 id,.int .i64 dp,.bool q.n.leaf,.slice q.ae q.n.es.length q.ce,.slice q.ak q.n.ks.length q.ck,.slice q.az q.n.ss.length q.cz] 56)) (RowK 56 6 (.slice ao V.length c) V.length (V.flatMap lK)::aF (w.heap.size+1) (.cells #[.int .i64 id,.int .i64 dp,.bool q.n.leaf,.slice q.ae q.n.es.length q.ce,.slice q.ak q.n.ks.length q.ck,.slice q.az q.n.ss.length q.cz] 56)::aF w.heap.size (.cells #[.int .i64 id,.int .i64 dp,.bool q.n.leaf,.slice q.ae q.n.es.length q.ce,.slice q.ak q.n.ks.length q.ck,.slice q.az q.n.ss.length q.cz] 56)::aF pd (.cells #[.map (some m)] 83)::cY m g n::aF pl (.cells #[.slice ao V.length c] 48)::Tx C.t C.f x::File C.f C.b d::kQ C::Pl P::l)):=Sep.dI (Sep.aU (ho.aN (.cells #[.int .i64 id,.int .i64 dp,.bool q.n.leaf,.slice q.ae q.n.es.length q.ce,.slice q.ak q.n.ks.length q.ck,.slice q.az q.n.ss.length q.cz] 56)) _ _ (by simp));have JZ:Hid _:=wR (news:=lK (id,dp,q)) (Sep.blk (Sep.gf SB.out));obtain⟨ps,p0,_⟩:=Sep.c1 ho;obtain⟨pls,l0,_⟩:=Sep.c1 (Sep.lr ho);have HF:Hid ((∀k,(∀p∈s,p.1≠k)->g k=none)∧V.map uR=s∧(∀v∈V,v.2.2∈P)∧n<=s.length∧q∈P∧Wf id∧s.length<=100000):=⟨hg,hV,hP,hnn,hq,hw,hs⟩;clear h ho hg hV hP hnn hq hgn hn hs hVl;go_enter Tryz.func41,Tryz.ntmps41
 go_wp2_with (at_builtin;refine Vz rfl rfl J5 Tryz.underlying48 rfl (by decide) (by decide) _ rfl SB.out rfl JZ.out rfl (zn (id,dp,q)) hln ?_;intro Lh c5 w5 s5;have S5:Hid (Sep B w0 w5 (aF pl (.cells #[.slice ao V.length c] 48)::aF pd (.cells #[.map (some m)] 83)::cY m g n::wS (.slice Lh (V.length+1) c5) (V++[(id,dp,q)])::aF w.heap.size (.cells #[.int .i64 id,.int .i64 dp,.bool q.n.leaf,.slice q.ae q.n.es.length q.ce,.slice q.ak q.n.ks.length q.ck,.slice q.az q.n.ss.length q.cz] 56)::Tx C.t C.f x::File C.f C.b d::kQ C::Pl P::l)):=Sep.o5 (VD (Sep.drop (Sep.gf s5)));clear s5 SB JZ LK p0 l0 ps pls;obtain⟨ps,p0,_⟩:=Sep.c1 (Sep.gf S5.out);obtain⟨pls,l0,lf⟩:=Sep.c1 S5.out;obtain⟨c60,c61⟩:=Sep.c6 (Sep.iU S5.out);have S6:Hid (Sep B w0 (w5.setCell ⟨pl,0,none⟩ (.slice Lh (V.length+1) c5)) (aF pl (.cells #[.slice Lh (V.length+1) c5] 48)::aF pd (.cells #[.map (some m)] 83)::cY m g n::wS (.slice Lh (V.length+1) c5) (V++[(id,dp,q)])::aF w.heap.size (.cells #[.int .i64 id,.int .i64 dp,.bool q.n.leaf,.slice q.ae q.n.es.length q.ce,.slice q.ak q.n.ks.length q.ck,.slice q.az q.n.ss.length q.cz] 56)::Tx C.t C.f x::File C.f C.b d::kQ C::Pl P::l)):=Sep.gC (x:=.slice Lh (V.length+1) c5) S5.out 0;obtain⟨w7,hr7,s7⟩:=Sep.Ov (Sep.lr S6.out) HF.out.2.2.2.2.2.1 (.int .i64 dp) (by have:=HF.out;omega);have hne:pl≠pd:=Sep.ne S5.out;have hne2:=hne.symm;have YE:pl≠w.heap.size:=Sep.ne (Sep.Rc (Sep.iU S5.out));have aaA:=YE.symm;have S7:Hid _:=Sep.drop (Sep.iU s7);clear S5 S6 s7)
 have SF:Hid (Sep B w0 w7 (TL C x d P (zq pd pl (s++[(id,dp,q.n)]) P::l))):=by
  obtain⟨f1,f2,f3,f4,f5,_⟩:=HF.out;refine Sep.Fk (Sep.J7 (n:=n+1) (m:=m) (vl:=.slice Lh (V.length+1) c5) (V:=V++[(id,dp,q)]) (g:=xy g id (.int .i64 dp)) ?_ ?_ ?_ ?_ (Sep.lr S7.out))
  ·intro k hk;have h1:id≠k:=hk (id,dp,q.n) (by simp);unfold xy;rw[if_neg (fun e=>h1 e.symm)];exact f1 k fun p hp=>hk p (by simp[hp])
  ·rw[List.map_append,f2];rfl
  ·intro v hv;rcases List.mem_append.1 hv with hv|hv
   ·exact f3 v hv
   ·rw[List.mem_singleton.1 hv];exact f5
  ·rw[List.length_append,List.length_singleton];omega
 go_ret;exact⟨rfl,SF.out⟩
def VE (B:Nat)(w0:World)(C:Cx)(x:TX)(d:Dk)(P:List NV)(pd pl:Nat)(s:List Pg)(l:List aP)(er:Int)(e:Ending)(w':World):Prop:=
 e=.returned (.int .i64 er)∧∃P' d',(∀y∈P,y∈P')∧bp d d'∧Sep B w0 w' (TL C x d' P' (zq pd pl s P'::l))
theorem Ow (T:cd B w0)(hr:d.room<=16384)(ok:x.Ok d.room)(hz:x.Sz):
  ∀(f:Nat) (w:World) (d1:Dk) (P:List NV) (l:List aP) (s s':List Pg) (id depth:Int) (er:Int),Wf id->bp d d1->fJ x d f s id depth=some (s',er)->Sep B w0 w (TL C x d1 P (zq pd pl s P::l))->
  Calls Tryz.prog 57 #[ptr C.tq,.int .i64 id,.int .i64 depth,.func (.func 41) #[] #[.pointer (some ⟨pd,0,none⟩),.pointer (some ⟨pl,0,none⟩)]] w (VE B w0 C x d P pd pl s' l er):=by
 intro f
 induction f with
 |zero=>intro w d1 P l s s' id depth er _ _ he;cases he
 |succ f ih=>
 intro w d1 P l s s' id depth er hw hd he h;have IH:Hid (∀(w:World) (d1:Dk) (P:List NV) (l:List aP) (s s':List Pg) (id depth:Int) (er:Int),Wf id->bp d d1->fJ x d f s id depth=some (s',er)->Sep B w0 w (TL C x d1 P (zq pd pl s P::l))->Calls Tryz.prog 57 #[ptr C.tq,.int .i64 id,.int .i64 depth,.func (.func 41) #[] #[.pointer (some ⟨pd,0,none⟩),.pointer (some ⟨pl,0,none⟩)]] w (VE B w0 C x d P pd pl s' l er)):=ih;have KR:Hid _:=rY (id:=id) (depth:=depth) T h hw (by rw[hd.room];exact ok) (by rw[hd.room];exact hr) hz;rw[hd.dJ]at KR;have HD:Hid (bp d d1):=hd;have HWI:Hid (Wf id):=hw;rw[fJ]at he;clear h ih hw hd T hr ok hz;generalize dJ x d id depth=rr at*;obtain⟨n0,e0⟩:=rr;simp only at KR he;have HE:Hid (_=some (s',er)):=he;clear he;go_enter Tryz.func57,Tryz.ntmps57
 go_wp2_with fail
 refine Calls.mono KR.out ?_;rintro e v2 ⟨p,d2,hn0,rfl,hd2,s2⟩;subst hn0;unfold NV.v;have D2:Hid (bp d d2):=HD.out.trans ⟨_,hd2⟩;have S2:Hid (Sep B w0 (v2.alloc (.cells #[.bool p.n.leaf,.slice p.ae p.n.es.length p.ce,.slice p.ak p.n.ks.length p.ck,.slice p.az p.n.ss.length p.cz] 54)) (TL C x d2 (p::P) (zq pd pl s (p::P)::aF v2.heap.size (.cells #[.bool p.n.leaf,.slice p.ae p.n.es.length p.ce,.slice p.ak p.n.ks.length p.ck,.slice p.az p.n.ss.length p.cz] 54)::l))):=Sep.rX (Sep.aU (Sep.Fk (Sep.SR (Sep.iU (s2)) fun y hy=>List.mem_cons_of_mem _ hy)) _ _ rfl);clear KR hd2 s2 HD;by_cases E8:e0≠0
 ·have hE:=HE.out;rw[if_pos E8]at hE;obtain⟨ha,hc⟩:s=s'∧e0=er:=by
   cases hE;exact⟨rfl,rfl⟩
  subst ha hc;have hne:(e0 != 0)=true:=bne_iff_ne.2 E8;clear hE E8 HE;go_wp2;go_ret;exact⟨rfl,p::P,d2,fun y hy=>List.mem_cons_of_mem _ hy,D2.out,Sep.drop (Sep.dI (S2.out)) |> fun h=>h⟩
 ·have hE:=HE.out;rw[if_neg E8]at hE;have ez:e0=0:=Classical.not_not.1 E8;subst ez;by_cases hg:bZ p.n=false∨1000<depth∨depth<0∨(s.any fun p=>decide (p.1=id))=true∨100000<s.length
  ·rw[if_pos hg]at hE;cases hE
  rw[if_neg hg]at hE;have hg2:bZ p.n=true∧depth<=1000∧0<=depth∧(s.any fun p=>decide (p.1=id))=false∧s.length<=100000:=by
   refine⟨?_,by omega,by omega,?_,by omega⟩
   ·cases hx:bZ p.n
    ·exact absurd (.inl hx) hg
    ·rfl
   ·cases hx:(s.any fun p=>decide (p.1=id))
    ·rfl
    ·exact absurd (.inr (.inr (.inr (.inl hx)))) hg
  obtain⟨hsm,hdp,hd0,hnm,hsl⟩:=hg2;obtain⟨jA,JS,Ot,_,hwk⟩:=dT hsm;have zK:Hid (∀k∈p.n.ks,Wf k):=hwk;have Bf:Hid (p.n.ks.length<=500∧0<=depth∧depth<=1000):=⟨JS,hd0,hdp⟩;have HNM:Hid ((s.any fun p=>decide (p.1=id))=false∧s.length<=100000):=⟨hnm,hsl⟩;clear HE E8 hg hsm hdp jA JS Ot hwk hd0 hnm hsl;have Fs:Hid (tU (fun s k=>fJ x d f s k (depth+1)) p.n.ks (s++[(id,depth,p.n)])=some (s',er)):=hE;clear hE
  go_upto_region 4 with fail
  generalize World.alloc _ _=v3 at*;generalize v2.heap.size=q9 at*;obtain⟨ae,ce,ak,ck,az,cz,n⟩:=p;simp only at*;have JT:Hid ((⟨ae,ce,ak,ck,az,cz,n⟩:NV)∈(⟨ae,ce,ak,ck,az,cz,n⟩:NV)::P∧∀y∈P,y∈(⟨ae,ce,ak,ck,az,cz,n⟩:NV)::P):=⟨List.mem_cons_self ..,fun y hy=>List.mem_cons_of_mem _ hy⟩;generalize Yy:(⟨ae,ce,ak,ck,az,cz,n⟩:NV)::P=PP at*;clear Yy;have KU:Hid _:=J8 (id:=id) (dp:=depth) S2.out JT.out.1 HWI.out HNM.out.1 HNM.out.2;obtain⟨_,⟨y0,y1,y2,y3⟩,_⟩:=Sep.c4 (Sep.dI (S2.out));simp only at KU
  go_wp2_with fail
  refine Calls.mono KU.out ?_;rintro e v4 ⟨rfl,s4⟩;have S4:Hid _:=s4;clear S2 y0 y1 y2 y3 KU s4;obtain⟨_,⟨y0,y1,y2,y3⟩,_⟩:=Sep.c4 (Sep.dI (S4.out));go_wp2;clear y0 y1 y2 y3
  go_loopg [34] n.ks.length (fun kx s34 wr=>∃(j:Nat) (sj:List Pg) (Pc:List NV) (dc:Dk),s34=.int .i64 (j:Int)∧j<=n.ks.length∧n.ks.length-j<=kx∧Hid (tU (fun s k=>fJ x d f s k (depth+1)) (n.ks.drop j) sj=some (s',er))∧Hid ((⟨ae,ce,ak,ck,az,cz,n⟩:NV)∈Pc∧∀y∈P,y∈Pc)∧Hid (bp d dc)∧Hid (Sep B w0 wr (TL C x dc Pc (zq pd pl sj Pc::l))))
  case atStart=>exact⟨0,_,PP,d2,rfl,Nat.zero_le _,Nat.le_refl _,(by show _=_;rw[List.drop_zero];exact Fs.out),JT.out,D2.out,Sep.drop (Sep.dI (S4.out)) |> fun h=>h⟩
  case round=>
   clear S4 Fs D2 JT;obtain⟨j,sj,Pc,dc,rfl,hj,Pw,HE2,oJ,HD,HS⟩:=hrel;by_cases hlt:j<n.ks.length
   ·have o0:(j:Int)< (n.ks.length:Int):=by omega
    obtain⟨r,ro,hak,hrs,hrc⟩:=NV.kid (p:=⟨ae,ce,ak,ck,az,cz,n⟩) (Sep.pool (Sep.td (HS.out)) _ oJ.out.1) (i:=j) hlt;simp only at hak hrc;subst hak;have hE:=HE2.out;rw[List.drop_eq_getElem_cons hlt,tU]at hE;have hgd:n.ks[j]=n.ks.getD j 0:=by rw[List.getD_eq_getElem?_getD,List.getElem?_eq_getElem hlt];rfl
    have Vn:Hid (Wf (n.ks.getD j 0)):=by
     refine zK.out _ ?_;rw[<-hgd];exact List.getElem_mem _
    rw[hgd]at hE;generalize n.ks.getD j 0=kid at*;have Kc:Hid (j<n.ks.length):=hlt;have hwd:IntKind.i64.wrap (depth+1)=depth+1:=bf (by have:=Bf.out;omega) (by have:=Bf.out;omega);have NT:IntKind.i64.wrap ((j:Int)+1)=((j+1:Nat):Int):=by rw[bf (by omega) (by have:=Bf.out;omega)];rfl
    cases hrec:fJ x d f sj kid (depth+1)with
    |none=>rw[hrec]at hE;cases hE
    |some rs=>
     obtain⟨s1,e1⟩:=rs;rw[hrec]at hE;simp only at hE;have KI:Hid _:=IH.out wr dc Pc l sj s1 kid (depth+1) e1 Vn.out HD.out hrec HS.out;have yS:Hid (_=some (s',er)):=hE;clear hE hrec HE2 HS hgd hlt
     go_wp2_with fail
     clear hrs hrc;refine Calls.mono KI.out ?_;rintro e v5 ⟨rfl,P1,d3,hp1,hd3,s5⟩;have S5:Hid _:=s5;have D3:Hid (bp d d3):=hd3;have M3:Hid ((⟨ae,ce,some ⟨r,ro,none⟩,ck,az,cz,n⟩:NV)∈P1∧∀y∈P,y∈P1):=⟨hp1 _ oJ.out.1,fun y hy=>hp1 _ (oJ.out.2 y hy)⟩;clear KI s5 hd3 hp1;by_cases h1:e1≠0
     ·have hE:=yS.out;rw[if_pos h1]at hE;obtain⟨ha,hc⟩:s1=s'∧e1=er:=by
       cases hE;exact⟨rfl,rfl⟩
      subst ha hc;have hne:(e1 != 0)=true:=bne_iff_ne.2 h1;clear hE yS h1;go_wp2;go_ret;exact⟨rfl,P1,d3,M3.out.2,D3.out,S5.out⟩
     ·have hE:=yS.out;rw[if_neg h1]at hE;have ez:e1=0:=Classical.not_not.1 h1;subst ez;have YA:Hid (_=some (s',er)):=hE;clear hE yS h1;go_wp2
      go_roundg (n.ks.length- (j+1))
      case measure=>have:=Kc.out;omega
      case rel=>exact⟨j+1,s1,P1,d3,(by go_num),(by have:=Kc.out;omega),Nat.le_refl _,YA.out,M3.out,D3.out,S5.out⟩
   ·have o0:¬(j:Int)< (n.ks.length:Int):=by omega
    obtain rfl:j=n.ks.length:=by omega
    have hE:=HE2.out;rw[List.drop_length,tU]at hE;obtain⟨ha,hc⟩:sj=s'∧0=er:=by
     cases hE;exact⟨rfl,rfl⟩
    subst ha hc;clear hE HE2;go_wp2;go_ret;exact⟨rfl,Pc,dc,oJ.out.2,HD.out,HS.out⟩
theorem Ox (h0:C.err=0)(hr0:C.root=0)(hd:bp d d1)(h:Sep B w0 w (TL C x d1 P (zq pd pl s P::l))):
  Calls Tryz.prog 40 #[ptr C.tq,.func (.func 41) #[] #[.pointer (some ⟨pd,0,none⟩),.pointer (some ⟨pl,0,none⟩)]] w (VE B w0 C x d P pd pl s l 0):=by
 obtain⟨ts,⟨t0,t1,t2⟩,_⟩:=Sep.uJ (Sep.lr (h));rw[h0]at t2;rw[hr0]at t1;have HS:Hid _:=h;have HD:Hid (bp d d1):=hd;clear h h0 hr0 hd;go_enter Tryz.func40,Tryz.ntmps40;go_wp2;go_ret;exact⟨rfl,P,d1,fun _ h=>h,HD.out,HS.out⟩
theorem Oy {f:Nat}(T:cd B w0)(hr:d.room<=16384)(ok:x.Ok d.room)(hz:x.Sz)(h0:C.err=0)(hr0:C.root≠0)(hw:Wf C.root)(hd:bp d d1)(he:fJ x d f s C.root 0=some (s',er))(h:Sep B w0 w (TL C x d1 P (zq pd pl s P::l))):
  Calls Tryz.prog 40 #[ptr C.tq,.func (.func 41) #[] #[.pointer (some ⟨pd,0,none⟩),.pointer (some ⟨pl,0,none⟩)]] w (VE B w0 C x d P pd pl s' l er):=by
 obtain⟨ts,⟨t0,t1,t2⟩,_⟩:=Sep.uJ (Sep.lr (h));rw[h0]at t2;have hne:(C.root==0)=false:=beq_eq_false_iff_ne.2 hr0;have KI:Hid _:=Ow T hr ok hz f w d1 P l s s' C.root 0 er hw hd he h;clear h h0 hd hr0 hw he T hr ok hz;go_enter Tryz.func40,Tryz.ntmps40
 go_wp2_with fail
 refine Calls.mono KI.out ?_;rintro e w1 ⟨rfl,P',d',m1,m2,s2⟩;have SF:Hid _:=s2;have HM:Hid ((∀y∈P,y∈P')∧bp d d'):=⟨m1,m2⟩;clear KI s2 m1 m2 t0 t1 t2 ts;go_wp2;go_ret;exact⟨rfl,P',d',HM.out.1,HM.out.2,SF.out⟩
def GWk (B:Nat)(w0:World)(C:Cx)(x:TX)(d:Dk)(P:List NV)(l:List aP)(s:List Pg)(e:Ending)(w':World):Prop:=
 ∃ao c V,e=.returned (.tuple #[.slice ao V.length c,.int .i64 0])∧V.map uR=s∧∃P' d',(∀v∈V,v.2.2∈P')∧(∀y∈P,y∈P')∧bp d d'∧Sep B w0 w' (TL C x d' P' (wS (.slice ao V.length c) V::l))
theorem SS (hd:bp d d1)(h:Sep B w0 w (TL C x d1 P l))(hk:∀(u:World) (pd pl:Nat),Sep B w0 u (TL C x d1 P (zq pd pl [] P::l))->Calls Tryz.prog 40 #[ptr C.tq,.func (.func 41) #[] #[.pointer (some ⟨pd,0,none⟩),.pointer (some ⟨pl,0,none⟩)]] u (VE B w0 C x d P pd pl s l 0)):
  Calls Tryz.prog 19 #[ptr C.tq] w (GWk B w0 C x d P l s):=by
 have S1:Hid (Sep B w0 (((w.alloc (.cells #[.slice none 0 0] 48)).alloc (.map #[] 0)).alloc (.cells #[.map (some (w.heap.size+1))] 83)) (TL C x d1 P (zq (w.heap.size+2) w.heap.size [] P::l))):=by
  have h1:=Sep.NC (e:=56) (k:=6) (h.aN (.cells #[.slice none 0 0] 48));have h2:=Sep.Bu h1;have h3:=Sep.aU h2 (.cells #[.map (some (w.heap.size+1))] 83) (w.heap.size+2) (by simp);refine Sep.Fk (Sep.J7 (g:=fun _=>none) (m:=w.heap.size+1) (n:=0) (vl:=.slice none 0 0) (V:=[]) (fun _ _=>rfl) rfl (fun _ hc=>by cases hc) (Nat.le_refl _) ?_);simp only[World.size_alloc]at h3;exact Sep.pb2 (Sep.td h3)
 have KG:Hid (∀u,Calls Tryz.prog 27 #[ptr C.tq] u fun e w'=>e=.returned (ptr C.tq)∧u=w'):=fun u=>gD u C.tq;have KP:Hid _:=hk _ _ _ S1.out;have hmk:=SP (w.alloc (.cells #[.slice none 0 0] 48));clear h hk hd;go_enter Tryz.func19,Tryz.ntmps19
 go_wp2_with fail
 refine Calls.mono (KG.out _) ?_;rintro e w1 ⟨rfl,rfl⟩;clear KG
 go_wp2_with fail
 clear S1;generalize World.alloc _ _=w1 at*;generalize w.heap.size+2=pd at*;generalize w.heap.size=pl at*;refine Calls.mono KP.out ?_;rintro e w2 ⟨rfl,P',d',m1,m2,s2⟩;obtain⟨g,m,ao,c,V,n,_,hV,hP,_,ho⟩:=Sep.J6 (Sep.iU (s2));have HO:Hid _:=ho;have HM:Hid ((∀v∈V,v.2.2∈P')∧(∀y∈P,y∈P')∧bp d d'∧V.map uR=s):=⟨hP,m1,m2,hV⟩;obtain⟨ps,p0,_⟩:=Sep.c1 (Sep.lr ho);clear KP s2 m1 m2 ho hP hV;go_wp2;go_ret2;exact⟨ao,c,V,rfl,HM.out.2.2.2,P',d',HM.out.1,HM.out.2.1,HM.out.2.2.1,Sep.Fk (Sep.drop (Sep.drop (Sep.drop HO.out)))⟩
end
end
end Go.Proofs.YtceoeaemenhbhabGreatDoor
namespace Go.Proofs.YtceoeaemenhbhabGreatDoor
namespace P
open N
section
variable {σ:Type}{st:σ->En->σ×Bool}{fr tt:ByteArray}{h:Nat}
theorem Kd:∀(l m:List En) (s:σ),kS st (l++m) s=if(kS st l s).2=false then kS st l s else kS st m (kS st l s).1
 |[],m,s=>rfl
 |e::l,m,s=>by
  rw[List.cons_append,kS,kS];by_cases hb:(st s e).2=false
  ·rw[if_pos hb,if_pos hb];simp
  ·rw[if_neg hb,if_neg hb];exact Kd l m _
theorem Ds (l m:List En):iD fr tt (l++m)=iD fr tt l++iD fr tt m:=List.filter_append ..
theorem Dt {l:List En}(h:∀e∈l,bh e.1 fr=true∨bH tt e.1=false):iD fr tt l=[]:=by
 unfold iD;rw[List.filter_eq_nil_iff];intro e he hc;simp only[Bool.and_eq_true,Bool.not_eq_true']at hc;rcases h e he with h1|h1
 ·rw[hc.1]at h1;cases h1
 ·rw[hc.2]at h1;cases h1
theorem Ke {fr' PK:ByteArray}{l:List En}(h:∀e∈l,bh e.1 fr'=bh e.1 fr∧bH PK e.1=bH tt e.1):iD fr' PK l=iD fr tt l:=by
 unfold iD;refine List.filter_congr fun e he=>?_;rw[(h e he).1,(h e he).2]
theorem qu {k:ByteArray}:bH tt k=true↔tt=⟨#[]⟩∨bh k tt=true:=by simp[bH]
theorem Bg {k:ByteArray}:bH tt k=false↔tt≠⟨#[]⟩∧bh k tt=false:=by simp[bH]
theorem SU {k k':ByteArray}(h:bH tt k'=true)(hk:bh k k'=true):bH tt k=true:=by
 rcases qu.1 h with h|h
 ·exact qu.2 (.inl h)
 ·exact qu.2 (.inr (cT hk h))
theorem Kf {k k':ByteArray}(h:bH tt k=false)(hk:bh k' k=false):bH tt k'=false:=by
 obtain⟨h1,h2⟩:=Bg.1 h;refine Bg.2 ⟨h1,?_⟩;cases hc:bh k' tt with
 |false=>rfl
 |true=>
  have:=gA h2 hc;rw[hk]at this;cases this
theorem PL:∀(l:List En) (s:σ),l.Pairwise (fun x y=>bh x.1 y.1=true)->
  (wQ st tt l s).1=(kS st (l.filter fun e=>bH tt e.1) s).1∧((wQ st tt l s).2=none->(kS st (l.filter fun e=>bH tt e.1) s).2=true)∧∀b,(wQ st tt l s).2=some b->(kS st (l.filter fun e=>bH tt e.1) s).2=b
 |[],s,_=>⟨rfl,fun _=>rfl,fun b hb=>by cases hb⟩
 |e::l,s,hp=>by
  obtain⟨p1,p2⟩:=List.pairwise_cons.1 hp;rw[wQ];by_cases hh:bH tt e.1=false
  ·rw[if_pos hh];have:(e::l).filter (fun e=>bH tt e.1)=[]:=by
    rw[List.filter_eq_nil_iff];intro x hx hc;rcases List.mem_cons.1 hx with rfl|hx
    ·rw[hh]at hc;cases hc
    ·rw[Kf hh (fq (p1 x hx))]at hc;cases hc
   rw[this];exact⟨rfl,fun hc=>by simp at hc,fun b hb=>by cases hb;rfl⟩
  ·rw[if_neg hh];have ht:bH tt e.1=true:=by simpa using hh
   have:(e::l).filter (fun e=>bH tt e.1)=e::l.filter (fun e=>bH tt e.1):=by rw[List.filter_cons_of_pos (by simpa using ht)]
   rw[this,kS];by_cases hb:(st s e).2=false
   ·rw[if_pos hb,if_pos hb];exact⟨rfl,fun hc=>by simp at hc,fun b hb'=>by simp at hb';rw[<-hb']⟩
   ·rw[if_neg hb,if_neg hb];exact PL l _ p2
theorem zy {l:List En}(hp:l.Pairwise (fun x y=>bh x.1 y.1=true)):l.drop (jd l fr)=l.filter fun e=>!bh e.1 fr:=by
 induction l with
 |nil=>rfl
 |cons e l ih=>
  obtain⟨p1,p2⟩:=List.pairwise_cons.1 hp;have ih:=ih p2;unfold jd at ih⊢;by_cases he:bh e.1 fr=true
  ·rw[List.countP_cons_of_pos (by simpa using he),List.drop_succ_cons,ih,List.filter_cons_of_neg (by simp[he])]
  ·have hall:∀x∈e::l,bh x.1 fr=false:=fun x hx=>by
    rcases List.mem_cons.1 hx with rfl|hx
    ·simpa using he
    ·cases hc:bh x.1 fr with
     |false=>rfl
     |true=>exact absurd (cT (p1 x hx) hc) he
   rw[List.countP_eq_zero.2 (fun x hx=>by simp[hall x hx]),List.drop_zero];exact(List.filter_eq_self.2 fun x hx=>by simp[hall x hx]).symm
theorem SV (l:List En):iD fr tt l=(l.filter fun e=>!bh e.1 fr).filter fun e=>bH tt e.1:=by
 unfold iD;rw[List.filter_filter];exact List.filter_congr fun e _=>Bool.and_comm _ _
theorem Kg {A B:List (KT h)}{u:KT h}{sA sB:List ByteArray}{s:ByteArray}(hA:A.length=sA.length)(ho:bP (dw (A++u::B) (sA++sB)))(hs:s∈sA){x:En}(hx:x∈bD (u::B)):bh x.1 s=false:=by
 have e1:dw (A++u::B) (sA++sB)=dw A sA++dw (u::B) sB:=by
  unfold dw;rw[List.map_append,mO _ _ (by simpa using hA)]
 rw[e1]at ho;have h1:(true,s)∈dw A sA:=by
  have:=(gV (A.map fun u=>cx h u.2) sA (by simp;omega)).subset (List.mem_map_of_mem (f:=fun s=>((true,s):It)) hs);exact this
 have h2:(false,x.1)∈dw (u::B) sB:=sN hx _ (fun _ h=>h) sB;have:=(List.pairwise_append.1 ho.up).2.2 _ h1 _ h2;simpa[RI]using this
theorem SX {A B:List (KT h)}{u:KT h}{sA sB:List ByteArray}{s:ByteArray}(hA:A.length=sA.length)(ho:bP (dw (A++u::B) (sA++s::sB)))(hB:B≠[]){x:En}(hx:x∈dM h u.2):bh x.1 s=true:=by
 rw[eO hA]at ho;obtain⟨v,B,rfl⟩:∃v B',B=v::B':=by
  cases B with
  |nil=>exact absurd rfl hB
  |cons v B=>exact⟨v,B,rfl⟩
 rw[List.map_cons,iX]at ho;have h1:=(List.pairwise_append.1 (List.pairwise_append.1 ho.up).2.1).2.2 _ (ja h u.2 x hx) (true,s) (by simp);simpa[RI]using h1
theorem ahead:∀(A:List (KT h)) (sA:List ByteArray),A.length=sA.length->bP (dw A sA)->∀x∈bD A,∃s∈sA,bh x.1 s=true
 |[],_,_,_,x,hx=>by cases hx
 |u::A,[],hl,_,_,_=>by simp at hl
 |u::A,s::sA,hl,ho,x,hx=>by
  have e1:dw (u::A) (s::sA)=cx h u.2++(true,s)::dw A sA:=rfl;rw[e1]at ho;rw[bV]at hx;rcases List.mem_append.1 hx with hx|hx
  ·have h1:=(List.pairwise_append.1 ho.up).2.2 _ (ja h u.2 x hx) (true,s) (by simp);exact⟨s,by simp,by simpa[RI]using h1⟩
  ·obtain⟨s1,h1,h2⟩:=ahead A sA (by simpa using hl) (ho.sub (List.Sublist.trans (List.sublist_cons_self _ _) (List.sublist_append_right _ _))) x hx;exact⟨s1,by simp[h1],h2⟩
theorem zA (sA:List ByteArray)(s:ByteArray)(sB:List ByteArray):(sA++s::sB).getD sA.length ⟨#[]⟩=s:=by simp[List.getD_eq_getElem?_getD]
theorem Fa {A B:List (KT h)}{u:KT h}:((A++u::B).map Prod.fst).getD A.length (0:Int)=u.1:=by simp[List.getD_eq_getElem?_getD]
theorem Du {rec:σ->Int->ByteArray->ByteArray->Option (σ×(Bool×Int))}:∀(B A:List (KT h)) (sA sB:List ByteArray) (s:σ),A.length=sA.length->sB.length+1=B.length->bP (dw (A++B) (sA++sB))->(∀s∈sB,bh fr s=true)->
  (∀u∈B,∀s fr' PK,rec s u.1 fr' PK=some ((kS st (iD fr' PK (dM h u.2)) s).1,((kS st (iD fr' PK (dM h u.2)) s).2,0)))->
  jb rec (aV (h+1) (bI (A++B) (sA++sB))) fr tt B.length A.length s=some ((kS st (iD fr tt (bD B)) s).1,((kS st (iD fr tt (bD B)) s).2,0))
 |[],_,_,_,_,_,hl,_,_,_=>by simp at hl
 |u::B,A,sA,sB,s,hA,hl,ho,hfr,hrec=>by
  have hlB:sB.length=B.length:=by simpa using hl
  rw[List.length_cons,jb,bU];simp only;rw[if_neg (by simp;omega),Fa];have VF:∀x∈bD (u::B),bh x.1 (j5 (sA++sB) A.length fr)=bh x.1 fr:=fun x hx=>by
   unfold j5;split
   ·rename_i hc
    have hm:(sA++sB).getD (A.length-1) ⟨#[]⟩∈sA:=by
     rw[hA,List.getD_eq_getElem?_getD,List.getElem?_append_left (by omega),List.getElem?_eq_getElem (by omega)];exact List.getElem_mem _
    rw[Kg hA ho hm hx];cases hx2:bh x.1 fr with
    |false=>rfl
    |true=>have:=cT hx2 hc.2;rw[Kg hA ho hm hx]at this;cases this
   ·rfl
  have key:(bH (gW (sA++sB) A.length tt) (j5 (sA++sB) A.length fr)=false->iD fr tt (bD (u::B))=[])∧∀x∈dM h u.2,bH (gW (sA++sB) A.length tt) x.1=bH tt x.1:=by
   have plain:gW (sA++sB) A.length tt=tt->(bH (gW (sA++sB) A.length tt) (j5 (sA++sB) A.length fr)=false->iD fr tt (bD (u::B))=[])∧∀x∈dM h u.2,bH (gW (sA++sB) A.length tt) x.1=bH tt x.1:=fun e=>by
    rw[e];refine⟨fun hc=>Dt fun x hx=>?_,fun _ _=>rfl⟩;cases h1:bh x.1 fr with
    |true=>exact .inl rfl
    |false=>exact .inr (Kf hc (by rw[VF x hx,h1]))
   cases sB with
   |nil=>
    apply plain;unfold gW;rw[if_neg (by simp;omega)]
   |cons s1 sB=>
    by_cases hs:bH tt s1=true
    ·have e:gW (sA++s1::sB) A.length tt=s1:=by
      unfold gW;rw[hA,zA,if_pos ⟨by simp,hs⟩]
     have YF:B≠[]:=by intro e;rw[e]at hlB;simp at hlB
     rw[e];refine⟨fun hc=>?_,fun x hx=>?_⟩
     ·exfalso;have h1:bh (j5 (sA++s1::sB) A.length fr) s1=true:=by
       unfold j5;split
       ·rename_i hc2
        have hp:=kF (h:=h) (K:=A++u::B) (ss:=sA++s1::sB) (by simp at hl⊢;omega) ho;have h2:sA.length-1<sA.length:=by omega
        rw[hA,List.getD_eq_getElem?_getD,List.getElem?_append_left (by omega),List.getElem?_eq_getElem h2];exact(List.pairwise_append.1 hp).2.2 _ (List.getElem_mem h2) s1 (by simp)
       ·exact hfr s1 (by simp)
      rw[Bg]at hc;rw[h1]at hc;cases hc.2
     ·have h1:=SX hA ho YF hx;rw[SU hs h1];exact qu.2 (.inr h1)
    ·apply plain;unfold gW;rw[hA,zA,if_neg (fun hc=>hs hc.2)]
  by_cases hh:bH (gW (sA++sB) A.length tt) (j5 (sA++sB) A.length fr)=false
  ·rw[if_pos hh,key.1 hh];rfl
  ·rw[if_neg hh,hrec u (by simp)];have e1:iD (j5 (sA++sB) A.length fr) (gW (sA++sB) A.length tt) (dM h u.2)=iD fr tt (dM h u.2):=Ke fun x hx=>⟨VF x (by rw[bV];exact List.mem_append_left _ hx),key.2 x hx⟩;rw[e1,bV,Ds,Kd];simp only;cases hb:(kS st (iD fr tt (dM h u.2)) s).2 with
   |false=>
    rw[if_pos (.inr rfl),if_pos rfl,hb]
   |true=>
    rw[if_neg (by simp),if_neg (by simp)];cases sB with
    |nil=>
     have:B=[]:=List.length_eq_zero_iff.1 (by simpa using hlB.symm);subst this;rw[show([]:List (KT h)).length=0 from rfl,jb];rfl
    |cons s1 sB=>
     have:=Du B (A++[u]) (sA++[s1]) sB (kS st (iD fr tt (dM h u.2)) s).1 (by simp;omega) (by simpa using hlB) (by simpa using ho) (fun s hs=>hfr s (by simp[hs])) (fun v hv=>hrec v (by simp[hv]));rw[bU]at this;simpa using this
variable {room:Nat}{d:Dk}{S:Dr}{x:TX}
theorem uS {id depth:Int}{f:Nat}{s:σ}{l:List En}(hrd:dJ x d id depth=(⟨true,l,[],[]⟩,0))(hsm:bZ ⟨true,l,[],[]⟩=true)(hrt:cI ⟨true,l,[],[]⟩=true)(hdp:depth<=1000)(hp:l.Pairwise (fun x y=>bh x.1 y.1=true)):
  fI x d st (f+1) s id depth fr tt=some ((kS st (iD fr tt l) s).1,((kS st (iD fr tt l) s).2,0)):=by
 rw[fI,hrd,if_neg (by simp),if_neg (by rw[hsm,hrt];simp;omega)];obtain⟨a1,a2,a3⟩:=PL (st:=st) (tt:=tt) (l.filter fun e=>!bh e.1 fr) s (hp.sublist (List.filter_sublist ..));simp only;rw[SV,zy hp];cases hc:(wQ st tt (l.filter fun e=>!bh e.1 fr) s).2 with
 |none=>
  have:=a2 hc;simp only;rw[<-a1];simp only[List.length_nil,Nat.zero_sub];rw[jb,this]
 |some b=>
  simp only;rw[a3 b hc,<-a1]
theorem Dv (hr:room<=16384):∀(h:Nat) (u:KT h) (depth:Int) (f:Nat) (fr tt:ByteArray) (s:σ),Gb room d (eQ x) h u.2->(eQ x).vw d u.1=(aV h u.2,0)->depth+h<24->h<f->
  fI x d st f s u.1 depth fr tt=some ((kS st (iD fr tt (dM h u.2)) s).1,((kS st (iD fr tt (dM h u.2)) s).2,0))
 |h,_,_,0,_,_,_,_,_,_,hf=>absurd hf (by omega)
 |0,u,depth,f+1,fr,tt,s,G,rd,hd,hf=>by
  have hrd:dJ x d u.1 depth=(aV 0 u.2,0):=by
   have h1:=(eQ x).gF d u.1 depth (by omega);rw[rd]at h1;rw[<-h1];unfold Dr.read;rw[if_neg (by simp[eQ])];rfl
  exact uS (l:=u.2) hrd (G.sm hr) (Dc hr G.sd _ G.wl G.us G.od G.vl) (by omega) (bP.leaf G.od G.vl:Rg (show List En from u.2)).1
 |h+1,u,depth,f+1,fr,tt,s,G,rd,hd,hf=>by
  obtain⟨p,b⟩:=u;obtain⟨K,ss,rfl⟩:=eZ b;have hrd:dJ x d p depth=(aV (h+1) (bI K ss),0):=by
   have h1:=(eQ x).gF d p depth (by omega);rw[rd]at h1;rw[<-h1];unfold Dr.read;rw[if_neg (by simp[eQ])];rfl
  have R0:=G.rw;have hl:ss.length+1=K.length:=G.wl.1;obtain⟨sA,sB,rfl,hch,k1,k2⟩:=wL (key:=fr) (kF (by omega) R0.od);obtain⟨A,B,rfl,hA⟩:∃A B,K=A++B∧A.length=sA.length:=⟨K.take sA.length,K.drop sA.length,(List.take_append_drop _ _).symm,by rw[List.length_take];simp at hl;omega⟩;have hB:sB.length+1=B.length:=by simp at hl;omega
  rw[fI,hrd,if_neg (by simp),if_neg (by rw[G.sm hr,Dc hr G.sd _ G.wl G.us G.od G.vl];simp;omega)];have e1:(aV (h+1) (bI (A++B) (sA++sB))).es=[]:=rfl;have e2:(aV (h+1) (bI (A++B) (sA++sB))).ks.length=A.length+B.length:=by rw[bU];simp
  have e3:(aV (h+1) (bI (A++B) (sA++sB))).ss=sA++sB:=rfl;simp only[e1,e2,e3,hch,List.drop_nil,wQ];rw[<-hA,Nat.add_sub_cancel_left];have:=Du (st:=st) (fr:=fr) (tt:=tt) (rec:=fun s id fr tt=>fI x d st f s id (depth+1) fr tt) B A sA sB s hA hB R0.od k2 fun v hv s' fr' PK=>by
   obtain⟨B1,B2,rfl⟩:=List.append_of_mem hv;have hwz:=R0.wl v (by simp);have hsub:(bn h v.2).Sublist (aW (A++(B1++v::B2))):=by
    rw[bc,bc,bE,bY];exact List.Sublist.trans (List.sublist_cons_self _ _) (List.Sublist.trans (List.sublist_append_left _ _) (List.Sublist.trans (List.sublist_append_right _ _) (List.sublist_append_right _ _)))
   have YG:bP (cx h v.2):=by
    have:(cx h v.2).Sublist (dw (A++(B1++v::B2)) (sA++sB)):=by
     exact List.Sublist.trans (List.sublist_flatten_of_mem (List.mem_map_of_mem (f:=fun u:KT h=>cx h u.2) (by simp))) (qj _ _)
    exact R0.od.sub this
   have Gw:Gb room d (eQ x) h v.2:=⟨G.sd,hwz.1,hwz.2,fun p hp=>R0.us p (hsub.subset hp),R0.nd.sublist hsub,fun y hy=>R0.is y (by rw[dg,dg,dF];simp[nT,hy]),YG,fun y hy=>R0.vl y (by rw[bQ,bQ,bV];simp[hy])⟩;exact Dv hr h v (depth+1) f fr' PK s' Gw (R0.is (v.1,aV h v.2) (by rw[dg,dg,dF];simp[nT])) (by omega) (by omega)
  rw[this,oM,bQ,Ds];have eA:iD fr tt (bD A)=[]:=by
   refine Dt fun y hy=>.inl ?_;have hoA:bP (dw A sA):=by
    have:=R0.od;unfold dw at this⊢;rw[List.map_append,mO _ _ (by simpa using hA)]at this;exact this.sub (List.sublist_append_left _ _)
   obtain⟨s1,h1,h2⟩:=ahead A sA hA hoA y hy;exact gA (k1 s1 h1) h2
  rw[eA,List.nil_append]
end
end P
namespace P
open N
def tv:(h:Nat)->Int->KT h->List Pg
 |0,dp,u=>[(u.1,dp,aV 0 u.2)]
 |h+1,dp,u=>(u.1,dp,aV (h+1) u.2)::((show List (KT h)from u.2.1).map (tv h (dp+1))).flatten
theorem sR {h:Nat}(dp p:Int)(K:List (KT h))(ss:List ByteArray):tv (h+1) dp (p,bI K ss)=(p,dp,⟨false,[],K.map Prod.fst,ss⟩)::(K.map (tv h (dp+1))).flatten:=rfl
theorem qw:∀(h:Nat) (dp:Int) (u:KT h),(tv h dp u).map Prod.fst=dN u
 |0,dp,u=>rfl
 |h+1,dp,(p,b)=>by
  obtain⟨K,ss,rfl⟩:=eZ b;have e:∀K:List (KT h),((K.map (tv h (dp+1))).flatten).map Prod.fst=aW K:=fun K=>by
   induction K with
   |nil=>rfl
   |cons v K ih=>rw[List.map_cons,List.flatten_cons,List.map_append,ih,qw h (dp+1) v,bE]
  rw[sR,List.map_cons,e K];rfl
section
variable {room:Nat}{d:Dk}{x:TX}
theorem wT (h:Nat)(dp:Int)(u:KT h):(tv h dp u).length=(dN u).length:=by rw[<-qw h dp u,List.length_map]
theorem Kh {h:Nat}{rec:List Pg->Int->Option (List Pg×Int)}{dp:Int}:∀(K:List (KT h)) (s:List Pg),(aW K).Nodup->(∀k∈aW K,∀p∈s,p.1≠k)->s.length+(aW K).length<=100000->
  (∀u∈K,∀s:List Pg,(∀k∈dN u,∀p∈s,p.1≠k)->s.length+(dN u).length<=100000->rec s u.1=some (s++tv h dp u,0))->
  tU rec (K.map Prod.fst) s=some (s++(K.map (tv h dp)).flatten,0)
 |[],s,_,_,_,_=>by simp[tU]
 |u::K,s,nd,hn,hl,hrec=>by
  rw[bE]at nd hn hl;obtain⟨n1,n2,n3⟩:=List.nodup_append.1 nd;rw[List.length_append]at hl;have r1:=hrec u (by simp) s (fun k hk=>hn k (List.mem_append_left _ hk)) (by omega);have q1:=Kh (dp:=dp) K (s++tv h dp u) n2 (fun k hk p hp=>by
   rcases List.mem_append.1 hp with hp|hp
   ·exact hn k (List.mem_append_right _ hk) p hp
   ·have h1:p.1∈dN u:=by rw[<-qw h dp u];exact List.mem_map_of_mem hp
    exact fun e=>n3 p.1 h1 k hk e) (by rw[List.length_append,wT];omega) (fun v hv=>hrec v (by simp[hv]))
  rw[List.map_cons,tU,r1];simp only;rw[if_neg (by simp),q1];simp
theorem Dw (hr:room<=16384):∀(h:Nat) (u:KT h) (depth:Int) (f:Nat) (s:List Pg),Gb room d (eQ x) h u.2->(eQ x).vw d u.1=(aV h u.2,0)->(dN u).Nodup->(∀k∈dN u,∀p∈s,p.1≠k)->s.length+(dN u).length<=100000->0<=depth->depth+h<24->h<f->
  fJ x d f s u.1 depth=some (s++tv h depth u,0)
 |h,_,_,0,_,_,_,_,_,_,_,_,hf=>absurd hf (by omega)
 |0,u,depth,f+1,s,G,rd,nd,hn,hl,h0,hd,hf=>by
  have hrd:dJ x d u.1 depth=(aV 0 u.2,0):=by
   have h1:=(eQ x).gF d u.1 depth (by omega);rw[rd]at h1;rw[<-h1];unfold Dr.read;rw[if_neg (by simp[eQ])];rfl
  have e0:dN u=[u.1]:=rfl;have h1:(s.any fun p=>decide (p.1=u.1))=false:=by
   rw[List.any_eq_false];intro p hp;simpa using hn u.1 (by rw[e0];simp) p hp
  rw[fJ,hrd,if_neg (by simp),if_neg (by rw[G.sm hr,h1];simp;omega)];rfl
 |h+1,(p,b),depth,f+1,s,G,rd,nd,hn,hl,h0,hd,hf=>by
  obtain⟨K,ss,rfl⟩:=eZ b;have hrd:dJ x d p depth=(aV (h+1) (bI K ss),0):=by
   have h1:=(eQ x).gF d p depth (by omega);rw[rd]at h1;rw[<-h1];unfold Dr.read;rw[if_neg (by simp[eQ])];rfl
  have R0:=G.rw;have e0:dN ((p,bI K ss):KT (h+1))=p::aW K:=rfl;rw[e0]at nd hn hl;obtain⟨n1,n2⟩:=List.nodup_cons.1 nd;have h1:(s.any fun q=>decide (q.1=p))=false:=by
   rw[List.any_eq_false];intro q hq;simpa using hn p (by simp) q hq
  rw[List.length_cons]at hl;rw[fJ,hrd,if_neg (by simp),if_neg (by rw[G.sm hr,h1];simp;omega)];have:=Kh (h:=h) (rec:=fun s k=>fJ x d f s k (depth+1)) (dp:=depth+1) K (s++[(p,depth,aV (h+1) (bI K ss))]) n2 (fun k hk q hq=>by
   rcases List.mem_append.1 hq with hq|hq
   ·exact hn k (List.mem_cons_of_mem _ hk) q hq
   ·rw[List.mem_singleton.1 hq];exact fun e=>n1 (by rw[show p=k from e];exact hk)) (by rw[List.length_append,List.length_singleton];omega) (fun v hv s' hs' hl'=>by
   obtain⟨B1,B2,rfl⟩:=List.append_of_mem hv
   have hwz:=R0.wl v (by simp)
   have hsub:(bn h v.2).Sublist (aW (B1++v::B2)):=by
    rw[bc,bE,bY]
    exact List.Sublist.trans (List.sublist_cons_self _ _) (List.Sublist.trans (List.sublist_append_left _ _) (List.sublist_append_right _ _))
   have YG:bP (cx h v.2):=R0.od.sub (List.Sublist.trans (List.sublist_flatten_of_mem (List.mem_map_of_mem (f:=fun u:KT h=>cx h u.2) (by simp))) (qj _ _))
   have Gw:Gb room d (eQ x) h v.2:=⟨G.sd,hwz.1,hwz.2,fun p hp=>R0.us p (hsub.subset hp),R0.nd.sublist hsub,fun y hy=>R0.is y (by rw[dg,dF];simp[nT,hy]),YG,fun y hy=>R0.vl y (by rw[bQ,bV];simp[hy])⟩
   exact Dw hr h v (depth+1) f s' Gw (R0.is (v.1,aV h v.2) (by rw[dg,dF];simp[nT])) (R0.nd.sublist (by rw[bc,bE];exact List.Sublist.trans (List.sublist_append_left _ _) (List.sublist_append_right _ _))) hs' hl' (by omega) (by omega) (by omega))
  rw[sR];show tU (fun s k=>fJ x d f s k (depth+1)) (K.map Prod.fst) _=_;rw[this];simp[bU]
end
end P
namespace P
open N
def oN (sA:List ByteArray)(lo:ByteArray):ByteArray:=sA.getLast?.getD lo
def uT (sB:List ByteArray)(hi:ByteArray):ByteArray:=sB.head?.getD hi
def Bnd (lo hi:ByteArray)(l:List It):Prop:=∀x∈l,bh x.2 lo=false∧(hi=⟨#[]⟩∨bh x.2 hi=true)
def WB:(h:Nat)->BT h->ByteArray->ByteArray->Prop
 |0,l,lo,hi=>cI (aV 0 l)=true∧bZ (aV 0 l)=true∧dG (aV 0 l)<=240∧(show List En from l)≠[]∧∀x∈(show List En from l),bh x.1 lo=false∧(hi=⟨#[]⟩∨bh x.1 hi=true)
 |h+1,t,lo,hi=>cI (aV (h+1) t)=true∧bZ (aV (h+1) t)=true∧dG (aV (h+1) t)<=240∧t.2.length+1=t.1.length∧∀(A:List (KT h)) (u:KT h) (B:List (KT h)) (sA sB:List ByteArray),t.1=A++u::B->t.2=sA++sB->A.length=sA.length->
   bh (oN sA lo) lo=false∧(hi=⟨#[]⟩∨bh hi (uT sB hi)=false)∧WB h u.2 (oN sA lo) (uT sB hi)
theorem Ki (k:ByteArray):bh k ⟨#[]⟩=false:=by
 unfold bh;rw[show(⟨#[]⟩:ByteArray).toList=[]from by simp];cases k.toList<;>rfl
section
variable {room:Nat}{d:Dk}{S:Dr}
theorem PM (hr:room<=16384):∀(h:Nat) (b:BT h) (lo hi:ByteArray),Gb room d S h b->Bnd lo hi (cx h b)->WB h b lo hi
 |0,b,lo,hi,G,bd=>by
  refine⟨kC b G.od G.vl,G.sm hr,G.sz,G.wl,fun x hx=>?_⟩;exact bd (false,x.1) (List.mem_map_of_mem (f:=fun(x:En)=>((false,x.1):It)) hx)
 |h+1,b,lo,hi,G,bd=>by
  obtain⟨K,ss,rfl⟩:=eZ b;have R0:=G.rw;refine⟨Dc hr G.sd _ G.wl G.us G.od G.vl,G.sm hr,G.sz,G.wl.1,fun A u B sA sB e1 e2 hA=>?_⟩;have e1:K=A++u::B:=e1;have e2:ss=sA++sB:=e2;subst e1 e2;have hl:(sA++sB).length+1=(A++u::B).length:=G.wl.1;have hB:B.length=sB.length:=by simp at hl;omega
  have hwz:=R0.wl u (by simp);have bd:Bnd lo hi (dw (A++u::B) (sA++sB)):=bd;have od:bP (dw (A++u::B) (sA++sB)):=R0.od;rw[eO hA]at bd od;have hsub:(bn h u.2).Sublist (aW (A++u::B)):=by
   rw[bc,bE,bY];exact List.Sublist.trans (List.sublist_cons_self _ _) (List.Sublist.trans (List.sublist_append_left _ _) (List.sublist_append_right _ _))
  have Gw:Gb room d S h u.2:=⟨G.sd,hwz.1,hwz.2,fun p hp=>R0.us p (hsub.subset hp),R0.nd.sublist hsub,fun y hy=>R0.is y (by rw[dg,dF];simp[nT,hy]),od.sub (List.Sublist.trans (List.sublist_append_left _ _) (List.sublist_append_right _ _)),fun y hy=>R0.vl y (by rw[bQ,bV];simp[hy])⟩;have VG:∀s∈sA,(true,s)∈dw A sA:=fun s hs=>by
   have:=(gV (A.map fun(u:KT h)=>cx h u.2) sA (by simp;omega)).subset (List.mem_map_of_mem (f:=fun s=>((true,s):It)) hs);exact this
  have hlast:oN sA lo=lo∨oN sA lo∈sA:=by
   unfold oN;cases hs:sA.getLast? with
   |none=>exact .inl rfl
   |some s=>exact .inr (List.mem_of_getLast? hs)
  have hhead:(sB=[]∧uT sB hi=hi)∨∃s lF,sB=s::lF∧uT sB hi=s:=by
   cases sB with
   |nil=>exact .inl ⟨rfl,rfl⟩
   |cons s lF=>exact .inr ⟨s,lF,rfl,rfl⟩
  have inH:∀s lF,sB=s::lF->(true,s)∈jB (B.map fun u=>cx h u.2) sB:=fun s lF e=>by
   subst e;cases B with
   |nil=>simp at hB
   |cons v B=>rw[List.map_cons,iX];simp
  obtain⟨p1,p2,p3⟩:=List.pairwise_append.1 od.up;obtain⟨p4,p5,p6⟩:=List.pairwise_append.1 p2;refine⟨?_,?_,PM hr h u.2 _ _ Gw fun x hx=>⟨?_,?_⟩⟩
  ·rcases hlast with e|hm
   ·rw[e];exact dt _
   ·exact(bd _ (List.mem_append_left _ (VG _ hm))).1
  ·rcases hhead with⟨_,e⟩| ⟨s,lF,es,e⟩
   ·rw[e];exact .inr (dt _)
   ·rw[e];rcases(bd _ (List.mem_append_right _ (List.mem_append_right _ (inH s lF es)))).2 with h1|h1
    ·exact .inl h1
    ·exact .inr (fq h1)
  ·rcases hlast with e|hm
   ·rw[e];exact(bd x (List.mem_append_right _ (List.mem_append_left _ hx))).1
   ·have h1:=p3 _ (VG _ hm) x (List.mem_append_left _ hx);by_cases hb:x.1=true
    ·have h2:bh (oN sA lo) x.2=true:=by simpa[RI,hb]using h1
     exact fq h2
    ·simpa[RI,hb]using h1
  ·rcases hhead with⟨_,e⟩| ⟨s,lF,es,e⟩
   ·rw[e];exact(bd x (List.mem_append_right _ (List.mem_append_left _ hx))).2
   ·rw[e];have h1:=p6 x hx (true,s) (inH s lF es);exact .inr (by simpa[RI]using h1)
theorem Oz (hr:room<=16384){h:Nat}{b:BT h}(G:Gb room d S h b):WB h b ⟨#[]⟩ ⟨#[]⟩:=PM hr h b _ _ G fun x _=>⟨Ki _,.inl rfl⟩
end
end P
namespace P
open N
section
variable {x:TX}{d:Dk}{key:ByteArray}
variable {σ:Type}{st:σ->En->σ×Bool}{fr tt:ByteArray}
end
end P
namespace P
open N
section
variable {room:Nat}{d:Dk}{S:Dr}{x:TX}{root:Int}{E:List En}{X:List Int}{H:Nat}
theorem TS.low (T:TS room d S root E X H)(hE:E.length<=200):H<=7:=by
 rcases T.cnt.2 with h|h
 ·omega
 ·rcases Nat.lt_or_ge 7 H with h7|h7
  ·have:2^8<=2^H:=Nat.pow_le_pow_right (by omega) h7;omega
  ·exact h7
def Cap (room:Nat)(d:Dk)(E:List En):Prop:=∀(S:Dr) (root:Int) (X:List Int) (H:Nat),TS room d S root E X H->(X.length:Int)+4*H+4< (room:Int)-2
theorem qy (hE:E.length<=200)(hr:400<=room):Cap room d E:=fun S root X H T=>by
 have h1:=T.cnt.1;have h2:=T.low hE;omega
theorem TS.flat (T:TS room d S root E X H)(hE:E.length<=3)(hz:cA E<80):H=0∧X.length<=1:=by
 rcases T with⟨a,b,c,e,f⟩| ⟨h,u,a,G,tb,e,rfl,rfl⟩
 ·subst c;exact⟨f,by simp⟩
 ·have T':TS room d S root E (dN u) h:=.inr ⟨h,u,a,G,tb,e,rfl,rfl⟩
  match h,u,G,tb,e,T' with
  |0,u,G,tb,e,T'=>exact⟨rfl,by simp[bY,bn,lD]⟩
  |1,u,G,tb,e,T'=>
   exfalso;obtain⟨p,b⟩:=u;obtain⟨K,ss,rfl⟩:=eZ b;have hl:ss.length+1=K.length:=G.g.wl.1;have h1:K.length≠1:=tb;have kp:∀i,KP K ss i:=G.g.wl.2.1
   match K,ss,hl,h1,kp,e with
   |[],ss,hl,h1,kp,e=>simp at hl
   |[u],ss,hl,h1,kp,e=>exact h1 rfl
   |u::v::K,[],hl,h1,kp,e=>simp at hl
   |u::v::K,s::ss,hl,h1,kp,e=>
    have k0:=(kp 0 [] u v K [] s ss rfl rfl rfl).1 rfl;have e1:(show List En from u.2)++((show List En from v.2)++bD K)=E:=by rw[<-e];rfl
    have hz2:cA (show List En from u.2)+(cA (show List En from v.2)+cA (bD K))<80:=by rw[<-jq,<-jq,e1];exact hz
    have h3:bS 0 u.2=cA (show List En from u.2):=rfl;have h4:bS 0 v.2=cA (show List En from v.2):=rfl;have h5:=k0 (by rw[h3];omega);rw[nU,h3,h4,if_pos rfl]at h5;omega
  |h+2,u,G,tb,e,T'=>
   exfalso;rcases T'.cnt.2 with h0|h0
   ·omega
   ·have:2^2<=2^(h+2):=Nat.pow_le_pow_right (by omega) (by omega);omega
theorem sS (hE:E.length<=3)(hz:cA E<80)(hr:8<=room):Cap room d E:=fun S root X H T=>by
 obtain⟨h1,h2⟩:=T.flat hE hz;omega
theorem Dx {σ:Type}{st:σ->En->σ×Bool}{fr tt:ByteArray}{s:σ}(hr:room<=16384)(T:TS room d (eQ x) root E X H)(hH:H+1<24):∃b,fI x d st 25 s root 0 fr tt=some ((kS st (iD fr tt E) s).1,(b,0)):=by
 rcases T with⟨rfl,rfl,rfl,sd,rfl⟩| ⟨h,u,rfl,G,tb,rfl,rfl,rfl⟩
 ·have hrd:dJ x d 0 0=(⟨true,[],[],[]⟩,0):=by unfold dJ;rw[if_pos rfl];rfl
  exact⟨_,uS (l:=[]) hrd (by decide) (by decide) (by omega) List.Pairwise.nil⟩
 ·exact⟨_,Dv hr h u 0 25 fr tt s G.g G.rd (by omega) (by omega)⟩
def SY (s:List Pg)(root:Int)(E:List En)(X:List Int)(H:Nat):Prop:=
 (root=0∧s=[]∧E=[]∧X=[]∧H=0)∨(root≠0∧∃h,∃u:KT h,u.1=root∧s=tv h 0 u∧WB h u.2 ⟨#[]⟩ ⟨#[]⟩∧dM h u.2=E∧dN u=X∧X.Nodup∧h=H∧Rg E)
theorem OC (hr:room<=16384)(T:TS room d (eQ x) root E X H)(hH:H+1<24)(hX:X.length<=100000):∃s,SY s root E X H∧(root≠0->fJ x d 25 [] root 0=some (s,0)):=by
 have hrg:=T.rg;rcases T with⟨rfl,rfl,rfl,sd,rfl⟩| ⟨h,u,rfl,G,tb,rfl,rfl,rfl⟩
 ·exact⟨[],.inl ⟨rfl,rfl,rfl,rfl,rfl⟩,fun h=>absurd rfl h⟩
 ·have h0:u.1≠0:=by have:=G.us.lo;omega
  refine⟨tv h 0 u,.inr ⟨h0,h,u,rfl,rfl,Oz hr G.g,rfl,rfl,G.JH.2.1,rfl,hrg⟩,fun _=>?_⟩;have:=Dw hr h u 0 25 [] G.g G.rd G.JH.2.1 (fun _ _ _ hp=>by cases hp) (by simpa using hX) (by omega) (by omega) (by omega);simpa using this
theorem PN:∀(l s:List En),kS (fun(s:List En) y=>(s++[y],true)) l s=(s++l,true)
 |[],s=>by simp[kS]
 |y::l,s=>by
  rw[kS,if_neg (by simp)];show kS _ l (s++[y])=_;rw[PN l (s++[y])];simp
theorem VH:∀(l:List En),(kS (fun(s:Option En) y=>(some y,false)) l none).1=l.head?
 |[]=>rfl
 |y::l=>by rw[kS,if_pos rfl];rfl
end
end P
end Go.Proofs.YtceoeaemenhbhabGreatDoor
namespace Go.Proofs.YtceoeaemenhbhabGreatDoor
open Go.Shelf Go.RowKit Go.Lib Go.Sort
namespace P
open N (Nd nd0 cE cI dG cA bO je fT Sm dA En Ak xP kP pG eK cF gi gp ie gT fY kJ Rg bh cj fk kf)
def gZ (B:Nat)(w0:World)(d:Dk)(C:Cx)(E:List En)(k:Nat)(l:List aP)(w:World):Prop:=
 ∃r x d1 P X H,Sep B w0 w (TL (C.cD r) x d1 P l)∧bp d d1∧Tx d.room d x r E X H∧Mn d.room x X∧x.cnt<=1000*k
section
variable {B:Nat}{w0 w w':World}{C:Cx}{d:Dk}{l:List aP}{key val fr tt:ByteArray}{E:List En}{k:Nat}
theorem gZ.of (h:gZ B w0 d C E k l w){l':List aP}(f:∀r x d1 P,Sep B w0 w (TL (C.cD r) x d1 P l)->Sep B w0 w' (TL (C.cD r) x d1 P l')):gZ B w0 d C E k l' w':=by
 obtain⟨r,x,d1,P,X,H,s,r1⟩:=h;exact⟨r,x,d1,P,X,H,f _ _ _ _ s,r1⟩
theorem gZ.rg (h:gZ B w0 d C E k l w):Rg E:=by
 obtain⟨r,x,d1,P,X,H,_,_,t,_⟩:=h;exact t.ts.rg
theorem gZ.lL {root:Int}{x:TX}{X:List Int}{H:Nat}(T:Tx d.room d x root E X H)(hE:E.length<=1000):H<=9∧X.length<=1800:=by
 have h1:=T.ts.cnt.1;rcases T.ts.cnt.2 with h|h
 ·omega
 ·rcases Nat.lt_or_ge 9 H with h7|h7
  ·have:2^10<=2^H:=Nat.pow_le_pow_right (by omega) h7;omega
  ·omega
theorem Kj {X:List Int}{H:Nat}{x:TX}{r er:Int}{P:List NV}{d1:Dk}{E':List En}(cap:Cap d.room d E)(hd:bp d d1)(T:Tx d.room d x r E X H)(M:Mn d.room x X)(hE:E.length<=200)(hE':E'.length<=201)(hk:x.cnt<=1000*k)(g:GX B w0 (C.cD r) x d P l X H E' er w):er=0∧gZ B w0 d C E' (k+1) l w:=by
 obtain⟨P',d',m1,m2,m3⟩:=g;rcases m3 with⟨_,hc,_⟩| ⟨he,x',r',X',H',T',M',hcnt,s⟩
 ·have h1:=hc M;have h2:=M.cap;have h3:=cap _ _ _ _ T.ts;omega
 ·refine⟨he,r',x',d',P',X',H',s,m2,T',M' M,?_⟩;have h1:=T.ts.low hE;have h2:=T.ts.cnt.1;have h4:=T'.ts.cnt.1;have h5:H'<=7:=by
   rcases T'.ts.cnt.2 with h|h
   ·omega
   ·rcases Nat.lt_or_ge 7 H' with h7|h7
    ·have:2^8<=2^H':=Nat.pow_le_pow_right (by omega) h7;omega
    ·exact h7
  omega
theorem mU (T:cd B w0)(hr:d.room<=16384)(h0:C.err=0)(hm:cF key val=true)(cap:Cap d.room d E)(hE:E.length<=200)(hk:k<=700)(h:gZ B w0 d C E k l w):
  Calls Tryz.prog 10 #[ptr C.tq,.string key,.string val] w fun e w'=>e=.returned (.int .i64 0)∧gZ B w0 d C (gp E key val) (k+1) l w':=by
 obtain⟨r,x,d1,P,X,H,s,hd,TT,M,hc⟩:=h;have hh:=gZ.lL TT (by omega);refine(SA (key:=key) (val:=val) T hr hd s h0 hm TT (by omega) (by omega) (by omega)).mono fun e w' ⟨er,he,g⟩=>?_;obtain⟨h1,h2⟩:=Kj cap hd TT M hE (by
  have:=wP key val E
  have e1:(Lf key val E).length=(gp E key val).length:=by unfold Lf;rw[if_pos (by rw[hm,fk TT.ts.rg];rfl)]
  omega) hc g
 rw[h1]at he;exact⟨he,h2⟩
theorem Dy (T:cd B w0)(hr:d.room<=16384)(h0:C.err=0)(cap:Cap d.room d E)(hE:E.length<=200)(hk:k<=700)(h:gZ B w0 d C E k l w):
  Calls Tryz.prog 17 #[ptr C.tq,.string key] w fun e w'=>e=.returned (.tuple #[.bool (fY E key),.int .i64 0])∧gZ B w0 d C (ie E key) (k+1) l w':=by
 obtain⟨r,x,d1,P,X,H,s,hd,TT,M,hc⟩:=h;have hh:=gZ.lL TT (by omega);refine(SC (key:=key) T hr hd s h0 TT (by omega) (by omega) (by omega)).mono fun e w' ⟨er,he,g⟩=>?_;obtain⟨h1,h2⟩:=Kj cap hd TT M hE (by
  have:=List.length_filter_le (fun x:En=>!decide (x.1=key)) E
  show(List.filter _ _).length<=_
  omega) hc g
 rw[h1]at he;exact⟨by rw[he];simp,h2⟩
theorem Ta (h0:C.err=0)(h1:eK key val≠0)(h:gZ B w0 d C E k l w):
  Calls Tryz.prog 10 #[ptr C.tq,.string key,.string val] w fun e w'=>e=.returned (.int .i64 (eK key val))∧gZ B w0 d C E k l w':=by
 obtain⟨r,x,d1,P,X,H,s,hd,TT,M,hc⟩:=h;exact(NQ (C:=C.cD r) s h0 h1).mono fun e w' ⟨he,s'⟩=>⟨he,r,x,d1,P,X,H,s',hd,TT,M,hc⟩
theorem Dz (T:cd B w0)(hr:d.room<=16384)(h0:C.err=0)(hE:E.length<=1000)(h:gZ B w0 d C E k l w):
  Calls Tryz.prog 21 #[ptr C.tq,.string key] w fun e w'=>e=.returned (.tuple #[.string (kJ E key),.bool (fY E key),.int .i64 0])∧gZ B w0 d C E k l w':=by
 obtain⟨r,x,d1,P,X,H,s,hd,TT,M,hc⟩:=h;have hh:=gZ.lL TT (by omega);refine(SI (key:=key) T hr hd s h0 TT (by omega)).mono fun e w' ⟨he,P',d',m1,m2,s'⟩=>⟨he,r,x,d',P',X,H,s',m2,TT,M,hc⟩
theorem Kk (T:cd B w0)(hr:d.room<=16384)(h0:C.err=0)(hE:E.length<=1000)(h:gZ B w0 d C E k l w):
  Calls Tryz.prog 11 #[ptr C.tq,.string fr,.string tt] w fun e w'=>∃ao c,e=.returned (.tuple #[.slice ao (iD fr tt E).length c,.int .i64 0])∧gZ B w0 d C E k (gX (.slice ao (iD fr tt E).length c) (iD fr tt E)::l) w':=by
 obtain⟨r,x,d1,P,X,H,s,hd,TT,M,hc⟩:=h;have hh:=gZ.lL TT (by omega);obtain⟨b,hb⟩:=Dx (st:=SJ) (fr:=fr) (tt:=tt) (s:=[]) hr TT.ts (by omega);have e1:(kS SJ (iD fr tt E) []).1=iD fr tt E:=by
  have:=PN (iD fr tt E) [];rw[show kS SJ (iD fr tt E) []=_ from this];rfl
 rw[e1]at hb;have hl:(iD fr tt E).length<=900000:=by
  have:=List.length_filter_le (fun e:En=>!bh e.1 fr&&bH tt e.1) E;unfold iD;omega
 refine(SK (C:=C.cD r) T hr TT.ts.sd.x TT.ts.sd.bz h0 (TT.ts.wf hr) hd hb hl (fun _=>rfl) (fun h=>absurd rfl h) s).mono fun e w' ⟨v,he,h2,_,P',d',m1,m2,s'⟩=>?_;obtain⟨ao,c,rfl⟩:=h2 rfl;exact⟨ao,c,he,r,x,d',P',X,H,s',m2,TT,M,hc⟩
theorem Kl (T:cd B w0)(hr:d.room<=16384)(h0:C.err=0)(hE:E.length<=1000)(h:gZ B w0 d C E k l w):
  Calls Tryz.prog 14 #[ptr C.tq,.string fr] w fun e w'=>e=.returned (.tuple #[.agg #[.string ((iD fr ⟨#[]⟩ E).head?.getD (⟨#[]⟩,⟨#[]⟩)).1,.string ((iD fr ⟨#[]⟩ E).head?.getD (⟨#[]⟩,⟨#[]⟩)).2],.bool (iD fr ⟨#[]⟩ E).head?.isSome,.int .i64 0])∧gZ B w0 d C E k l w':=by
 obtain⟨r,x,d1,P,X,H,s,hd,TT,M,hc⟩:=h;have hh:=gZ.lL TT (by omega);obtain⟨b,hb⟩:=Dx (st:=VC) (fr:=fr) (tt:=⟨#[]⟩) (s:=none) hr TT.ts (by omega);have e1:(kS VC (iD fr ⟨#[]⟩ E) none).1=(iD fr ⟨#[]⟩ E).head?:=VH _;rw[e1]at hb;exact(SL (C:=C.cD r) T hr TT.ts.sd.x TT.ts.sd.bz h0 (TT.ts.wf hr) hd hb s).mono fun e w' ⟨he,P',d',m1,m2,s'⟩=>⟨he,r,x,d',P',X,H,s',m2,TT,M,hc⟩
theorem OD (h:gZ B w0 d C E k l w)(h0:C.err=0):Calls Tryz.prog 22 #[ptr C.tq] w fun e w'=>e=.returned (.int .i64 0)∧w=w':=by
 obtain⟨r,x,d1,P,X,H,s,hd,TT,M,hc⟩:=h;have:=Pu s;rw[show(C.cD r).err=0 from h0]at this;exact this
def VJ (B:Nat)(w0:World)(d:Dk)(C:Cx)(E:List En)(k:Nat)(l:List aP)(V:List kH)(r:Int)(X:List Int)(H:Nat)(w:World):Prop:=
 ∃x d1 P,Sep B w0 w (TL (C.cD r) x d1 P l)∧bp d d1∧Tx d.room d x r E X H∧Mn d.room x X∧x.cnt<=1000*k∧SY (V.map uR) r E X H∧∀v∈V,v.2.2∈P
theorem VJ.YH {V:List kH}{r:Int}{X:List Int}{H:Nat}(h:VJ B w0 d C E k l V r X H w):gZ B w0 d C E k l w:=by
 obtain⟨x,d1,P,s,hd,TT,M,hc,_⟩:=h;exact⟨r,x,d1,P,X,H,s,hd,TT,M,hc⟩
theorem zB (T:cd B w0)(hr:d.room<=16384)(h0:C.err=0)(hE:E.length<=1000)(h:gZ B w0 d C E k l w):
  Calls Tryz.prog 19 #[ptr C.tq] w fun e w'=>∃ao c V r X H,e=.returned (.tuple #[.slice ao V.length c,.int .i64 0])∧VJ B w0 d C E k (wS (.slice ao V.length c) V::l) V r X H w':=by
 obtain⟨r,x,d1,P,X,H,s,hd,TT,M,hc⟩:=h;have hh:=gZ.lL TT (by omega);obtain⟨sp,hw,hp⟩:=OC hr TT.ts (by omega) (by omega);refine(SS (C:=C.cD r) (s:=sp) hd s fun u pd pl hu=>?_).mono fun e w' ⟨ao,c,V,he,hV,P',d',m0,m1,m2,s'⟩=>⟨ao,c,V,r,X,H,he,x,d',P',s',m2,TT,M,hc,by rw[hV];exact hw,m0⟩;by_cases hz:r=0
 ·have:sp=[]:=by
   rcases hw with⟨_,e,_⟩| ⟨e,_⟩
   ·exact e
   ·exact absurd hz e
  subst this;exact Ox (C:=C.cD r) h0 hz hd hu
 ·exact Oy (C:=C.cD r) T hr TT.ts.sd.x TT.ts.sd.bz h0 hz (TT.ts.wf hr) hd (hp hz) hu
end
end P
namespace P
open N (Nd En eK cF gp ie fY kJ Rg bh cA)
section
variable {B:Nat}{w0 w w':World}{C:Cx}{d:Dk}{l:List aP}
theorem sT {n:Int}(h2:2<=n)(h:n<=16384):(Dk.new n).room=n.toNat:=by
 unfold Dk.room Dk.new;simp only[List.length_replicate];omega
theorem Km {tq t f b room:Nat}(hr:d.room=room)(h2:2<=room)(s:Sep B w0 w (TL ⟨0,tq,t,f,b,0,0⟩ (TX.new [] 2 room) d [] l)):gZ B w0 d ⟨0,tq,t,f,b,0,0⟩ [] 0 l w:=by
 subst hr;have ok:=TX.zS [] 2 h2;have hfr:∀p,(TX.new [] 2 d.room).fresh p=none:=fun _=>rfl;refine⟨0,TX.new [] 2 d.room,d,[],[],0,s,bp.refl d,⟨.inl ⟨rfl,rfl,rfl,sd0 ok (fun q c hc=>by rw[hfr q]at hc;cases hc),rfl⟩,fun p hp=>by rw[hfr p]at hp;cases hp⟩,⟨fun _ hp=>(by cases hp),?_⟩,?_⟩
 ·have hp:(TX.new [] 2 d.room).pages=2:=by
   show cO 2 d.room=2;unfold cO;omega
  have hf:(TX.new [] 2 d.room).free=[]:=by
   show uf [] [(2,(cO 2 d.room:Int)-1)]=[];have hc:=nu [] [(2,(cO 2 d.room:Int)-1)];have hi:=nw [] [(2,(cO 2 d.room:Int)-1)];generalize uf [] [(2,(cO 2 d.room:Int)-1)]=m at*;cases m with
   |nil=>rfl
   |cons r s=>
    obtain⟨⟨a1,a2,a3⟩,_⟩:=bB.1 hc;have h1:=((hi r.1).1 ⟨a1,by omega,r,by simp,by omega,a2⟩).1;obtain⟨_,_,q,hq,_⟩:=h1;cases hq
  unfold TX.cap;rw[hp,hf];show(jn []:Int)+_+_=_;rw[pD];simp
 ·exact Nat.zero_le _
theorem Bh {n:Int}(h2:2<=n)(h3:n<=16384)(h:Sep B w0 w l):Calls Tryz.prog 8 #[.int .i64 n] w fun e w'=>∃C:Cx,e=.returned (ptr C.tq)∧C.err=0∧gZ B w0 (Dk.new n) C [] 0 l w':=by
 have HR:Hid ((Dk.new n).room=n.toNat∧2<=n.toNat∧n.toNat<=16384):=⟨sT h2 h3,by omega,by omega⟩;have CD:Hid _:=Ua n h;clear h h2 h3;generalize Dk.new n=d0 at*;go_enter Tryz.func8,Tryz.ntmps8
 go_wp2_with fail
 refine Calls.mono CD.out ?_;rintro e w2 ⟨b,rfl,s2⟩;have CF:Hid _:=Ud s2;clear CD s2
 go_wp2_with fail
 refine Calls.mono CF.out ?_;rintro e w3 ⟨f,rfl,s3⟩;have CT:=XH s3 (by rw[HR.out.1];exact HR.out.2.2) (v:=.slice none 0 0) (fr:=[]) ⟨none,0,rfl,Nat.le_refl _,fun _=>rfl,fun h=>absurd rfl h⟩ (by simp) 2;rw[HR.out.1]at CT;have CT2:Hid _:=CT;clear CF s3 CT
 go_wp2_with fail
 refine Calls.mono CT2.out ?_;rintro e w4 ⟨t,rfl,s4⟩;have CN:Hid _:=Va (root:=0) s4;clear CT2 s4
 go_wp2_with fail
 refine Calls.mono CN.out ?_;rintro e w5 ⟨tq,rfl,s5⟩;have SF:Hid _:=s5;clear CN s5;go_wp2;go_ret;exact⟨⟨0,tq,t,f,b,0,0⟩,rfl,rfl,Km HR.out.1 HR.out.2.1 SF.out⟩
end
end P
end Go.Proofs.YtceoeaemenhbhabGreatDoor
