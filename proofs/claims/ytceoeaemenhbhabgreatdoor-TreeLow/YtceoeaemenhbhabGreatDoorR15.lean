/- Walks of the package cowtree and of what it stands on: lemmas, made short. -/
import Derived.Test.YtceoeaemenhbhabGreatDoorR14
import Derived.Test.YtceoeaemenhbhabGreatDoorR10
import Derived.Test.YtceoeaemenhbhabGreatDoorR12
import Derived.Maps.OwnIn
import Derived.Maps.AppendAt
import Derived.Deep.AppendLies
import Derived.Test.YtceoeaemenhbhabGreatDoorR11
import Derived.Deep.QuietTactic
import Derived.BigQuiet
import Derived.Test.YtceoeaemenhbhabGreatDoorR13
set_option maxHeartbeats 16000000
set_option maxRecDepth 100000
set_option linter.unusedVariables false
set_option linter.unusedSimpArgs false
section
namespace Go.Proofs.YtceoeaemenhbhabGreatDoor
open Go.Shelf Go.RowKit Go.Lib Go.Sort
open N (Nd bn aT hidR aj ai Ch aI ah waits)
section
variable {B:Nat}{w0 w w':World}{l:List aN}{fr tt k:ByteArray}
def JPr (B:Nat)(w0:World)(LL:List aN)(q1 q2 q3 r o cz ix X5:Nat)(fz tt k9:ByteArray)(hb:Bool){y0 y1 y5 y6 y7 y8 y9 nO mo nP y13 mq kC kD k7 rU rX y34 oW oX rY y38 y39:Value}(C:List Bool->Act->Prop)(w:World):Prop:=∀{f0 f1 f2 f3 f4 f5 f6 f7 f8 f9 f10 f11 f12 f13:Bool}{pP x20 iv kf jw x24 x25 oC x27 x28 x29 x30 x31 x32:Value},f13=false->Sep B w0 w LL->Hid (f0=true->pP=.int .i64 (ix:Int))->Hid (f1=true->x20=.pointer (some ⟨q2,3,none⟩))->Hid (f2=true->f1=true∧iv=.slice (some ⟨r,o,none⟩) X5 cz)->Hid (f3=true->f2=true∧kf=.int .i64 (X5:Int))->Hid (f4=true->f0=true∧f3=true∧jw=.bool true)->Hid (f5=true->f4=true∧x24=.bool true)->Hid (f6=true->x25=.agg #[.string fz,.string tt])->Hid (f7=true->oC=.pointer (some ⟨q2,3,none⟩))->Hid (f8=true->f7=true∧x27=.slice (some ⟨r,o,none⟩) X5 cz)->Hid (f9=true->x28=.int .i64 (ix:Int))->Hid (f10=true->f8=true∧f9=true∧x29=.pointer (some ⟨r,o+ix,none⟩))->Hid (f11=true->f10=true∧x30=.string k9)->Hid (f12=true->f6=true∧f11=true∧x31=.bool hb)->C [f0,f1,f2,f3,f4,f5,f6,f7,f8,f9,f10,f11,f12,f13] {tmps:=#[y0,y1,.int .i64 (ix:Int),.pointer (some ⟨q1,0,none⟩),.pointer (some ⟨q2,0,none⟩),y5,y6,y7,y8,y9,nO,mo,nP,y13,mq,kC,kD,k7,rU,pP,x20,iv,kf,jw,x24,x25,oC,x27,x28,x29,x30,x31,x32,rX,y34,oW,oX,rY,y38,y39],defers:=[]}
theorem yZ {P:List NV}{p:NV}{ix:Nat}(h:Sep B w0 w (Pl P::l))(hp:p∈P)(hi:ix<=p.n.ss.length)(hb:p.n.ss.length<=500):Calls Tryz.prog 81 #[.agg #[.string fr,.string tt],.agg #[.bool p.n.leaf,.slice p.ae p.n.es.length p.ce,.slice p.ak p.n.ks.length p.ck,.slice p.az p.n.ss.length p.cz],.int .i64 (ix:Int)] w fun e w'=>e=.returned (.agg #[.string (ju p.n.ss ix fr),.string (gB p.n.ss ix tt)])∧Sep B w0 w' (Pl P::l):=by
 obtain⟨ae,ce,ak,ck,az,cz,n⟩:=p;simp only at hi hb⊢;have HS:Hid (Sep B w0 w (Pl P::l)):=h;have HP:Hid (⟨ae,ce,ak,ck,az,cz,n⟩∈P):=hp;clear h hp;by_cases hi0:0<ix
 ·obtain⟨j,hij⟩:∃j,ix=j+1:=⟨ix-1,by omega⟩;have S3:Hid (Sep B w0 (((w.alloc (.cells #[.string fr,.string tt] 75)).alloc (.cells #[.bool n.leaf,.slice ae n.es.length ce,.slice ak n.ks.length ck,.slice az n.ss.length cz] 54)).alloc (.cells #[.string ⟨#[]⟩,.string ⟨#[]⟩] 75)).drew (Pl P::l)):=(((HS.out.alloc _).alloc _).alloc _).drew;obtain⟨r,o,haz,k1,k2⟩:=NV.key (p:=⟨ae,ce,ak,ck,az,cz,n⟩) (Sep.pool S3.out _ HP.out) (i:=j) (by simp only;omega);simp only at haz k2;subst haz;have wj:IntKind.i64.wrap ((ix:Int)-1)=(j:Int):=by rw[bA (by omega) (by omega)];omega
  have hj:(j:Int)< (n.ss.length:Int):=by omega
  have hj1:(0:Int)< (ix:Int):=by omega
  have SF:Hid (ju n.ss ix fr=if bn fr (n.ss.getD j ⟨#[]⟩)=true then n.ss.getD j ⟨#[]⟩else fr):=by show _=_;rw[hij];simp[ju]
  generalize n.ss.getD j ⟨#[]⟩=kk at*;generalize ju n.ss ix fr=fz at*;have hmx:Builtin.max_ #[9,9] 9 #[.string fr,.string kk]=pure (.string fz):=by rw[SF.out];exact U8 fr kk
  clear SF hij;go_enter Tryz.func81,Tryz.ntmps81
  go_wp2_with fail
  go_region
  clear k2 k1 S3 hmx wj hj
  go_wp2_with fail
  have S4:Hid (Sep B w0 (((w.alloc (.cells #[.string fz,.string tt] 75)).alloc (.cells #[.bool n.leaf,.slice ae n.es.length ce,.slice ak n.ks.length ck,.slice (some ⟨r,o,none⟩) n.ss.length cz] 54)).alloc (.cells #[.string ⟨#[]⟩,.string ⟨#[]⟩] 75)).drew (Pl P::ax w.heap.size (.cells #[.string fz,.string tt] 75)::ax (w.heap.size+1) (.cells #[.bool n.leaf,.slice ae n.es.length ce,.slice ak n.ks.length ck,.slice (some ⟨r,o,none⟩) n.ss.length cz] 54)::ax (w.heap.size+1+1) (.cells #[.string ⟨#[]⟩,.string ⟨#[]⟩] 75)::l)):=by
   have h1:=HS.out.aP (.cells #[.string fz,.string tt] 75) w.heap.size rfl;have h2:=h1.aP (.cells #[.bool n.leaf,.slice ae n.es.length ce,.slice ak n.ks.length ck,.slice (some ⟨r,o,none⟩) n.ss.length cz] 54) (w.heap.size+1) (by simp);have h3:=h2.aP (.cells #[.string ⟨#[]⟩,.string ⟨#[]⟩] 75) (w.heap.size+1+1) (by simp);exact Sep.drew (Sep.Uw (Sep.pb [_,_] (Sep.pb [_,_,_] h3)))
  generalize(((w.alloc (.cells #[.string fz,.string tt] 75)).alloc (.cells #[.bool n.leaf,.slice ae n.es.length ce,.slice ak n.ks.length ck,.slice (some ⟨r,o,none⟩) n.ss.length cz] 54)).alloc (.cells #[.string ⟨#[]⟩,.string ⟨#[]⟩] 75)).drew=u0 at*;generalize hq2:w.heap.size+1=q2 at*;generalize hq3:q2+1=q3 at*;generalize hq1:w.heap.size=q1 at*;clear hq1 hq2 hq3;have T0:Hid (Sep B w0 u0.drew (Pl P::ax q1 (.cells #[.string fz,.string tt] 75)::ax q2 (.cells #[.bool n.leaf,.slice ae n.es.length ce,.slice ak n.ks.length ck,.slice (some ⟨r,o,none⟩) n.ss.length cz] 54)::ax q3 (.cells #[.string ⟨#[]⟩,.string ⟨#[]⟩] 75)::l)):=S4.out.drew;clear S4 HS;have n13:q1≠q3:=Sep.ne (Sep.pk [_,_] (Sep.pk [_,_,_] T0.out));have n31:=n13.symm;by_cases hl:ix<n.ss.length
  ·obtain⟨r2,o2,JH,k1,k2⟩:=NV.key (p:=⟨ae,ce,ak,ck,some ⟨r,o,none⟩,cz,n⟩) (Sep.pool T0.out _ HP.out) (i:=ix) hl;simp only at JH k2;obtain⟨rfl,rfl⟩:r=r2∧o=o2:=by cases JH;exact⟨rfl,rfl⟩
   have hlI:(ix:Int)< (n.ss.length:Int):=by omega
   have hld:decide ((ix:Int)< (n.ss.length:Int))=true:=by simp;omega
   have X6:decide (ix<n.ss.length)=true:=by simp;omega
   have HE:Hid (gB n.ss ix tt=if a8 tt (n.ss.getD ix ⟨#[]⟩)=true then n.ss.getD ix ⟨#[]⟩else tt):=by show _=_;simp[gB,hl]
   have KK:Hid (∀u L,Sep B w0 u (Pl P::L)->u.cell? ⟨r,o+ix,none⟩=some (.string (n.ss.getD ix ⟨#[]⟩))):=fun u L hu=>by
    obtain⟨r',o',h1,_,h3⟩:=NV.key (p:=⟨ae,ce,ak,ck,some ⟨r,o,none⟩,cz,n⟩) (Sep.pool hu _ HP.out) (i:=ix) hl;cases h1;exact h3
   generalize n.ss.getD ix ⟨#[]⟩=k9 at*;clear k1 k2;refine gW 13 (JPr B w0 (Pl P::ax q1 (.cells #[.string fz,.string tt] 75)::ax q2 (.cells #[.bool n.leaf,.slice ae n.es.length ce,.slice ak n.ks.length ck,.slice (some ⟨r,o,none⟩) n.ss.length cz] 54)::ax q3 (.cells #[.string ⟨#[]⟩,.string ⟨#[]⟩] 75)::l) q1 q2 q3 r o cz ix n.ss.length fz tt k9 (a8 tt k9)) (by kernel_rfl) (by kernel_rfl) (fun _ k=>k rfl T0.out aj aj aj aj aj aj aj aj aj aj aj aj aj) ?_ ?_ ?_ ?_
   ·intro w' f0 f1 f2 f3 f4 f5 f6 f7 f8 f9 f10 f11 f12 f13 pP x20 iv kf jw x24 x25 oC x27 x28 x29 x30 x31 x32 e13 hB h0 h1 h2 h3 h4 h5 h6 h7 h8 h9 h10 h11 h12 hi;have d5:f5=true:=ah 5 hi (by kernel_rfl);have d12:f12=true:=ah 12 hi (by kernel_rfl);obtain⟨d6,d11,_⟩:=h12.out d12;obtain⟨d10,_⟩:=h11.out d11;obtain⟨d8,d9,_⟩:=h10.out d10;obtain⟨d7,_⟩:=h8.out d8;obtain⟨d4,_⟩:=h5.out d5;obtain⟨d0,d3,_⟩:=h4.out d4;obtain⟨d2,_⟩:=h3.out d3;obtain⟨d1,_⟩:=h2.out d2;subst d0 d1 d2 d3 d4 d5 d6 d7 d8 d9 d10 d11 d12;rfl
   ·intro i w' hne f0 f1 f2 f3 f4 f5 f6 f7 f8 f9 f10 f11 f12 f13 pP x20 iv kf jw x24 x25 oC x27 x28 x29 x30 x31 x32 e13 hB h0 h1 h2 h3 h4 h5 h6 h7 h8 h9 h10 h11 h12 hi;obtain⟨hlt,hun,_⟩:=aI hi;have hlt':i<14:=hlt;clear hlt;rcases(by omega:i=0∨i=1∨i=2∨i=3∨i=4∨i=5∨i=6∨i=7∨i=8∨i=9∨i=10∨i=11∨i=12)with rfl|rfl|rfl|rfl|rfl|rfl|rfl|rfl|rfl|rfl|rfl|rfl|rfl
    ·have un:f0=false:=hun;refine ai rfl fun K HK=>?_;go_simp;exact HK.out _ _ fun _ k=>k e13 hB hidR h1 h2 h3 (fun d=>by have e:=(h4.out d).1;rw[un]at e;cases e) h5 h6 h7 h8 h9 h10 h11 h12
    ·have un:f1=false:=hun;refine ai rfl fun K HK=>?_;go_simp;exact HK.out _ _ fun _ k=>k e13 hB h0 hidR (fun d=>by have e:=(h2.out d).1;rw[un]at e;cases e) h3 h4 h5 h6 h7 h8 h9 h10 h11 h12
    ·have un:f2=false:=hun;have d1:f1=true:=ah 1 hi (by kernel_rfl);cases h1 d1;obtain⟨_,⟨y0,y1,y2,y3⟩,_⟩:=Sep.c4 (Sep.pk [_,_] hB);refine ai rfl fun K HK=>?_;go_simp;exact HK.out _ _ fun _ k=>k e13 hB h0 h1 (fun _=>⟨d1,rfl⟩) (fun d=>by have e:=(h3.out d).1;rw[un]at e;cases e) h4 h5 h6 h7 h8 h9 h10 h11 h12
    ·have un:f3=false:=hun;have d2:f2=true:=ah 2 hi (by kernel_rfl);obtain⟨_,rfl⟩:=h2.out d2;refine ai rfl fun K HK=>?_;go_simp;exact HK.out _ _ fun _ k=>k e13 hB h0 h1 h2 (fun _=>⟨d2,rfl⟩) (fun d=>by have e:=(h4.out d).2.1;rw[un]at e;cases e) h5 h6 h7 h8 h9 h10 h11 h12
    ·have un:f4=false:=hun;have d0:f0=true:=ah 0 hi (by kernel_rfl);cases h0 d0;have d3:f3=true:=ah 3 hi (by kernel_rfl);obtain⟨_,rfl⟩:=h3.out d3;refine ai rfl fun K HK=>?_;go_simp;exact HK.out _ _ fun _ k=>k e13 hB h0 h1 h2 h3 (fun _=>⟨d0,d3,rfl⟩) (fun d=>by have e:=(h5.out d).1;rw[un]at e;cases e) h6 h7 h8 h9 h10 h11 h12
    ·have d4:f4=true:=ah 4 hi (by kernel_rfl);obtain⟨_,_,rfl⟩:=h4.out d4;refine ai rfl fun K HK=>?_;go_simp;exact HK.out _ _ fun _ k=>k e13 hB h0 h1 h2 h3 h4 (fun _=>⟨d4,rfl⟩) h6 h7 h8 h9 h10 h11 h12
    ·have un:f6=false:=hun;obtain⟨_,rfl⟩:=h5.out (ah 5 hi (by kernel_rfl));obtain⟨_,⟨y0,y1⟩,_⟩:=Sep.c2 (Sep.jm hB);refine ai rfl fun K HK=>?_;go_simp;exact HK.out _ _ fun _ k=>k e13 hB h0 h1 h2 h3 h4 h5 hidR h7 h8 h9 h10 h11 (fun d=>by have e:=(h12.out d).1;rw[un]at e;cases e)
    ·have un:f7=false:=hun;obtain⟨_,rfl⟩:=h5.out (ah 5 hi (by kernel_rfl));refine ai rfl fun K HK=>?_;go_simp;exact HK.out _ _ fun _ k=>k e13 hB h0 h1 h2 h3 h4 h5 h6 hidR (fun d=>by have e:=(h8.out d).1;rw[un]at e;cases e) h9 h10 h11 h12
    ·have un:f8=false:=hun;obtain⟨_,rfl⟩:=h5.out (ah 5 hi (by kernel_rfl));have d7:f7=true:=ah 7 hi (by kernel_rfl);cases h7 d7;obtain⟨_,⟨y0,y1,y2,y3⟩,_⟩:=Sep.c4 (Sep.pk [_,_] hB);refine ai rfl fun K HK=>?_;go_simp;exact HK.out _ _ fun _ k=>k e13 hB h0 h1 h2 h3 h4 h5 h6 h7 (fun _=>⟨d7,rfl⟩) h9 (fun d=>by have e:=(h10.out d).1;rw[un]at e;cases e) h11 h12
    ·have un:f9=false:=hun;obtain⟨_,rfl⟩:=h5.out (ah 5 hi (by kernel_rfl));refine ai rfl fun K HK=>?_;go_simp;exact HK.out _ _ fun _ k=>k e13 hB h0 h1 h2 h3 h4 h5 h6 h7 h8 hidR (fun d=>by have e:=(h10.out d).2.1;rw[un]at e;cases e) h11 h12
    ·have un:f10=false:=hun;obtain⟨_,rfl⟩:=h5.out (ah 5 hi (by kernel_rfl));have d8:f8=true:=ah 8 hi (by kernel_rfl);obtain⟨_,rfl⟩:=h8.out d8;have d9:f9=true:=ah 9 hi (by kernel_rfl);cases h9 d9;refine ai rfl fun K HK=>?_;go_simp;exact HK.out _ _ fun _ k=>k e13 hB h0 h1 h2 h3 h4 h5 h6 h7 h8 h9 (fun _=>⟨d8,d9,rfl⟩) (fun d=>by have e:=(h11.out d).1;rw[un]at e;cases e) h12
    ·have un:f11=false:=hun;obtain⟨_,rfl⟩:=h5.out (ah 5 hi (by kernel_rfl));have d10:f10=true:=ah 10 hi (by kernel_rfl);obtain⟨_,_,rfl⟩:=h10.out d10;have V1:=KK.out _ _ hB;refine ai rfl fun K HK=>?_;go_simp;exact HK.out _ _ fun _ k=>k e13 hB h0 h1 h2 h3 h4 h5 h6 h7 h8 h9 h10 (fun _=>⟨d10,rfl⟩) (fun d=>by have e:=(h12.out d).2.1;rw[un]at e;cases e)
    ·obtain⟨_,rfl⟩:=h5.out (ah 5 hi (by kernel_rfl));have d6:f6=true:=ah 6 hi (by kernel_rfl);cases h6 d6;have d11:f11=true:=ah 11 hi (by kernel_rfl);obtain⟨_,rfl⟩:=h11.out d11;refine ai rfl fun K HK=>?_;go_simp;refine Calls.mono (ky hB) ?_;rintro e u4 ⟨rfl,s4⟩;exact HK.out _ _ fun _ k=>k e13 s4 h0 h1 h2 h3 h4 h5 h6 h7 h8 h9 h10 h11 (fun _=>⟨d6,d11,rfl⟩)
   ·intro w' f0 f1 f2 f3 f4 f5 f6 f7 f8 f9 f10 f11 f12 f13 pP x20 iv kf jw x24 x25 oC x27 x28 x29 x30 x31 x32 e13 hB h0 h1 h2 h3 h4 h5 h6 h7 h8 h9 h10 h11 h12 hi;have d5:f5=true:=ah 5 hi (by kernel_rfl);obtain⟨_,rfl⟩:=h5.out d5;have d12:f12=true:=ah 12 hi (by kernel_rfl);obtain⟨u6,u11,rfl⟩:=h12.out d12;clear hi;refine ai rfl fun K HK=>?_;go_simp;refine HK.out _ _ ?_;have T1:Hid (Sep B w0 w' (Pl P::ax q1 (.cells #[.string fz,.string tt] 75)::ax q2 (.cells #[.bool n.leaf,.slice ae n.es.length ce,.slice ak n.ks.length ck,.slice (some ⟨r,o,none⟩) n.ss.length cz] 54)::ax q3 (.cells #[.string ⟨#[]⟩,.string ⟨#[]⟩] 75)::l)):=hB;clear hB h0 h1 h2 h3 h4 h5 h6 h7 h8 h9 h10 h11 h12;obtain⟨_,⟨x0,x1⟩,g0,g1⟩:=Sep.c2 (Sep.jm T1.out);obtain⟨_,⟨y0,y1,y2,y3⟩,_⟩:=Sep.c4 (Sep.pk [_,_] T1.out);obtain⟨_,⟨z0,z1⟩,U9,f2'⟩:=Sep.c2 (Sep.pk [_,_,_] T1.out);have k2:=KK.out _ _ T1.out;cases hh:a8 tt k9
    ·rw[hh]at HE;rw[if_neg Bool.false_ne_true]at HE;have SF:Hid (Sep B w0 ((w'.setCell ⟨q3,0,none⟩ (.string fz)).setCell ⟨q3,1,none⟩ (.string tt)) (Pl P::ax q1 (.cells #[.string fz,.string tt] 75)::ax q2 (.cells #[.bool n.leaf,.slice ae n.es.length ce,.slice ak n.ks.length ck,.slice (some ⟨r,o,none⟩) n.ss.length cz] 54)::ax q3 (.cells #[.string fz,.string tt] 75)::l)):=Sep.pb [_,_,_] (((Sep.pk [_,_,_] T1.out).dA 0 _).dA 1 _);clear hh T1 KK;go_wp2;generalize World.setCell _ _ _=u2 at*;clear x0 x1 g0 g1 y0 y1 y2 y3 z0 z1 U9 f2' k2;obtain⟨_,⟨z0,z1⟩,_⟩:=Sep.c2 (Sep.pk [_,_,_] SF.out);refine bodyPost_ret (v:=.agg #[.string fz,.string tt]) ?_ rfl ⟨by rw[HE.out],Sep.drop (Sep.jm (Sep.drop (Sep.jm (Sep.drop (Sep.jm SF.out)))))⟩;rw[N.bF rfl];go_simp
    ·rw[hh]at HE;rw[if_pos rfl]at HE;have SF:Hid (Sep B w0 (((w'.setCell ⟨q1,1,none⟩ (.string k9)).setCell ⟨q3,0,none⟩ (.string fz)).setCell ⟨q3,1,none⟩ (.string k9)) (Pl P::ax q1 (.cells #[.string fz,.string k9] 75)::ax q2 (.cells #[.bool n.leaf,.slice ae n.es.length ce,.slice ak n.ks.length ck,.slice (some ⟨r,o,none⟩) n.ss.length cz] 54)::ax q3 (.cells #[.string fz,.string k9] 75)::l)):=Sep.pb [_,_,_] (((Sep.pk [_,_,_] (Sep.Uw ((Sep.jm T1.out).dA 1 (.string k9)))).dA 0 _).dA 1 _);clear hh T1 KK;go_wp2;generalize World.setCell _ _ _=u2 at*;clear x0 x1 g0 g1 y0 y1 y2 y3 z0 z1 U9 f2' k2;obtain⟨_,⟨z0,z1⟩,_⟩:=Sep.c2 (Sep.pk [_,_,_] SF.out);refine bodyPost_ret (v:=.agg #[.string fz,.string k9]) ?_ rfl ⟨by rw[HE.out],Sep.drop (Sep.jm (Sep.drop (Sep.jm (Sep.drop (Sep.jm SF.out)))))⟩;rw[N.bF rfl];go_simp
   ·intro _ _;intros;assumption
  ·obtain⟨_,⟨x0,x1⟩,g0,g1⟩:=Sep.c2 (Sep.jm T0.out);obtain⟨_,⟨y0,y1,y2,y3⟩,_⟩:=Sep.c4 (Sep.pk [_,_] T0.out);obtain⟨_,⟨z0,z1⟩,f0,f2⟩:=Sep.c2 (Sep.pk [_,_,_] T0.out);have hd:decide ((ix:Int)< (n.ss.length:Int))=false:=by simp;omega
   have hd2:decide (ix<n.ss.length)=false:=by simp;omega
   have HE:Hid (gB n.ss ix tt=tt):=by show _=_;unfold gB;rw[if_neg fun h=>hl h.1]
   have SF:Hid (Sep B w0 ((u0.drew.setCell ⟨q3,0,none⟩ (.string fz)).setCell ⟨q3,1,none⟩ (.string tt)) (Pl P::ax q1 (.cells #[.string fz,.string tt] 75)::ax q2 (.cells #[.bool n.leaf,.slice ae n.es.length ce,.slice ak n.ks.length ck,.slice (some ⟨r,o,none⟩) n.ss.length cz] 54)::ax q3 (.cells #[.string fz,.string tt] 75)::l)):=Sep.pb [_,_,_] (((Sep.pk [_,_,_] T0.out).dA 0 _).dA 1 _);clear T0 hl
   go_region
   generalize u0.drew=u1 at*;go_wp2;generalize(u1.setCell ⟨q3,0,none⟩ (.string fz)).setCell ⟨q3,1,none⟩ (.string tt)=u2 at*;clear x0 x1 g0 g1 y0 y1 y2 y3 z0 z1 f0 f2;obtain⟨_,⟨z0,z1⟩,_⟩:=Sep.c2 (Sep.pk [_,_,_] SF.out);refine bodyPost_ret (v:=.agg #[.string fz,.string tt]) ?_ rfl ⟨by rw[HE.out],Sep.drop (Sep.jm (Sep.drop (Sep.jm (Sep.drop (Sep.jm SF.out)))))⟩;rw[N.bF rfl];go_simp
 ·have hz:ju n.ss ix fr=fr:=by unfold ju;rw[if_neg fun h=>hi0 h.1]
  rw[hz];have hz2:decide ((0:Int)< (ix:Int))=false:=by simp;omega
  have hz3:decide (0<ix)=false:=by simp;omega
  have hz4:¬(0:Int)< (ix:Int):=by omega
  clear hz;go_enter Tryz.func81,Tryz.ntmps81
  go_wp2_with fail
  have S4:Hid (Sep B w0 (((w.alloc (.cells #[.string fr,.string tt] 75)).alloc (.cells #[.bool n.leaf,.slice ae n.es.length ce,.slice ak n.ks.length ck,.slice az n.ss.length cz] 54)).alloc (.cells #[.string ⟨#[]⟩,.string ⟨#[]⟩] 75)) (Pl P::ax w.heap.size (.cells #[.string fr,.string tt] 75)::ax (w.heap.size+1) (.cells #[.bool n.leaf,.slice ae n.es.length ce,.slice ak n.ks.length ck,.slice az n.ss.length cz] 54)::ax (w.heap.size+1+1) (.cells #[.string ⟨#[]⟩,.string ⟨#[]⟩] 75)::l)):=by
   have h1:=HS.out.aP (.cells #[.string fr,.string tt] 75) w.heap.size rfl;have h2:=h1.aP (.cells #[.bool n.leaf,.slice ae n.es.length ce,.slice ak n.ks.length ck,.slice az n.ss.length cz] 54) (w.heap.size+1) (by simp);have h3:=h2.aP (.cells #[.string ⟨#[]⟩,.string ⟨#[]⟩] 75) (w.heap.size+1+1) (by simp);exact(Sep.Uw (Sep.pb [_,_] (Sep.pb [_,_,_] h3)))
  generalize World.alloc _ _=u0 at*;generalize hq2:w.heap.size+1=q2 at*;generalize hq3:q2+1=q3 at*;generalize hq1:w.heap.size=q1 at*;clear hq1 hq2 hq3;have T0:Hid (Sep B w0 u0.drew (Pl P::ax q1 (.cells #[.string fr,.string tt] 75)::ax q2 (.cells #[.bool n.leaf,.slice ae n.es.length ce,.slice ak n.ks.length ck,.slice az n.ss.length cz] 54)::ax q3 (.cells #[.string ⟨#[]⟩,.string ⟨#[]⟩] 75)::l)):=S4.out.drew;clear S4 HS;have n13:q1≠q3:=Sep.ne (Sep.pk [_,_] (Sep.pk [_,_,_] T0.out));have n31:=n13.symm;by_cases hl:ix<n.ss.length
  ·obtain⟨r2,o2,JH,k1,k2⟩:=NV.key (p:=⟨ae,ce,ak,ck,az,cz,n⟩) (Sep.pool T0.out _ HP.out) (i:=ix) hl;simp only at JH k2;subst JH;have hlI:(ix:Int)< (n.ss.length:Int):=by omega
   have hld:decide ((ix:Int)< (n.ss.length:Int))=true:=by simp;omega
   have X6:decide (ix<n.ss.length)=true:=by simp;omega
   have HE:Hid (gB n.ss ix tt=if a8 tt (n.ss.getD ix ⟨#[]⟩)=true then n.ss.getD ix ⟨#[]⟩else tt):=by show _=_;simp[gB,hl]
   have KK:Hid (∀u L,Sep B w0 u (Pl P::L)->u.cell? ⟨r2,o2+ix,none⟩=some (.string (n.ss.getD ix ⟨#[]⟩))):=fun u L hu=>by
    obtain⟨r',o',h1,_,h3⟩:=NV.key (p:=⟨ae,ce,ak,ck,some ⟨r2,o2,none⟩,cz,n⟩) (Sep.pool hu _ HP.out) (i:=ix) hl;cases h1;exact h3
   generalize n.ss.getD ix ⟨#[]⟩=k9 at*;clear k1 k2;refine gW 13 (JPr B w0 (Pl P::ax q1 (.cells #[.string fr,.string tt] 75)::ax q2 (.cells #[.bool n.leaf,.slice ae n.es.length ce,.slice ak n.ks.length ck,.slice (some ⟨r2,o2,none⟩) n.ss.length cz] 54)::ax q3 (.cells #[.string ⟨#[]⟩,.string ⟨#[]⟩] 75)::l) q1 q2 q3 r2 o2 cz ix n.ss.length fr tt k9 (a8 tt k9)) (by kernel_rfl) (by kernel_rfl) (fun _ k=>k rfl T0.out aj aj aj aj aj aj aj aj aj aj aj aj aj) ?_ ?_ ?_ ?_
   ·intro w' f0 f1 f2 f3 f4 f5 f6 f7 f8 f9 f10 f11 f12 f13 pP x20 iv kf jw x24 x25 oC x27 x28 x29 x30 x31 x32 e13 hB h0 h1 h2 h3 h4 h5 h6 h7 h8 h9 h10 h11 h12 hi;have d5:f5=true:=ah 5 hi (by kernel_rfl);have d12:f12=true:=ah 12 hi (by kernel_rfl);obtain⟨d6,d11,_⟩:=h12.out d12;obtain⟨d10,_⟩:=h11.out d11;obtain⟨d8,d9,_⟩:=h10.out d10;obtain⟨d7,_⟩:=h8.out d8;obtain⟨d4,_⟩:=h5.out d5;obtain⟨d0,d3,_⟩:=h4.out d4;obtain⟨d2,_⟩:=h3.out d3;obtain⟨d1,_⟩:=h2.out d2;subst d0 d1 d2 d3 d4 d5 d6 d7 d8 d9 d10 d11 d12;rfl
   ·intro i w' hne f0 f1 f2 f3 f4 f5 f6 f7 f8 f9 f10 f11 f12 f13 pP x20 iv kf jw x24 x25 oC x27 x28 x29 x30 x31 x32 e13 hB h0 h1 h2 h3 h4 h5 h6 h7 h8 h9 h10 h11 h12 hi;obtain⟨hlt,hun,_⟩:=aI hi;have hlt':i<14:=hlt;clear hlt;rcases(by omega:i=0∨i=1∨i=2∨i=3∨i=4∨i=5∨i=6∨i=7∨i=8∨i=9∨i=10∨i=11∨i=12)with rfl|rfl|rfl|rfl|rfl|rfl|rfl|rfl|rfl|rfl|rfl|rfl|rfl
    ·have un:f0=false:=hun;refine ai rfl fun K HK=>?_;go_simp;exact HK.out _ _ fun _ k=>k e13 hB hidR h1 h2 h3 (fun d=>by have e:=(h4.out d).1;rw[un]at e;cases e) h5 h6 h7 h8 h9 h10 h11 h12
    ·have un:f1=false:=hun;refine ai rfl fun K HK=>?_;go_simp;exact HK.out _ _ fun _ k=>k e13 hB h0 hidR (fun d=>by have e:=(h2.out d).1;rw[un]at e;cases e) h3 h4 h5 h6 h7 h8 h9 h10 h11 h12
    ·have un:f2=false:=hun;have d1:f1=true:=ah 1 hi (by kernel_rfl);cases h1 d1;obtain⟨_,⟨y0,y1,y2,y3⟩,_⟩:=Sep.c4 (Sep.pk [_,_] hB);refine ai rfl fun K HK=>?_;go_simp;exact HK.out _ _ fun _ k=>k e13 hB h0 h1 (fun _=>⟨d1,rfl⟩) (fun d=>by have e:=(h3.out d).1;rw[un]at e;cases e) h4 h5 h6 h7 h8 h9 h10 h11 h12
    ·have un:f3=false:=hun;have d2:f2=true:=ah 2 hi (by kernel_rfl);obtain⟨_,rfl⟩:=h2.out d2;refine ai rfl fun K HK=>?_;go_simp;exact HK.out _ _ fun _ k=>k e13 hB h0 h1 h2 (fun _=>⟨d2,rfl⟩) (fun d=>by have e:=(h4.out d).2.1;rw[un]at e;cases e) h5 h6 h7 h8 h9 h10 h11 h12
    ·have un:f4=false:=hun;have d0:f0=true:=ah 0 hi (by kernel_rfl);cases h0 d0;have d3:f3=true:=ah 3 hi (by kernel_rfl);obtain⟨_,rfl⟩:=h3.out d3;refine ai rfl fun K HK=>?_;go_simp;exact HK.out _ _ fun _ k=>k e13 hB h0 h1 h2 h3 (fun _=>⟨d0,d3,rfl⟩) (fun d=>by have e:=(h5.out d).1;rw[un]at e;cases e) h6 h7 h8 h9 h10 h11 h12
    ·have d4:f4=true:=ah 4 hi (by kernel_rfl);obtain⟨_,_,rfl⟩:=h4.out d4;refine ai rfl fun K HK=>?_;go_simp;exact HK.out _ _ fun _ k=>k e13 hB h0 h1 h2 h3 h4 (fun _=>⟨d4,rfl⟩) h6 h7 h8 h9 h10 h11 h12
    ·have un:f6=false:=hun;obtain⟨_,rfl⟩:=h5.out (ah 5 hi (by kernel_rfl));obtain⟨_,⟨y0,y1⟩,_⟩:=Sep.c2 (Sep.jm hB);refine ai rfl fun K HK=>?_;go_simp;exact HK.out _ _ fun _ k=>k e13 hB h0 h1 h2 h3 h4 h5 hidR h7 h8 h9 h10 h11 (fun d=>by have e:=(h12.out d).1;rw[un]at e;cases e)
    ·have un:f7=false:=hun;obtain⟨_,rfl⟩:=h5.out (ah 5 hi (by kernel_rfl));refine ai rfl fun K HK=>?_;go_simp;exact HK.out _ _ fun _ k=>k e13 hB h0 h1 h2 h3 h4 h5 h6 hidR (fun d=>by have e:=(h8.out d).1;rw[un]at e;cases e) h9 h10 h11 h12
    ·have un:f8=false:=hun;obtain⟨_,rfl⟩:=h5.out (ah 5 hi (by kernel_rfl));have d7:f7=true:=ah 7 hi (by kernel_rfl);cases h7 d7;obtain⟨_,⟨y0,y1,y2,y3⟩,_⟩:=Sep.c4 (Sep.pk [_,_] hB);refine ai rfl fun K HK=>?_;go_simp;exact HK.out _ _ fun _ k=>k e13 hB h0 h1 h2 h3 h4 h5 h6 h7 (fun _=>⟨d7,rfl⟩) h9 (fun d=>by have e:=(h10.out d).1;rw[un]at e;cases e) h11 h12
    ·have un:f9=false:=hun;obtain⟨_,rfl⟩:=h5.out (ah 5 hi (by kernel_rfl));refine ai rfl fun K HK=>?_;go_simp;exact HK.out _ _ fun _ k=>k e13 hB h0 h1 h2 h3 h4 h5 h6 h7 h8 hidR (fun d=>by have e:=(h10.out d).2.1;rw[un]at e;cases e) h11 h12
    ·have un:f10=false:=hun;obtain⟨_,rfl⟩:=h5.out (ah 5 hi (by kernel_rfl));have d8:f8=true:=ah 8 hi (by kernel_rfl);obtain⟨_,rfl⟩:=h8.out d8;have d9:f9=true:=ah 9 hi (by kernel_rfl);cases h9 d9;refine ai rfl fun K HK=>?_;go_simp;exact HK.out _ _ fun _ k=>k e13 hB h0 h1 h2 h3 h4 h5 h6 h7 h8 h9 (fun _=>⟨d8,d9,rfl⟩) (fun d=>by have e:=(h11.out d).1;rw[un]at e;cases e) h12
    ·have un:f11=false:=hun;obtain⟨_,rfl⟩:=h5.out (ah 5 hi (by kernel_rfl));have d10:f10=true:=ah 10 hi (by kernel_rfl);obtain⟨_,_,rfl⟩:=h10.out d10;have V1:=KK.out _ _ hB;refine ai rfl fun K HK=>?_;go_simp;exact HK.out _ _ fun _ k=>k e13 hB h0 h1 h2 h3 h4 h5 h6 h7 h8 h9 h10 (fun _=>⟨d10,rfl⟩) (fun d=>by have e:=(h12.out d).2.1;rw[un]at e;cases e)
    ·obtain⟨_,rfl⟩:=h5.out (ah 5 hi (by kernel_rfl));have d6:f6=true:=ah 6 hi (by kernel_rfl);cases h6 d6;have d11:f11=true:=ah 11 hi (by kernel_rfl);obtain⟨_,rfl⟩:=h11.out d11;refine ai rfl fun K HK=>?_;go_simp;refine Calls.mono (ky hB) ?_;rintro e u4 ⟨rfl,s4⟩;exact HK.out _ _ fun _ k=>k e13 s4 h0 h1 h2 h3 h4 h5 h6 h7 h8 h9 h10 h11 (fun _=>⟨d6,d11,rfl⟩)
   ·intro w' f0 f1 f2 f3 f4 f5 f6 f7 f8 f9 f10 f11 f12 f13 pP x20 iv kf jw x24 x25 oC x27 x28 x29 x30 x31 x32 e13 hB h0 h1 h2 h3 h4 h5 h6 h7 h8 h9 h10 h11 h12 hi;have d5:f5=true:=ah 5 hi (by kernel_rfl);obtain⟨_,rfl⟩:=h5.out d5;have d12:f12=true:=ah 12 hi (by kernel_rfl);obtain⟨u6,u11,rfl⟩:=h12.out d12;clear hi;refine ai rfl fun K HK=>?_;go_simp;refine HK.out _ _ ?_;have T1:Hid (Sep B w0 w' (Pl P::ax q1 (.cells #[.string fr,.string tt] 75)::ax q2 (.cells #[.bool n.leaf,.slice ae n.es.length ce,.slice ak n.ks.length ck,.slice (some ⟨r2,o2,none⟩) n.ss.length cz] 54)::ax q3 (.cells #[.string ⟨#[]⟩,.string ⟨#[]⟩] 75)::l)):=hB;clear hB h0 h1 h2 h3 h4 h5 h6 h7 h8 h9 h10 h11 h12;obtain⟨_,⟨x0,x1⟩,g0,g1⟩:=Sep.c2 (Sep.jm T1.out);obtain⟨_,⟨y0,y1,y2,y3⟩,_⟩:=Sep.c4 (Sep.pk [_,_] T1.out);obtain⟨_,⟨z0,z1⟩,U9,f2'⟩:=Sep.c2 (Sep.pk [_,_,_] T1.out);have k2:=KK.out _ _ T1.out;cases hh:a8 tt k9
    ·rw[hh]at HE;rw[if_neg Bool.false_ne_true]at HE;have SF:Hid (Sep B w0 ((w'.setCell ⟨q3,0,none⟩ (.string fr)).setCell ⟨q3,1,none⟩ (.string tt)) (Pl P::ax q1 (.cells #[.string fr,.string tt] 75)::ax q2 (.cells #[.bool n.leaf,.slice ae n.es.length ce,.slice ak n.ks.length ck,.slice (some ⟨r2,o2,none⟩) n.ss.length cz] 54)::ax q3 (.cells #[.string fr,.string tt] 75)::l)):=Sep.pb [_,_,_] (((Sep.pk [_,_,_] T1.out).dA 0 _).dA 1 _);clear hh T1 KK;go_wp2;generalize World.setCell _ _ _=u2 at*;clear x0 x1 g0 g1 y0 y1 y2 y3 z0 z1 U9 f2' k2;obtain⟨_,⟨z0,z1⟩,_⟩:=Sep.c2 (Sep.pk [_,_,_] SF.out);refine bodyPost_ret (v:=.agg #[.string fr,.string tt]) ?_ rfl ⟨by rw[HE.out],Sep.drop (Sep.jm (Sep.drop (Sep.jm (Sep.drop (Sep.jm SF.out)))))⟩;rw[N.bF rfl];go_simp
    ·rw[hh]at HE;rw[if_pos rfl]at HE;have SF:Hid (Sep B w0 (((w'.setCell ⟨q1,1,none⟩ (.string k9)).setCell ⟨q3,0,none⟩ (.string fr)).setCell ⟨q3,1,none⟩ (.string k9)) (Pl P::ax q1 (.cells #[.string fr,.string k9] 75)::ax q2 (.cells #[.bool n.leaf,.slice ae n.es.length ce,.slice ak n.ks.length ck,.slice (some ⟨r2,o2,none⟩) n.ss.length cz] 54)::ax q3 (.cells #[.string fr,.string k9] 75)::l)):=Sep.pb [_,_,_] (((Sep.pk [_,_,_] (Sep.Uw ((Sep.jm T1.out).dA 1 (.string k9)))).dA 0 _).dA 1 _);clear hh T1 KK;go_wp2;generalize World.setCell _ _ _=u2 at*;clear x0 x1 g0 g1 y0 y1 y2 y3 z0 z1 U9 f2' k2;obtain⟨_,⟨z0,z1⟩,_⟩:=Sep.c2 (Sep.pk [_,_,_] SF.out);refine bodyPost_ret (v:=.agg #[.string fr,.string k9]) ?_ rfl ⟨by rw[HE.out],Sep.drop (Sep.jm (Sep.drop (Sep.jm (Sep.drop (Sep.jm SF.out)))))⟩;rw[N.bF rfl];go_simp
   ·intro _ _;intros;assumption
  ·obtain⟨_,⟨x0,x1⟩,g0,g1⟩:=Sep.c2 (Sep.jm T0.out);obtain⟨_,⟨y0,y1,y2,y3⟩,_⟩:=Sep.c4 (Sep.pk [_,_] T0.out);obtain⟨_,⟨z0,z1⟩,f0,f2⟩:=Sep.c2 (Sep.pk [_,_,_] T0.out);have hd:decide ((ix:Int)< (n.ss.length:Int))=false:=by simp;omega
   have hd2:decide (ix<n.ss.length)=false:=by simp;omega
   have HE:Hid (gB n.ss ix tt=tt):=by show _=_;unfold gB;rw[if_neg fun h=>hl h.1]
   have SF:Hid (Sep B w0 ((u0.drew.setCell ⟨q3,0,none⟩ (.string fr)).setCell ⟨q3,1,none⟩ (.string tt)) (Pl P::ax q1 (.cells #[.string fr,.string tt] 75)::ax q2 (.cells #[.bool n.leaf,.slice ae n.es.length ce,.slice ak n.ks.length ck,.slice az n.ss.length cz] 54)::ax q3 (.cells #[.string fr,.string tt] 75)::l)):=Sep.pb [_,_,_] (((Sep.pk [_,_,_] T0.out).dA 0 _).dA 1 _);clear T0 hl
   go_region
   generalize u0.drew=u1 at*;go_wp2;generalize World.setCell _ _ _=u2 at*;clear x0 x1 g0 g1 y0 y1 y2 y3 z0 z1 f0 f2;obtain⟨_,⟨z0,z1⟩,_⟩:=Sep.c2 (Sep.pk [_,_,_] SF.out);refine bodyPost_ret (v:=.agg #[.string fr,.string tt]) ?_ rfl ⟨by rw[HE.out],Sep.drop (Sep.jm (Sep.drop (Sep.jm (Sep.drop (Sep.jm SF.out)))))⟩;rw[N.bF rfl];go_simp
end
end Go.Proofs.YtceoeaemenhbhabGreatDoor
end
section
namespace Go.Proofs.YtceoeaemenhbhabGreatDoor
open Go.Shelf Go.RowKit Go.Lib Go.Sort
open N (Nd nd0 cC dm dX iF fO Sm dt iD En bn aT hidR aj ai Ch aI ah waits)
section
variable {B:Nat}{w0 w:World}{l:List aN}{P:List NV}{C:Cx}{x:TX}{d d1:Dk}
def OV (B:Nat)(w0:World)(C:Cx)(x:TX)(d:Dk)(P:List NV)(V:aN)(l:List aN)(b:Bool)(er:Int)(e:Ending)(w':World):Prop:=
 e=.returned (.tuple #[.bool b,.int .i64 er])∧∃P' d',(∀y∈P,y∈P')∧bh d d'∧Sep B w0 w' (TL C x d' P' (V::l))
def wN {σ:Type}(B:Nat)(w0:World)(C:Cx)(x:TX)(c1:Value)(st:σ->En->σ×Bool)(U:σ->aN)(m:σ->Nat)(Nm:Nat):Prop:=
 ∀(w:World) (d:Dk) (P:List NV) (l:List aN) (s:σ) (y:En),m (st s y).1<=Nm->Sep B w0 w (TL C x d P (U s::l))->
  Calls Tryz.prog 33 #[.agg #[.string y.1,.string y.2],c1] w fun e w'=>e=.returned (.bool (st s y).2)∧Sep B w0 w' (TL C x d P (U (st s y).1::l))
def Rl (B:Nat)(w0:World)(C:Cx)(x:TX)(d dc:Dk)(Pc:List NV)(U1 U2:aN)(l:List aN)(f10:Bool)(w:World):Prop:=
 (f10=false->Sep B w0 w (TL C x dc Pc (U1::l)))∧(f10=true->∃P' d',(∀y∈Pc,y∈P')∧bh d d'∧Sep B w0 w (TL C x d' P' (U2::l)))
def NG (B:Nat)(w0:World)(CC:Cx)(x:TX)(d dc:Dk)(Pc:List NV)(U1 U2:aN)(l:List aN)(b1:Bool)(e1:Int)(q8 oQ zA r ro Oy ck ii:Nat)(kid dp:Int)(fa ta fb tb:ByteArray)(cs:Array Value)(c1:Value){y1 y3 y5 y6 y7 y8 y9 nO mo y13 mq kC kD k7 y22 y23 y24 y25 rW y27 y28 y29 tH y31 y32 rX y34 oW oX rY y38 y39 tI tJ tK tL yc ye yf yg yh yi vQ vR vS vT vU tM yj Aq Ec Ed Ee Ef Ia Ib Ei Ej Ek El Em Eo Ep Es Et Eu Ew Ex Hz H0 H4 y93 yl y95 y96 I5 y98 y99:Value}(C:List Bool->Act->Prop)(w:World):Prop:=∀{f0 f1 f2 f3 f4 f5 f6 f7 f8 f9 f10 f11 f12 f13 f14 f15:Bool}{x20 iv oD x80 x81 x82 x83 x84 x85 x86 x87 x88 x89 x90 x91 NH:Value},f15=false->Rl B w0 CC x d dc Pc U1 U2 (ax q8 (.cells #[.string fb,.string tb] 75)::ax oQ (.cells cs 54)::ax zA (.cells #[.string fa,.string ta] 75)::l) f10 w->Hid (f0=true->x80=ptr CC.tq)->Hid (f1=true->x81=.pointer (some ⟨oQ,2,none⟩))->Hid (f2=true->x82=.slice (some ⟨r,ro,none⟩) Oy ck)->Hid (f3=true->x83=.int .i64 (ii:Int))->Hid (f4=true->f2=true∧x84=.pointer (some ⟨r,ro+ii,none⟩))->Hid (f5=true->f4=true∧x85=.int .i64 kid)->Hid (f6=true->x86=.int .i64 dp)->Hid (f7=true->x87=.int .i64 (dp+1))->Hid (f8=true->x88=.agg #[.string fa,.string ta])->Hid (f9=true->x89=.func (.func 33) #[] #[c1])->Hid (f10=true->f2=true∧f5=true∧f8=true∧x90=.tuple #[.bool b1,.int .i64 e1])->Hid (f11=true->f10=true∧oD=.tuple #[.bool b1,.int .i64 e1])->Hid (f12=true->f10=true∧x91=.bool b1)->Hid (f13=true->f10=true∧NH=.int .i64 e1)->Hid (f14=true->f10=true∧x20=.bool b1)->C [f0,f1,f2,f3,f4,f5,f6,f7,f8,f9,f10,f11,f12,f13,f14,f15] {tmps:=#[ptr CC.tq,y1,.int .i64 dp,y3,.func (.func 33) #[] #[c1],y5,y6,y7,y8,y9,nO,mo,.pointer (some ⟨oQ,0,none⟩),y13,mq,kC,kD,k7,.int .i64 (ii:Int),.pointer (some ⟨zA,0,none⟩),x20,iv,y22,y23,y24,y25,rW,y27,y28,y29,tH,y31,y32,rX,y34,oW,oX,rY,y38,y39,tI,tJ,tK,tL,yc,ye,yf,yg,yh,yi,vQ,vR,vS,vT,vU,tM,yj,Aq,Ec,Ed,Ee,Ef,Ia,Ib,Ei,Ej,Ek,El,Em,Eo,Ep,Es,Et,Eu,Ew,Ex,Hz,H0,H4,oD,x80,x81,x82,x83,x84,x85,x86,x87,x88,x89,x90,x91,NH,y93,yl,y95,y96,I5,y98,y99],defers:=[]}
theorem JI {σ:Type}{st:σ->En->σ×Bool}{m:σ->Nat}{Nm:Nat}{U:σ->aN}{c1:Value}(T:bY B w0)(hr:d.room<=16384)(ok:x.Ok d.room)(hz:x.Sz)(hu:wN B w0 C x c1 st U m Nm)(hm:∀s e,m s<=m (st s e).1):
  ∀(f:Nat) (w:World) (d1:Dk) (P:List NV) (l:List aN) (s s':σ) (id depth:Int) (fr tt:ByteArray) (b:Bool) (er:Int),Wf id->0<=depth->bh d d1->dO x d st f s id depth fr tt=some (s',(b,er))->m s'<=Nm->Sep B w0 w (TL C x d1 P (U s::l))->
  Calls Tryz.prog 54 #[ptr C.tq,.int .i64 id,.int .i64 depth,.agg #[.string fr,.string tt],.func (.func 33) #[] #[c1]] w (OV B w0 C x d P (U s') l b er):=by
 intro f
 induction f with
 |zero=>intro w d1 P l s s' id depth fr tt b er _ _ _ he;cases he
 |succ f ih=>
 intro w d1 P l s s' id depth fr tt b er hw hd0 hd he hN h;have HU:Hid (wN B w0 C x c1 st U m Nm):=hu;have HM:Hid (∀s e,m s<=m (st s e).1):=hm;have HN:Hid (m s'<=Nm):=hN;have HD:Hid (bh d d1):=hd;have IH:Hid (∀(w:World) (d1:Dk) (P:List NV) (l:List aN) (s s':σ) (id depth:Int) (fr tt:ByteArray) (b:Bool) (er:Int),Wf id->0<=depth->bh d d1->dO x d st f s id depth fr tt=some (s',(b,er))->m s'<=Nm->Sep B w0 w (TL C x d1 P (U s::l))->Calls Tryz.prog 54 #[ptr C.tq,.int .i64 id,.int .i64 depth,.agg #[.string fr,.string tt],.func (.func 33) #[] #[c1]] w (OV B w0 C x d P (U s') l b er)):=ih;have S1:Hid (Sep B w0 (w.alloc (.cells #[.string fr,.string tt] 75)) _):=Sep.oY (h.aO _);have KR:Hid (∀u L,Sep B w0 u (TL C x d1 P L)->Calls Tryz.prog 58 #[ptr C.tq,.int .i64 id,.int .i64 depth] u (GN B w0 C x d1 P L 2 (dC x d id depth).1 (dC x d id depth).2)):=fun u L hu=>by
  have:=nS (id:=id) (depth:=depth) T hu hw (by rw[hd.room];exact ok) (by rw[hd.room];exact hr) hz
  rwa [hd.dC]at this
 have HD0:Hid (0<=depth):=hd0;rw[dO]at he;clear h hu hm hN hd ih hw hd0 T hr ok hz;generalize dC x d id depth=rr at*;obtain⟨n0,e0⟩:=rr;simp only at KR he;have HE:Hid (_=some (s',(b,er))):=he;clear he;go_enter Tryz.func54,Tryz.ntmps54
 go_wp2_with fail
 generalize World.alloc _ _=v1 at*;generalize w.heap.size=q8 at*;refine Calls.mono (KR.out _ _ S1.out) ?_;rintro e v2 ⟨p,d2,hn0,rfl,hd2,s2⟩;subst hn0;unfold NV.v;have D2:Hid (bh d d2):=HD.out.trans ⟨_,hd2⟩;have S2:Hid (Sep B w0 (v2.alloc (.cells #[.bool p.n.leaf,.slice p.ae p.n.es.length p.ce,.slice p.ak p.n.ks.length p.ck,.slice p.az p.n.ss.length p.cz] 54)) (TL C x d2 (p::P) (U s::ax q8 (.cells #[.string fr,.string tt] 75)::ax v2.heap.size (.cells #[.bool p.n.leaf,.slice p.ae p.n.es.length p.ce,.slice p.ak p.n.ks.length p.ck,.slice p.az p.n.ss.length p.cz] 54)::l))):=Sep.mF (Sep.aP s2 _ _ rfl);clear KR hd2 s2 S1 HD;by_cases uS:e0≠0
 ·have hE:=HE.out;rw[if_pos uS]at hE;obtain⟨ha,hb,hc⟩:s=s'∧false=b∧e0=er:=by
   cases hE;exact⟨rfl,rfl,rfl⟩
  subst ha hb hc;have hne:(e0 != 0)=true:=bne_iff_ne.2 uS;clear hE uS HE;go_wp2;go_ret2;exact⟨rfl,p::P,d2,fun y hy=>List.mem_cons_of_mem _ hy,D2.out,Sep.drop (Sep.cQ (Sep.drop (Sep.cQ (S2.out))))⟩
 ·have hE:=HE.out;rw[if_neg uS]at hE;have ez:e0=0:=Classical.not_not.1 uS;subst ez;by_cases hg:(bW p.n&&dm p.n)=false∨1000<depth
  ·rw[if_pos hg]at hE;cases hE
  rw[if_neg hg]at hE;have hg2:bW p.n=true∧dm p.n=true∧depth<=1000:=by
   refine⟨?_,?_,by omega⟩
   ·cases hx:bW p.n
    ·exact absurd (.inl (by rw[hx];rfl)) hg
    ·rfl
   ·cases hx:dm p.n
    ·exact absurd (.inl (by rw[hx,Bool.and_false])) hg
    ·rfl
  obtain⟨hsm,hrt,hdp⟩:=hg2;obtain⟨im,za,Bj,_,hwk⟩:=eu hsm;have hrg:N.Rg p.n.es:=by
   cases hl:p.n.leaf with
   |true=>exact((N.fc hl).1 hrt).2.2
   |false=>rw[((N.eN hl).1 hrt).1];exact⟨List.Pairwise.nil,fun _ h=>by cases h⟩
  have Dp:Hid (N.Rg p.n.es):=hrg;have uK:Hid (Sm p.n∧∀k∈p.n.ks,Wf k):=⟨im,hwk⟩;have wO:Hid (p.n.es.length<=500∧p.n.ks.length<=500∧0<=depth∧depth<=1000):=⟨Bj,za,HD0.out,hdp⟩;clear HE uS hg hsm hrt hdp im za Bj hwk hrg HD0;have tS:Hid (_=some (s',(b,er))):=hE;clear hE
  go_upto_region 4 with fail
  generalize World.alloc _ _=v3 at*;generalize v2.heap.size=oQ at*;obtain⟨ae,ce,ak,ck,az,cz,n⟩:=p;simp only at*;have wP:Hid ((⟨ae,ce,ak,ck,az,cz,n⟩:NV)∈(⟨ae,ce,ak,ck,az,cz,n⟩:NV)::P∧∀y∈P,y∈(⟨ae,ce,ak,ck,az,cz,n⟩:NV)::P):=⟨List.mem_cons_self ..,fun y hy=>List.mem_cons_of_mem _ hy⟩;generalize Va:(⟨ae,ce,ak,ck,az,cz,n⟩:NV)::P=PP at*;clear Va;have KF:Hid _:=N.jO (.slice ae n.es.length ce) n.es fr v3 (Sep.pool (Sep.pU S2.out) _ wP.out.1).e (by have:=wO.out;omega);obtain⟨_,⟨x0,x1⟩,_⟩:=Sep.c2 (Sep.cQ (S2.out));obtain⟨_,⟨y0,y1,y2,y3⟩,_⟩:=Sep.c4 (Sep.cO (S2.out))
  go_wp2_with fail
  refine Calls.mono KF.out ?_;rintro e v4 ⟨i0,ff,rfl,hf,b4⟩;have hi1:=(hf.2.2 Dp.out).1;have hi2:=hf.1;have S4:Hid _:=S2.out.below b4;clear S2 b4 x0 x1 y0 y1 y2 y3 KF hf Dp;rw[<-hi1]at tS;clear hi1;have RS:Hid (∀u,(Instr.slice 32 (.slice ae n.es.length ce) (some (.int .i64 (i0:Int))) none none).run Tryz.prog u=.ok (.slice (if ce=i0 then ae else ae.map (·.add (i0*2))) (n.es.length-i0) (ce-i0)) u):=fun u=>N.pG ae n.es.length ce i0 hi2 u;have RR:Hid (∀u L,Sep B w0 u (TL C x d2 PP L)->N.Row N.ar 2 u (.slice (if ce=i0 then ae else ae.map (·.add (i0*2))) (n.es.length-i0) (ce-i0)) (n.es.drop i0)):=fun u L hu=>N.Row.Wu (Sep.pool (Sep.pU hu) _ wP.out.1).e i0 hi2;rw[show n.es.length-i0=(n.es.drop i0).length by rw[List.length_drop]]at RS RR;have Vb:(n.es.drop i0).length<=500:=by rw[List.length_drop];have:=wO.out;omega
  generalize n.es.drop i0=L at*;generalize(if ce=i0 then ae else ae.map (·.add (i0*2)))=aS at*;generalize ce-i0=cS at*;have X7:Hid (L.length<=500):=Vb;have Rm:(i0:Int)<=(n.es.length:Int):=by omega
  clear Vb hi2;obtain⟨_,⟨y0,y1,y2,y3⟩,_⟩:=Sep.c4 (Sep.cO (S4.out));have X8:=RS.out v4;go_wp2;clear y0 y1 y2 y3 X8 RS Rm
  go_loopg [45] L.length (fun kx Ya wr=>∃(j:Nat) (sj:σ),Ya=.int .i64 (j:Int)∧j<=L.length∧L.length-j<=kx∧Hid (oL st tt L s=oL st tt (L.drop j) sj)∧Hid (Sep B w0 wr (TL C x d2 PP (U sj::ax q8 (.cells #[.string fr,.string tt] 75)::ax oQ (.cells #[.bool n.leaf,.slice ae n.es.length ce,.slice ak n.ks.length ck,.slice az n.ss.length cz] 54)::l))))
  case atStart=>exact⟨0,s,rfl,Nat.zero_le _,Nat.le_refl _,(by show _=_;rw[List.drop_zero]),S4.out⟩
  case round=>
   clear S4;obtain⟨j,sj,rfl,hj,V8,HJ,HS⟩:=hrel;by_cases hlt:j<L.length
   ·have jV:(j:Int)< (L.length:Int):=by omega
    obtain⟨dx,cap',e',_,_,h3⟩:=RR.out _ _ HS.out;obtain⟨rb,Vc,hae,hrb,z0,z1⟩:=N.cT h3 j hlt (Below.refl _ _);have e2:aS=dx:=by injection e'
    subst hae;subst e2;have hJ:=HJ.out;rw[N.iB hlt,oL]at hJ;have UK:IntKind.i64.wrap ((j:Int)+1)=((j+1:Nat):Int):=by rw[bA (by omega) (by have:=X7.out;omega)];rfl
    have HB1:Hid (m (oL st tt L s).1<=Nm):=by
     have h1:=tS.out;show _<=_;refine Nat.le_trans ?_ HN.out;split at h1
     ·cases h1;exact Nat.le_refl _
     ·exact gM (fun s k f' t s' r hh=>iV HM.out x d f s k (depth+1) f' t s' r hh) _ _ _ _ _ _ _ _ h1
    generalize jx:L[j]! =y at*;clear jx h3 e' HJ;have S5:Hid (Sep B w0 (wr.alloc (.cells #[.string y.1,.string y.2] 38)) _):=Sep.uG (HS.out.aO _);have HJ2:Hid (_=_):=hJ;clear hJ HS
    go_upto_region 8 with fail
    clear z0 z1 hrb;generalize World.alloc _ _=v5 at*;generalize wr.heap.size=q17 at*;obtain⟨_,⟨x0,x1⟩,_⟩:=Sep.c2 (Sep.cQ (S5.out));obtain⟨_,⟨z0,z1⟩,_⟩:=Sep.c2 (Sep.dV (S5.out))
    go_wp2_with fail
    refine Calls.mono (ky S5.out) ?_;rintro e v6 ⟨rfl,s6⟩;have S6:Hid _:=s6;clear x0 x1 z0 z1 s6 S5;by_cases hh:a8 tt y.1=false
    ·have hJ:=HJ2.out;rw[if_pos hh]at hJ;have h1:=tS.out;rw[hJ]at h1;obtain⟨ha,hb,hc⟩:sj=s'∧true=b∧0=er:=by
      cases h1;exact⟨rfl,rfl,rfl⟩
     subst ha hb hc;clear hJ h1 tS HJ2 HB1;rw[hh];go_wp2;go_ret2;exact⟨rfl,PP,d2,wP.out.2,D2.out,Sep.drop (Sep.cQ (Sep.drop (Sep.cQ (Sep.drop (Sep.cQ (S6.out))))))⟩
    ·have JJ:a8 tt y.1=true:=by simpa using hh
     have hJ:=HJ2.out;rw[if_neg hh]at hJ;have hbd:m (st sj y).1<=Nm:=by
      have h1:=HB1.out;rw[hJ]at h1;refine Nat.le_trans ?_ h1;split
      ·exact Nat.le_refl _
      ·exact mP HM.out tt _ _
     have KU:Hid _:=HU.out v6 d2 PP _ sj y hbd S6.out;obtain⟨_,⟨z0,z1⟩,_⟩:=Sep.c2 (Sep.dV (S6.out));have JK:Hid (_=_):=hJ;clear hJ HJ2 HB1 hbd S6 hh;rw[JJ];clear JJ;generalize st sj y=sy at*;obtain⟨s2,b2⟩:=sy;simp only at KU JK
     go_wp2_with fail
     refine Calls.mono KU.out ?_;rintro e v7 ⟨rfl,s7⟩;have S7:Hid _:=s7;clear z0 z1 s7 KU;cases b2 with
     |false=>
      have hJ:=JK.out;rw[if_pos rfl]at hJ;have h1:=tS.out;rw[hJ]at h1;obtain⟨ha,hb,hc⟩:s2=s'∧false=b∧0=er:=by
       cases h1;exact⟨rfl,rfl,rfl⟩
      subst ha hb hc;clear hJ h1 tS JK;go_wp2;go_ret2;exact⟨rfl,PP,d2,wP.out.2,D2.out,Sep.drop (Sep.cQ (Sep.drop (Sep.cQ (Sep.drop (Sep.cQ (S7.out))))))⟩
     |true=>
      have hJ:=JK.out;rw[if_neg (by simp)]at hJ;have Yb:Hid (oL st tt L s=oL st tt (L.drop (j+1)) s2):=hJ;clear hJ JK;go_wp2
      go_roundg (L.length- (j+1))
      case measure=>omega
      case rel=>exact⟨j+1,s2,by go_num,by omega,Nat.le_refl _,Yb.out,Sep.mF (Sep.oY (Sep.cQ (Sep.cO (Sep.drop (Sep.dV (S7.out))))))⟩
   ·have jV:¬(j:Int)< (L.length:Int):=by omega
    obtain rfl:j=L.length:=by omega
    have hJ:=HJ.out;rw[List.drop_length,oL]at hJ;have hE:=tS.out;rw[hJ]at hE;have HE2:Hid (fM (fun s id fr tt=>dO x d st f s id (depth+1) fr tt) n fr tt (n.ks.length-dt n.ss fr) (dt n.ss fr) sj=some (s',(b,er))):=hE;have KC:Hid _:=N.ki n fr (.slice ae n.es.length ce) (.slice ak n.ks.length ck) (.slice az n.ss.length cz) wr (Sep.pool (Sep.pU HS.out) _ wP.out.1) uK.out.1;obtain⟨_,⟨x0,x1⟩,_⟩:=Sep.c2 (Sep.cQ (HS.out));obtain⟨_,⟨y0,y1,y2,y3⟩,_⟩:=Sep.c4 (Sep.cO (HS.out));clear hJ hE HJ tS RR;generalize dt n.ss fr=c0 at*
    go_wp2_with fail
    refine Calls.mono KC.out ?_;rintro e v8 ⟨rfl,b8⟩;have S8:Hid _:=HS.out.below b8;clear KC b8 HS x0 x1 y0 y1 y2 y3;go_wp2
    go_loopg [18] n.ks.length (fun kx TR wr=>∃(ii:Nat) (si:σ) (Pc:List NV) (dc:Dk),TR=.int .i64 (ii:Int)∧n.ks.length-ii<=kx∧Hid (fM (fun s id fr tt=>dO x d st f s id (depth+1) fr tt) n fr tt (n.ks.length-ii) ii si=some (s',(b,er)))∧Hid ((⟨ae,ce,ak,ck,az,cz,n⟩:NV)∈Pc∧∀y∈P,y∈Pc)∧Hid (bh d dc)∧Hid (Sep B w0 wr (TL C x dc Pc (U si::ax q8 (.cells #[.string fr,.string tt] 75)::ax oQ (.cells #[.bool n.leaf,.slice ae n.es.length ce,.slice ak n.ks.length ck,.slice az n.ss.length cz] 54)::l))))
    case atStart=>exact⟨c0,sj,PP,d2,rfl,by omega,HE2.out,wP.out,D2.out,S8.out⟩
    case round=>
     clear S8 HE2 D2 wP;obtain⟨ii,si,Pc,dc,rfl,hix,HE2,kq,HD,HS⟩:=hrel;by_cases hlt:ii<n.ks.length
     ·have jV:(ii:Int)< (n.ks.length:Int):=by omega
      obtain⟨g,MR⟩:∃g,n.ks.length-ii=g+1:=⟨n.ks.length-ii-1,by omega⟩;have hE:=HE2.out;rw[MR,fM]at hE;by_cases hss:n.ss.length<ii
      ·rw[if_pos hss]at hE;cases hE
      rw[if_neg hss]at hE;have KP:Hid _:=yZ (fr:=fr) (tt:=tt) (ix:=ii) (Sep.pU HS.out) kq.out.1 (by simp only;omega) (by have:=uK.out.1.s;omega);obtain⟨r,ro,hak,_,_⟩:=NV.kid (p:=⟨ae,ce,ak,ck,az,cz,n⟩) (Sep.pool (Sep.pU HS.out) _ kq.out.1) (i:=ii) hlt;simp only at hak;subst hak;have Ri:Hid (Wf (n.ks.getD ii 0)):=by
       refine uK.out.2 _ ?_;rw[List.getD_eq_getElem?_getD,List.getElem?_eq_getElem hlt];exact List.getElem_mem _
      have JM:Hid (ii<n.ks.length):=hlt;have HG:Hid (n.ks.length-ii=g+1):=MR;generalize ju n.ss ii fr=fa at*;generalize gB n.ss ii tt=ta at*;obtain⟨_,⟨x0,x1⟩,_⟩:=Sep.c2 (Sep.cQ (HS.out));obtain⟨_,⟨y0,y1,y2,y3⟩,_⟩:=Sep.c4 (Sep.cO (HS.out));have nT:Hid (_=some (s',(b,er))):=hE;clear hE HE2 hss MR hlt HS;simp only at KP
      go_wp2_with fail
      clear x0 x1 y0 y1 y2 y3;refine Calls.mono KP.out ?_;rintro e v8 ⟨rfl,s8⟩;have S8:Hid (Sep B w0 (v8.alloc (.cells #[.string fa,.string ta] 75)) (TL C x dc Pc (U si::ax q8 (.cells #[.string fr,.string tt] 75)::ax oQ (.cells #[.bool n.leaf,.slice ae n.es.length ce,.slice (some ⟨r,ro,none⟩) n.ks.length ck,.slice az n.ss.length cz] 54)::ax v8.heap.size (.cells #[.string fa,.string ta] 75)::l))):=Sep.uG (Sep.aP (Sep.ZA s8) _ _ rfl);clear s8 KP
      go_upto_region 17 with fail
      generalize World.alloc _ _=v9 at*;generalize v8.heap.size=zA at*;obtain⟨_,⟨x0,x1⟩,_⟩:=Sep.c2 (Sep.dV (S8.out))
      go_wp2_with fail
      refine Calls.mono (ky S8.out) ?_;rintro e v10 ⟨rfl,s9⟩;have S9:Hid _:=s9;clear x0 x1 s9 S8;by_cases hh:a8 ta fa=false
      ·have hE:=nT.out;rw[if_pos hh]at hE;obtain⟨ha,hb,hc⟩:si=s'∧true=b∧0=er:=by
        cases hE;exact⟨rfl,rfl,rfl⟩
       subst ha hb hc;clear hE nT;rw[hh];go_wp2;go_ret2;exact⟨rfl,Pc,dc,kq.out.2,HD.out,Sep.drop (Sep.cQ (Sep.drop (Sep.cQ (Sep.drop (Sep.cQ (S9.out))))))⟩
      ·have JJ:a8 ta fa=true:=by simpa using hh
       have hE:=nT.out;rw[if_neg hh]at hE;clear nT hh;rw[JJ];clear JJ;have MX:Hid _:=kq.out.1;generalize o0:n.ks.getD ii 0=kid at*;have U4:Hid (n.ks.getD ii 0=kid):=o0;have Yc:Hid (IntKind.i64.wrap (depth+1)=depth+1):=bA (by have:=wO.out;omega) (by have:=wO.out;omega);cases hrec:dO x d st f si kid (depth+1) fa ta with
       |none=>rw[hrec]at hE;cases hE
       |some rs=>
        obtain⟨s1,b1,e1⟩:=rs;rw[hrec]at hE;simp only at hE;have hb1:m s1<=Nm:=by
         refine Nat.le_trans ?_ HN.out;split at hE
         ·cases hE;exact Nat.le_refl _
         ·exact gM (fun s k f' t s' r hh=>iV HM.out x d f s k (depth+1) f' t s' r hh) _ _ _ _ _ _ _ _ hE
        have KI:Hid (∀u,Sep B w0 u (TL C x dc Pc (U si::ax q8 (.cells #[.string fr,.string tt] 75)::ax oQ (.cells #[.bool n.leaf,.slice ae n.es.length ce,.slice (some ⟨r,ro,none⟩) n.ks.length ck,.slice az n.ss.length cz] 54)::ax zA (.cells #[.string fa,.string ta] 75)::l))->Calls Tryz.prog 54 #[ptr C.tq,.int .i64 kid,.int .i64 (depth+1),.agg #[.string fa,.string ta],.func (.func 33) #[] #[c1]] u (OV B w0 C x d Pc (U s1) (ax q8 (.cells #[.string fr,.string tt] 75)::ax oQ (.cells #[.bool n.leaf,.slice ae n.es.length ce,.slice (some ⟨r,ro,none⟩) n.ks.length ck,.slice az n.ss.length cz] 54)::ax zA (.cells #[.string fa,.string ta] 75)::l) b1 e1)):=fun u hu=>IH.out u dc Pc _ si s1 kid (depth+1) fa ta b1 e1 Ri.out (by have:=wO.out;omega) HD.out hrec hb1 hu;have nT:Hid (_=some (s',(b,er))):=hE;clear hE hrec hb1 o0
        go_wp2_with fail
        refine aT 15 (NG B w0 C x d dc Pc (U si) (U s1) l b1 e1 q8 oQ zA r ro n.ks.length ck ii kid depth fa ta fr tt #[.bool n.leaf,.slice ae n.es.length ce,.slice (some ⟨r,ro,none⟩) n.ks.length ck,.slice az n.ss.length cz] c1) (by kernel_rfl) (by kernel_rfl) (by kernel_rfl) (fun _ k=>k rfl ⟨fun _=>Sep.drew S9.out,(fun h=>by cases h)⟩ aj aj aj aj aj aj aj aj aj aj aj aj aj aj aj) ?_ ?_ ?_
        ·intro i w' hne f0 f1 f2 f3 f4 f5 f6 f7 f8 f9 f10 f11 f12 f13 f14 f15 x20 iv oD x80 x81 x82 x83 x84 x85 x86 x87 x88 x89 x90 x91 NH e15 hB h0 h1 h2 h3 h4 h5 h6 h7 h8 h9 h10 h11 h12 bG bT hi;obtain⟨hlt,hun,_⟩:=aI hi;have hlt':i<16:=hlt;clear hlt;rcases(by omega:i=0∨i=1∨i=2∨i=3∨i=4∨i=5∨i=6∨i=7∨i=8∨i=9∨i=10∨i=11∨i=12∨i=13∨i=14)with rfl|rfl|rfl|rfl|rfl|rfl|rfl|rfl|rfl|rfl|rfl|rfl|rfl|rfl|rfl
         ·refine ai rfl fun K HK=>?_;go_simp;exact HK.out _ _ fun _ k=>by apply k<;>first|assumption|exact hidR|(repeat' first|apply Exists.intro|assumption|rfl|apply And.intro|exact fun _=>rfl)
         ·refine ai rfl fun K HK=>?_;go_simp;exact HK.out _ _ fun _ k=>by apply k<;>first|assumption|exact hidR|(repeat' first|apply Exists.intro|assumption|rfl|apply And.intro|exact fun _=>rfl)
         ·have un:f2=false:=hun;cases h1 (ah 1 hi (by kernel_rfl));have n10:f10=false:=by
           cases hf:f10
           ·rfl
           ·exact absurd (h10.out hf).1 (by rw[un];simp)
          obtain⟨_,⟨y0,y1,y2,y3⟩,_⟩:=Sep.c4 (Sep.cO (hB.1 n10));refine ai rfl fun K HK=>?_;go_simp;exact HK.out _ _ fun _ k=>k e15 hB h0 h1 hidR h3 (fun d=>by have e:=(h4.out d).1;rw[un]at e;cases e) h5 h6 h7 h8 h9 (fun d=>by have e:=(h10.out d).1;rw[un]at e;cases e) h11 h12 bG bT
         ·refine ai rfl fun K HK=>?_;go_simp;exact HK.out _ _ fun _ k=>by apply k<;>first|assumption|exact hidR|(repeat' first|apply Exists.intro|assumption|rfl|apply And.intro|exact fun _=>rfl)
         ·have un:f4=false:=hun;have d2:f2=true:=ah 2 hi (by kernel_rfl);cases h2 d2;cases h3 (ah 3 hi (by kernel_rfl));have hil:(ii:Int)< (n.ks.length:Int):=by have:=JM.out;omega
          refine ai rfl fun K HK=>?_;go_simp;exact HK.out _ _ fun _ k=>k e15 hB h0 h1 h2 h3 (fun _=>⟨d2,rfl⟩) (fun d=>by have e:=(h5.out d).1;rw[un]at e;cases e) h6 h7 h8 h9 h10 h11 h12 bG bT
         ·have un:f5=false:=hun;have d4:f4=true:=ah 4 hi (by kernel_rfl);obtain⟨_,rfl⟩:=h4.out d4;have n10:f10=false:=by
           cases hf:f10
           ·rfl
           ·exact absurd (h10.out hf).2.1 (by rw[un];simp)
          obtain⟨z1,z2,hz3,hzs,hzc⟩:=NV.kid (p:=(⟨ae,ce,some ⟨r,ro,none⟩,ck,az,cz,n⟩:NV)) (Sep.pool (Sep.pU (hB.1 n10)) _ MX.out) (i:=ii) JM.out;cases hz3;simp only at hzc;rw[U4.out]at hzc;refine ai rfl fun K HK=>?_;go_simp;exact HK.out _ _ fun _ k=>k e15 hB h0 h1 h2 h3 h4 (fun _=>⟨d4,rfl⟩) h6 h7 h8 h9 (fun d=>by have e:=(h10.out d).2.1;rw[un]at e;cases e) h11 h12 bG bT
         ·refine ai rfl fun K HK=>?_;go_simp;exact HK.out _ _ fun _ k=>by apply k<;>first|assumption|exact hidR|(repeat' first|apply Exists.intro|assumption|rfl|apply And.intro|exact fun _=>rfl)
         ·cases h6 (ah 6 hi (by kernel_rfl));have wd:=Yc.out;refine ai rfl fun K HK=>?_;go_simp;exact HK.out _ _ fun _ k=>by apply k<;>first|assumption|exact hidR|(repeat' first|apply Exists.intro|assumption|rfl|apply And.intro|exact fun _=>rfl)
         ·have un:f8=false:=hun;have n10:f10=false:=by
           cases hf:f10
           ·rfl
           ·exact absurd (h10.out hf).2.2.1 (by rw[un];simp)
          obtain⟨_,⟨y0,y1⟩,_⟩:=Sep.c2 (Sep.dV (hB.1 n10));refine ai rfl fun K HK=>?_;go_simp;exact HK.out _ _ fun _ k=>k e15 hB h0 h1 h2 h3 h4 h5 h6 h7 hidR h9 (fun d=>by have e:=(h10.out d).2.2.1;rw[un]at e;cases e) h11 h12 bG bT
         ·refine ai rfl fun K HK=>?_;go_simp;exact HK.out _ _ fun _ k=>by apply k<;>first|assumption|exact hidR|(repeat' first|apply Exists.intro|assumption|rfl|apply And.intro|exact fun _=>rfl)
         ·have un:f10=false:=hun;cases h0 (ah 0 hi (by kernel_rfl));have d5:f5=true:=ah 5 hi (by kernel_rfl);obtain⟨_,rfl⟩:=h5.out d5;cases h7 (ah 7 hi (by kernel_rfl));have d8:f8=true:=ah 8 hi (by kernel_rfl);cases h8 d8;cases h9 (ah 9 hi (by kernel_rfl));refine ai rfl fun K HK=>?_;go_simp;refine Calls.mono (KI.out _ (hB.1 un)) ?_;rintro e u4 ⟨rfl,s4⟩;exact HK.out _ _ fun _ k=>k e15 ⟨(fun h=>by cases h),fun _=>s4⟩ h0 h1 h2 h3 h4 h5 h6 h7 h8 h9 (fun _=>⟨(h4.out (h5.out d5).1).1,d5,d8,rfl⟩) (fun d=>by have e:=(h11.out d).1;rw[un]at e;cases e) (fun d=>by have e:=(h12.out d).1;rw[un]at e;cases e) (fun d=>by have e:=(bG.out d).1;rw[un]at e;cases e) (fun d=>by have e:=(bT.out d).1;rw[un]at e;cases e)
         ·have d10:f10=true:=ah 10 hi (by kernel_rfl);obtain⟨u2,u5,u8,rfl⟩:=h10.out d10;refine ai rfl fun K HK=>?_;go_simp;exact HK.out _ _ fun _ k=>k e15 hB h0 h1 h2 h3 h4 h5 h6 h7 h8 h9 h10 (fun _=>⟨d10,rfl⟩) h12 bG bT
         ·have d11:f11=true:=ah 11 hi (by kernel_rfl);obtain⟨_,rfl⟩:=h11.out d11;have d10:f10=true:=(h11.out d11).1;refine ai rfl fun K HK=>?_;go_simp;exact HK.out _ _ fun _ k=>k e15 hB h0 h1 h2 h3 h4 h5 h6 h7 h8 h9 h10 h11 (fun _=>⟨d10,rfl⟩) bG bT
         ·have d11:f11=true:=ah 11 hi (by kernel_rfl);obtain⟨_,rfl⟩:=h11.out d11;have d10:f10=true:=(h11.out d11).1;refine ai rfl fun K HK=>?_;go_simp;exact HK.out _ _ fun _ k=>k e15 hB h0 h1 h2 h3 h4 h5 h6 h7 h8 h9 h10 h11 h12 (fun _=>⟨d10,rfl⟩) bT
         ·have d12:f12=true:=ah 12 hi (by kernel_rfl);obtain⟨_,rfl⟩:=h12.out d12;have d10:f10=true:=(h12.out d12).1;refine ai rfl fun K HK=>?_;go_simp;exact HK.out _ _ fun _ k=>k e15 hB h0 h1 h2 h3 h4 h5 h6 h7 h8 h9 h10 h11 h12 bG (fun _=>⟨d10,rfl⟩)
        ·intro w' f0 f1 f2 f3 f4 f5 f6 f7 f8 f9 f10 f11 f12 f13 f14 f15 x20 iv oD x80 x81 x82 x83 x84 x85 x86 x87 x88 x89 x90 x91 NH e15 hB h0 h1 h2 h3 h4 h5 h6 h7 h8 h9 h10 h11 h12 bG bT hi;have d13:f13=true:=ah 13 hi (by kernel_rfl);obtain⟨_,rfl⟩:=bG.out d13;have d14:f14=true:=ah 14 hi (by kernel_rfl);obtain⟨_,rfl⟩:=bT.out d14;clear hi;have Vd:=(bG.out d13).1;refine ai rfl fun K HK=>?_;go_simp;refine HK.out _ _ ?_;obtain⟨P1,d3,hp1,hd3,s9⟩:=hB.2 Vd;have zE:Hid _:=Sep.drop (Sep.dV (s9));have D3:Hid (bh d d3):=hd3;have M3:Hid ((⟨ae,ce,some ⟨r,ro,none⟩,ck,az,cz,n⟩:NV)∈P1∧∀y∈P,y∈P1):=⟨hp1 _ kq.out.1,fun y hy=>hp1 _ (kq.out.2 y hy)⟩;clear s9 hp1 hd3 h0 h1 h2 h3 h4 h5 h6 h7 h8 h9 h10 h11 h12 bG bT hB Vd;have wi:IntKind.i64.wrap ((ii:Int)+1)=((ii+1:Nat):Int):=by rw[bA (by have:=JM.out;have:=wO.out;omega) (by have:=JM.out;have:=wO.out;omega)];rfl
         by_cases hq:e1≠0∨b1=false
         ·have hE:=nT.out;rw[if_pos hq]at hE;obtain⟨ha,hb,hc⟩:s1=s'∧false=b∧e1=er:=by
           cases hE;exact⟨rfl,rfl,rfl⟩
          subst ha hb hc;clear hE nT;rcases Classical.em (e1=0)with h00|h00
          ·obtain rfl:b1=false:=by
            rcases hq with h|h
            ·exact absurd h00 h
            ·exact h
           subst h00;go_wp2;go_ret2;exact⟨rfl,P1,d3,M3.out.2,D3.out,Sep.drop (Sep.cQ (Sep.drop (Sep.cQ (zE.out))))⟩
          ·have hne:(e1 != 0)=true:=bne_iff_ne.2 h00;go_wp2;go_ret2;exact⟨rfl,P1,d3,M3.out.2,D3.out,Sep.drop (Sep.cQ (Sep.drop (Sep.cQ (zE.out))))⟩
         ·have hE:=nT.out;rw[if_neg hq]at hE;obtain⟨rfl,rfl⟩:e1=0∧b1=true:=by
           refine⟨?_,?_⟩
           ·rcases Classical.em (e1=0)with h|h
            ·exact h
            ·exact absurd (.inl h) hq
           ·cases hb1:b1
            ·exact absurd (.inr hb1) hq
            ·rfl
          have Ve:Hid (fM (fun s id fr tt=>dO x d st f s id (depth+1) fr tt) n fr tt g (ii+1) s1=some (s',(b,er))):=hE;clear hE nT hq;go_wp2
          go_roundg (n.ks.length- (ii+1))
          case measure=>have:=JM.out;omega
          case rel=>exact⟨ii+1,s1,P1,d3,(by go_num),Nat.le_refl _,(by show _=_;rw[show n.ks.length- (ii+1)=g by have:=HG.out;omega];exact Ve.out),M3.out,D3.out,zE.out⟩
        ·intro _ _;intros;assumption
     ·have jV:¬(ii:Int)< (n.ks.length:Int):=by omega
      have hE:=HE2.out;rw[show n.ks.length-ii=0 by omega,fM]at hE;obtain⟨ha,hb,hc⟩:si=s'∧true=b∧0=er:=by
       cases hE;exact⟨rfl,rfl,rfl⟩
      subst ha hb hc;obtain⟨_,⟨y0,y1,y2,y3⟩,_⟩:=Sep.c4 (Sep.cO (HS.out));clear hE HE2;go_wp2;go_ret2;exact⟨rfl,Pc,dc,kq.out.2,HD.out,Sep.drop (Sep.cQ (Sep.drop (Sep.cQ (HS.out))))⟩
end
end Go.Proofs.YtceoeaemenhbhabGreatDoor
end
section
namespace Go.Proofs.YtceoeaemenhbhabGreatDoor
open Go.Shelf Go.RowKit Go.Lib Go.Sort
open N (Nd nd0 cC dm dX iF fO Sm dt iD En bn aT hidR aj ai Ch aI ah waits)
section
variable {B:Nat}{w0 w:World}{l:List aN}{P:List NV}{C:Cx}{x:TX}{d d1:Dk}
def wQ {σ:Type}(B:Nat)(w0:World)(C:Cx)(x:TX)(c1 c2:Value)(st:σ->En->σ×Bool)(U:σ->aN)(m:σ->Nat)(Nm:Nat):Prop:=
 ∀(w:World) (d:Dk) (P:List NV) (l:List aN) (s:σ) (y:En),m (st s y).1<=Nm->Sep B w0 w (TL C x d P (U s::l))->
  Calls Tryz.prog 34 #[.agg #[.string y.1,.string y.2],c1,c2] w fun e w'=>e=.returned (.bool (st s y).2)∧Sep B w0 w' (TL C x d P (U (st s y).1::l))
def Rn (B:Nat)(w0:World)(C:Cx)(x:TX)(d dc:Dk)(Pc:List NV)(U1 U2:aN)(l:List aN)(f10:Bool)(w:World):Prop:=
 (f10=false->Sep B w0 w (TL C x dc Pc (U1::l)))∧(f10=true->∃P' d',(∀y∈Pc,y∈P')∧bh d d'∧Sep B w0 w (TL C x d' P' (U2::l)))
def NI (B:Nat)(w0:World)(CC:Cx)(x:TX)(d dc:Dk)(Pc:List NV)(U1 U2:aN)(l:List aN)(b1:Bool)(e1:Int)(q8 oQ zA r ro Oy ck ii:Nat)(kid dp:Int)(fa ta fb tb:ByteArray)(cs:Array Value)(c1 c2:Value){y1 y3 y5 y6 y7 y8 y9 nO mo y13 mq kC kD k7 y22 y23 y24 y25 rW y27 y28 y29 tH y31 y32 rX y34 oW oX rY y38 y39 tI tJ tK tL yc ye yf yg yh yi vQ vR vS vT vU tM yj Aq Ec Ed Ee Ef Ia Ib Ei Ej Ek El Em Eo Ep Es Et Eu Ew Ex Hz H0 H4 y93 yl y95 y96 I5 y98 y99:Value}(C:List Bool->Act->Prop)(w:World):Prop:=∀{f0 f1 f2 f3 f4 f5 f6 f7 f8 f9 f10 f11 f12 f13 f14 f15:Bool}{x20 iv oD x80 x81 x82 x83 x84 x85 x86 x87 x88 x89 x90 x91 NH:Value},f15=false->Rn B w0 CC x d dc Pc U1 U2 (ax q8 (.cells #[.string fb,.string tb] 75)::ax oQ (.cells cs 54)::ax zA (.cells #[.string fa,.string ta] 75)::l) f10 w->Hid (f0=true->x80=ptr CC.tq)->Hid (f1=true->x81=.pointer (some ⟨oQ,2,none⟩))->Hid (f2=true->x82=.slice (some ⟨r,ro,none⟩) Oy ck)->Hid (f3=true->x83=.int .i64 (ii:Int))->Hid (f4=true->f2=true∧x84=.pointer (some ⟨r,ro+ii,none⟩))->Hid (f5=true->f4=true∧x85=.int .i64 kid)->Hid (f6=true->x86=.int .i64 dp)->Hid (f7=true->x87=.int .i64 (dp+1))->Hid (f8=true->x88=.agg #[.string fa,.string ta])->Hid (f9=true->x89=.func (.func 34) #[] #[c1,c2])->Hid (f10=true->f2=true∧f5=true∧f8=true∧x90=.tuple #[.bool b1,.int .i64 e1])->Hid (f11=true->f10=true∧oD=.tuple #[.bool b1,.int .i64 e1])->Hid (f12=true->f10=true∧x91=.bool b1)->Hid (f13=true->f10=true∧NH=.int .i64 e1)->Hid (f14=true->f10=true∧x20=.bool b1)->C [f0,f1,f2,f3,f4,f5,f6,f7,f8,f9,f10,f11,f12,f13,f14,f15] {tmps:=#[ptr CC.tq,y1,.int .i64 dp,y3,.func (.func 34) #[] #[c1,c2],y5,y6,y7,y8,y9,nO,mo,.pointer (some ⟨oQ,0,none⟩),y13,mq,kC,kD,k7,.int .i64 (ii:Int),.pointer (some ⟨zA,0,none⟩),x20,iv,y22,y23,y24,y25,rW,y27,y28,y29,tH,y31,y32,rX,y34,oW,oX,rY,y38,y39,tI,tJ,tK,tL,yc,ye,yf,yg,yh,yi,vQ,vR,vS,vT,vU,tM,yj,Aq,Ec,Ed,Ee,Ef,Ia,Ib,Ei,Ej,Ek,El,Em,Eo,Ep,Es,Et,Eu,Ew,Ex,Hz,H0,H4,oD,x80,x81,x82,x83,x84,x85,x86,x87,x88,x89,x90,x91,NH,y93,yl,y95,y96,I5,y98,y99],defers:=[]}
theorem JN {σ:Type}{st:σ->En->σ×Bool}{m:σ->Nat}{Nm:Nat}{U:σ->aN}{c1 c2:Value}(T:bY B w0)(hr:d.room<=16384)(ok:x.Ok d.room)(hz:x.Sz)(hu:wQ B w0 C x c1 c2 st U m Nm)(hm:∀s e,m s<=m (st s e).1):
  ∀(f:Nat) (w:World) (d1:Dk) (P:List NV) (l:List aN) (s s':σ) (id depth:Int) (fr tt:ByteArray) (b:Bool) (er:Int),Wf id->0<=depth->bh d d1->dO x d st f s id depth fr tt=some (s',(b,er))->m s'<=Nm->Sep B w0 w (TL C x d1 P (U s::l))->
  Calls Tryz.prog 54 #[ptr C.tq,.int .i64 id,.int .i64 depth,.agg #[.string fr,.string tt],.func (.func 34) #[] #[c1,c2]] w (OV B w0 C x d P (U s') l b er):=by
 intro f
 induction f with
 |zero=>intro w d1 P l s s' id depth fr tt b er _ _ _ he;cases he
 |succ f ih=>
 intro w d1 P l s s' id depth fr tt b er hw hd0 hd he hN h;have HU:Hid (wQ B w0 C x c1 c2 st U m Nm):=hu;have HM:Hid (∀s e,m s<=m (st s e).1):=hm;have HN:Hid (m s'<=Nm):=hN;have HD:Hid (bh d d1):=hd;have IH:Hid (∀(w:World) (d1:Dk) (P:List NV) (l:List aN) (s s':σ) (id depth:Int) (fr tt:ByteArray) (b:Bool) (er:Int),Wf id->0<=depth->bh d d1->dO x d st f s id depth fr tt=some (s',(b,er))->m s'<=Nm->Sep B w0 w (TL C x d1 P (U s::l))->Calls Tryz.prog 54 #[ptr C.tq,.int .i64 id,.int .i64 depth,.agg #[.string fr,.string tt],.func (.func 34) #[] #[c1,c2]] w (OV B w0 C x d P (U s') l b er)):=ih;have S1:Hid (Sep B w0 (w.alloc (.cells #[.string fr,.string tt] 75)) _):=Sep.oY (h.aO _);have KR:Hid (∀u L,Sep B w0 u (TL C x d1 P L)->Calls Tryz.prog 58 #[ptr C.tq,.int .i64 id,.int .i64 depth] u (GN B w0 C x d1 P L 2 (dC x d id depth).1 (dC x d id depth).2)):=fun u L hu=>by
  have:=nS (id:=id) (depth:=depth) T hu hw (by rw[hd.room];exact ok) (by rw[hd.room];exact hr) hz
  rwa [hd.dC]at this
 have HD0:Hid (0<=depth):=hd0;rw[dO]at he;clear h hu hm hN hd ih hw hd0 T hr ok hz;generalize dC x d id depth=rr at*;obtain⟨n0,e0⟩:=rr;simp only at KR he;have HE:Hid (_=some (s',(b,er))):=he;clear he;go_enter Tryz.func54,Tryz.ntmps54
 go_wp2_with fail
 generalize World.alloc _ _=v1 at*;generalize w.heap.size=q8 at*;refine Calls.mono (KR.out _ _ S1.out) ?_;rintro e v2 ⟨p,d2,hn0,rfl,hd2,s2⟩;subst hn0;unfold NV.v;have D2:Hid (bh d d2):=HD.out.trans ⟨_,hd2⟩;have S2:Hid (Sep B w0 (v2.alloc (.cells #[.bool p.n.leaf,.slice p.ae p.n.es.length p.ce,.slice p.ak p.n.ks.length p.ck,.slice p.az p.n.ss.length p.cz] 54)) (TL C x d2 (p::P) (U s::ax q8 (.cells #[.string fr,.string tt] 75)::ax v2.heap.size (.cells #[.bool p.n.leaf,.slice p.ae p.n.es.length p.ce,.slice p.ak p.n.ks.length p.ck,.slice p.az p.n.ss.length p.cz] 54)::l))):=Sep.mF (Sep.aP s2 _ _ rfl);clear KR hd2 s2 S1 HD;by_cases uS:e0≠0
 ·have hE:=HE.out;rw[if_pos uS]at hE;obtain⟨ha,hb,hc⟩:s=s'∧false=b∧e0=er:=by
   cases hE;exact⟨rfl,rfl,rfl⟩
  subst ha hb hc;have hne:(e0 != 0)=true:=bne_iff_ne.2 uS;clear hE uS HE;go_wp2;go_ret2;exact⟨rfl,p::P,d2,fun y hy=>List.mem_cons_of_mem _ hy,D2.out,Sep.drop (Sep.cQ (Sep.drop (Sep.cQ (S2.out))))⟩
 ·have hE:=HE.out;rw[if_neg uS]at hE;have ez:e0=0:=Classical.not_not.1 uS;subst ez;by_cases hg:(bW p.n&&dm p.n)=false∨1000<depth
  ·rw[if_pos hg]at hE;cases hE
  rw[if_neg hg]at hE;have hg2:bW p.n=true∧dm p.n=true∧depth<=1000:=by
   refine⟨?_,?_,by omega⟩
   ·cases hx:bW p.n
    ·exact absurd (.inl (by rw[hx];rfl)) hg
    ·rfl
   ·cases hx:dm p.n
    ·exact absurd (.inl (by rw[hx,Bool.and_false])) hg
    ·rfl
  obtain⟨hsm,hrt,hdp⟩:=hg2;obtain⟨im,za,Bj,_,hwk⟩:=eu hsm;have hrg:N.Rg p.n.es:=by
   cases hl:p.n.leaf with
   |true=>exact((N.fc hl).1 hrt).2.2
   |false=>rw[((N.eN hl).1 hrt).1];exact⟨List.Pairwise.nil,fun _ h=>by cases h⟩
  have Dp:Hid (N.Rg p.n.es):=hrg;have uK:Hid (Sm p.n∧∀k∈p.n.ks,Wf k):=⟨im,hwk⟩;have wO:Hid (p.n.es.length<=500∧p.n.ks.length<=500∧0<=depth∧depth<=1000):=⟨Bj,za,HD0.out,hdp⟩;clear HE uS hg hsm hrt hdp im za Bj hwk hrg HD0;have tS:Hid (_=some (s',(b,er))):=hE;clear hE
  go_upto_region 4 with fail
  generalize World.alloc _ _=v3 at*;generalize v2.heap.size=oQ at*;obtain⟨ae,ce,ak,ck,az,cz,n⟩:=p;simp only at*;have wP:Hid ((⟨ae,ce,ak,ck,az,cz,n⟩:NV)∈(⟨ae,ce,ak,ck,az,cz,n⟩:NV)::P∧∀y∈P,y∈(⟨ae,ce,ak,ck,az,cz,n⟩:NV)::P):=⟨List.mem_cons_self ..,fun y hy=>List.mem_cons_of_mem _ hy⟩;generalize Va:(⟨ae,ce,ak,ck,az,cz,n⟩:NV)::P=PP at*;clear Va;have KF:Hid _:=N.jO (.slice ae n.es.length ce) n.es fr v3 (Sep.pool (Sep.pU S2.out) _ wP.out.1).e (by have:=wO.out;omega);obtain⟨_,⟨x0,x1⟩,_⟩:=Sep.c2 (Sep.cQ (S2.out));obtain⟨_,⟨y0,y1,y2,y3⟩,_⟩:=Sep.c4 (Sep.cO (S2.out))
  go_wp2_with fail
  refine Calls.mono KF.out ?_;rintro e v4 ⟨i0,ff,rfl,hf,b4⟩;have hi1:=(hf.2.2 Dp.out).1;have hi2:=hf.1;have S4:Hid _:=S2.out.below b4;clear S2 b4 x0 x1 y0 y1 y2 y3 KF hf Dp;rw[<-hi1]at tS;clear hi1;have RS:Hid (∀u,(Instr.slice 32 (.slice ae n.es.length ce) (some (.int .i64 (i0:Int))) none none).run Tryz.prog u=.ok (.slice (if ce=i0 then ae else ae.map (·.add (i0*2))) (n.es.length-i0) (ce-i0)) u):=fun u=>N.pG ae n.es.length ce i0 hi2 u;have RR:Hid (∀u L,Sep B w0 u (TL C x d2 PP L)->N.Row N.ar 2 u (.slice (if ce=i0 then ae else ae.map (·.add (i0*2))) (n.es.length-i0) (ce-i0)) (n.es.drop i0)):=fun u L hu=>N.Row.Wu (Sep.pool (Sep.pU hu) _ wP.out.1).e i0 hi2;rw[show n.es.length-i0=(n.es.drop i0).length by rw[List.length_drop]]at RS RR;have Vb:(n.es.drop i0).length<=500:=by rw[List.length_drop];have:=wO.out;omega
  generalize n.es.drop i0=L at*;generalize(if ce=i0 then ae else ae.map (·.add (i0*2)))=aS at*;generalize ce-i0=cS at*;have X7:Hid (L.length<=500):=Vb;have Rm:(i0:Int)<=(n.es.length:Int):=by omega
  clear Vb hi2;obtain⟨_,⟨y0,y1,y2,y3⟩,_⟩:=Sep.c4 (Sep.cO (S4.out));have X8:=RS.out v4;go_wp2;clear y0 y1 y2 y3 X8 RS Rm
  go_loopg [45] L.length (fun kx Ya wr=>∃(j:Nat) (sj:σ),Ya=.int .i64 (j:Int)∧j<=L.length∧L.length-j<=kx∧Hid (oL st tt L s=oL st tt (L.drop j) sj)∧Hid (Sep B w0 wr (TL C x d2 PP (U sj::ax q8 (.cells #[.string fr,.string tt] 75)::ax oQ (.cells #[.bool n.leaf,.slice ae n.es.length ce,.slice ak n.ks.length ck,.slice az n.ss.length cz] 54)::l))))
  case atStart=>exact⟨0,s,rfl,Nat.zero_le _,Nat.le_refl _,(by show _=_;rw[List.drop_zero]),S4.out⟩
  case round=>
   clear S4;obtain⟨j,sj,rfl,hj,V8,HJ,HS⟩:=hrel;by_cases hlt:j<L.length
   ·have jV:(j:Int)< (L.length:Int):=by omega
    obtain⟨dx,cap',e',_,_,h3⟩:=RR.out _ _ HS.out;obtain⟨rb,Vc,hae,hrb,z0,z1⟩:=N.cT h3 j hlt (Below.refl _ _);have e2:aS=dx:=by injection e'
    subst hae;subst e2;have hJ:=HJ.out;rw[N.iB hlt,oL]at hJ;have UK:IntKind.i64.wrap ((j:Int)+1)=((j+1:Nat):Int):=by rw[bA (by omega) (by have:=X7.out;omega)];rfl
    have HB1:Hid (m (oL st tt L s).1<=Nm):=by
     have h1:=tS.out;show _<=_;refine Nat.le_trans ?_ HN.out;split at h1
     ·cases h1;exact Nat.le_refl _
     ·exact gM (fun s k f' t s' r hh=>iV HM.out x d f s k (depth+1) f' t s' r hh) _ _ _ _ _ _ _ _ h1
    generalize jx:L[j]! =y at*;clear jx h3 e' HJ;have S5:Hid (Sep B w0 (wr.alloc (.cells #[.string y.1,.string y.2] 38)) _):=Sep.uG (HS.out.aO _);have HJ2:Hid (_=_):=hJ;clear hJ HS
    go_upto_region 8 with fail
    clear z0 z1 hrb;generalize World.alloc _ _=v5 at*;generalize wr.heap.size=q17 at*;obtain⟨_,⟨x0,x1⟩,_⟩:=Sep.c2 (Sep.cQ (S5.out));obtain⟨_,⟨z0,z1⟩,_⟩:=Sep.c2 (Sep.dV (S5.out))
    go_wp2_with fail
    refine Calls.mono (ky S5.out) ?_;rintro e v6 ⟨rfl,s6⟩;have S6:Hid _:=s6;clear x0 x1 z0 z1 s6 S5;by_cases hh:a8 tt y.1=false
    ·have hJ:=HJ2.out;rw[if_pos hh]at hJ;have h1:=tS.out;rw[hJ]at h1;obtain⟨ha,hb,hc⟩:sj=s'∧true=b∧0=er:=by
      cases h1;exact⟨rfl,rfl,rfl⟩
     subst ha hb hc;clear hJ h1 tS HJ2 HB1;rw[hh];go_wp2;go_ret2;exact⟨rfl,PP,d2,wP.out.2,D2.out,Sep.drop (Sep.cQ (Sep.drop (Sep.cQ (Sep.drop (Sep.cQ (S6.out))))))⟩
    ·have JJ:a8 tt y.1=true:=by simpa using hh
     have hJ:=HJ2.out;rw[if_neg hh]at hJ;have hbd:m (st sj y).1<=Nm:=by
      have h1:=HB1.out;rw[hJ]at h1;refine Nat.le_trans ?_ h1;split
      ·exact Nat.le_refl _
      ·exact mP HM.out tt _ _
     have KU:Hid _:=HU.out v6 d2 PP _ sj y hbd S6.out;obtain⟨_,⟨z0,z1⟩,_⟩:=Sep.c2 (Sep.dV (S6.out));have JK:Hid (_=_):=hJ;clear hJ HJ2 HB1 hbd S6 hh;rw[JJ];clear JJ;generalize st sj y=sy at*;obtain⟨s2,b2⟩:=sy;simp only at KU JK
     go_wp2_with fail
     refine Calls.mono KU.out ?_;rintro e v7 ⟨rfl,s7⟩;have S7:Hid _:=s7;clear z0 z1 s7 KU;cases b2 with
     |false=>
      have hJ:=JK.out;rw[if_pos rfl]at hJ;have h1:=tS.out;rw[hJ]at h1;obtain⟨ha,hb,hc⟩:s2=s'∧false=b∧0=er:=by
       cases h1;exact⟨rfl,rfl,rfl⟩
      subst ha hb hc;clear hJ h1 tS JK;go_wp2;go_ret2;exact⟨rfl,PP,d2,wP.out.2,D2.out,Sep.drop (Sep.cQ (Sep.drop (Sep.cQ (Sep.drop (Sep.cQ (S7.out))))))⟩
     |true=>
      have hJ:=JK.out;rw[if_neg (by simp)]at hJ;have Yb:Hid (oL st tt L s=oL st tt (L.drop (j+1)) s2):=hJ;clear hJ JK;go_wp2
      go_roundg (L.length- (j+1))
      case measure=>omega
      case rel=>exact⟨j+1,s2,by go_num,by omega,Nat.le_refl _,Yb.out,Sep.mF (Sep.oY (Sep.cQ (Sep.cO (Sep.drop (Sep.dV (S7.out))))))⟩
   ·have jV:¬(j:Int)< (L.length:Int):=by omega
    obtain rfl:j=L.length:=by omega
    have hJ:=HJ.out;rw[List.drop_length,oL]at hJ;have hE:=tS.out;rw[hJ]at hE;have HE2:Hid (fM (fun s id fr tt=>dO x d st f s id (depth+1) fr tt) n fr tt (n.ks.length-dt n.ss fr) (dt n.ss fr) sj=some (s',(b,er))):=hE;have KC:Hid _:=N.ki n fr (.slice ae n.es.length ce) (.slice ak n.ks.length ck) (.slice az n.ss.length cz) wr (Sep.pool (Sep.pU HS.out) _ wP.out.1) uK.out.1;obtain⟨_,⟨x0,x1⟩,_⟩:=Sep.c2 (Sep.cQ (HS.out));obtain⟨_,⟨y0,y1,y2,y3⟩,_⟩:=Sep.c4 (Sep.cO (HS.out));clear hJ hE HJ tS RR;generalize dt n.ss fr=c0 at*
    go_wp2_with fail
    refine Calls.mono KC.out ?_;rintro e v8 ⟨rfl,b8⟩;have S8:Hid _:=HS.out.below b8;clear KC b8 HS x0 x1 y0 y1 y2 y3;go_wp2
    go_loopg [18] n.ks.length (fun kx TR wr=>∃(ii:Nat) (si:σ) (Pc:List NV) (dc:Dk),TR=.int .i64 (ii:Int)∧n.ks.length-ii<=kx∧Hid (fM (fun s id fr tt=>dO x d st f s id (depth+1) fr tt) n fr tt (n.ks.length-ii) ii si=some (s',(b,er)))∧Hid ((⟨ae,ce,ak,ck,az,cz,n⟩:NV)∈Pc∧∀y∈P,y∈Pc)∧Hid (bh d dc)∧Hid (Sep B w0 wr (TL C x dc Pc (U si::ax q8 (.cells #[.string fr,.string tt] 75)::ax oQ (.cells #[.bool n.leaf,.slice ae n.es.length ce,.slice ak n.ks.length ck,.slice az n.ss.length cz] 54)::l))))
    case atStart=>exact⟨c0,sj,PP,d2,rfl,by omega,HE2.out,wP.out,D2.out,S8.out⟩
    case round=>
     clear S8 HE2 D2 wP;obtain⟨ii,si,Pc,dc,rfl,hix,HE2,kq,HD,HS⟩:=hrel;by_cases hlt:ii<n.ks.length
     ·have jV:(ii:Int)< (n.ks.length:Int):=by omega
      obtain⟨g,MR⟩:∃g,n.ks.length-ii=g+1:=⟨n.ks.length-ii-1,by omega⟩;have hE:=HE2.out;rw[MR,fM]at hE;by_cases hss:n.ss.length<ii
      ·rw[if_pos hss]at hE;cases hE
      rw[if_neg hss]at hE;have KP:Hid _:=yZ (fr:=fr) (tt:=tt) (ix:=ii) (Sep.pU HS.out) kq.out.1 (by simp only;omega) (by have:=uK.out.1.s;omega);obtain⟨r,ro,hak,_,_⟩:=NV.kid (p:=⟨ae,ce,ak,ck,az,cz,n⟩) (Sep.pool (Sep.pU HS.out) _ kq.out.1) (i:=ii) hlt;simp only at hak;subst hak;have Ri:Hid (Wf (n.ks.getD ii 0)):=by
       refine uK.out.2 _ ?_;rw[List.getD_eq_getElem?_getD,List.getElem?_eq_getElem hlt];exact List.getElem_mem _
      have JM:Hid (ii<n.ks.length):=hlt;have HG:Hid (n.ks.length-ii=g+1):=MR;generalize ju n.ss ii fr=fa at*;generalize gB n.ss ii tt=ta at*;obtain⟨_,⟨x0,x1⟩,_⟩:=Sep.c2 (Sep.cQ (HS.out));obtain⟨_,⟨y0,y1,y2,y3⟩,_⟩:=Sep.c4 (Sep.cO (HS.out));have nT:Hid (_=some (s',(b,er))):=hE;clear hE HE2 hss MR hlt HS;simp only at KP
      go_wp2_with fail
      clear x0 x1 y0 y1 y2 y3;refine Calls.mono KP.out ?_;rintro e v8 ⟨rfl,s8⟩;have S8:Hid (Sep B w0 (v8.alloc (.cells #[.string fa,.string ta] 75)) (TL C x dc Pc (U si::ax q8 (.cells #[.string fr,.string tt] 75)::ax oQ (.cells #[.bool n.leaf,.slice ae n.es.length ce,.slice (some ⟨r,ro,none⟩) n.ks.length ck,.slice az n.ss.length cz] 54)::ax v8.heap.size (.cells #[.string fa,.string ta] 75)::l))):=Sep.uG (Sep.aP (Sep.ZA s8) _ _ rfl);clear s8 KP
      go_upto_region 17 with fail
      generalize World.alloc _ _=v9 at*;generalize v8.heap.size=zA at*;obtain⟨_,⟨x0,x1⟩,_⟩:=Sep.c2 (Sep.dV (S8.out))
      go_wp2_with fail
      refine Calls.mono (ky S8.out) ?_;rintro e v10 ⟨rfl,s9⟩;have S9:Hid _:=s9;clear x0 x1 s9 S8;by_cases hh:a8 ta fa=false
      ·have hE:=nT.out;rw[if_pos hh]at hE;obtain⟨ha,hb,hc⟩:si=s'∧true=b∧0=er:=by
        cases hE;exact⟨rfl,rfl,rfl⟩
       subst ha hb hc;clear hE nT;rw[hh];go_wp2;go_ret2;exact⟨rfl,Pc,dc,kq.out.2,HD.out,Sep.drop (Sep.cQ (Sep.drop (Sep.cQ (Sep.drop (Sep.cQ (S9.out))))))⟩
      ·have JJ:a8 ta fa=true:=by simpa using hh
       have hE:=nT.out;rw[if_neg hh]at hE;clear nT hh;rw[JJ];clear JJ;have MX:Hid _:=kq.out.1;generalize o0:n.ks.getD ii 0=kid at*;have U4:Hid (n.ks.getD ii 0=kid):=o0;have Yc:Hid (IntKind.i64.wrap (depth+1)=depth+1):=bA (by have:=wO.out;omega) (by have:=wO.out;omega);cases hrec:dO x d st f si kid (depth+1) fa ta with
       |none=>rw[hrec]at hE;cases hE
       |some rs=>
        obtain⟨s1,b1,e1⟩:=rs;rw[hrec]at hE;simp only at hE;have hb1:m s1<=Nm:=by
         refine Nat.le_trans ?_ HN.out;split at hE
         ·cases hE;exact Nat.le_refl _
         ·exact gM (fun s k f' t s' r hh=>iV HM.out x d f s k (depth+1) f' t s' r hh) _ _ _ _ _ _ _ _ hE
        have KI:Hid (∀u,Sep B w0 u (TL C x dc Pc (U si::ax q8 (.cells #[.string fr,.string tt] 75)::ax oQ (.cells #[.bool n.leaf,.slice ae n.es.length ce,.slice (some ⟨r,ro,none⟩) n.ks.length ck,.slice az n.ss.length cz] 54)::ax zA (.cells #[.string fa,.string ta] 75)::l))->Calls Tryz.prog 54 #[ptr C.tq,.int .i64 kid,.int .i64 (depth+1),.agg #[.string fa,.string ta],.func (.func 34) #[] #[c1,c2]] u (OV B w0 C x d Pc (U s1) (ax q8 (.cells #[.string fr,.string tt] 75)::ax oQ (.cells #[.bool n.leaf,.slice ae n.es.length ce,.slice (some ⟨r,ro,none⟩) n.ks.length ck,.slice az n.ss.length cz] 54)::ax zA (.cells #[.string fa,.string ta] 75)::l) b1 e1)):=fun u hu=>IH.out u dc Pc _ si s1 kid (depth+1) fa ta b1 e1 Ri.out (by have:=wO.out;omega) HD.out hrec hb1 hu;have nT:Hid (_=some (s',(b,er))):=hE;clear hE hrec hb1 o0
        go_wp2_with fail
        refine aT 15 (NI B w0 C x d dc Pc (U si) (U s1) l b1 e1 q8 oQ zA r ro n.ks.length ck ii kid depth fa ta fr tt #[.bool n.leaf,.slice ae n.es.length ce,.slice (some ⟨r,ro,none⟩) n.ks.length ck,.slice az n.ss.length cz] c1 c2) (by kernel_rfl) (by kernel_rfl) (by kernel_rfl) (fun _ k=>k rfl ⟨fun _=>Sep.drew S9.out,(fun h=>by cases h)⟩ aj aj aj aj aj aj aj aj aj aj aj aj aj aj aj) ?_ ?_ ?_
        ·intro i w' hne f0 f1 f2 f3 f4 f5 f6 f7 f8 f9 f10 f11 f12 f13 f14 f15 x20 iv oD x80 x81 x82 x83 x84 x85 x86 x87 x88 x89 x90 x91 NH e15 hB h0 h1 h2 h3 h4 h5 h6 h7 h8 h9 h10 h11 h12 bG bT hi;obtain⟨hlt,hun,_⟩:=aI hi;have hlt':i<16:=hlt;clear hlt;rcases(by omega:i=0∨i=1∨i=2∨i=3∨i=4∨i=5∨i=6∨i=7∨i=8∨i=9∨i=10∨i=11∨i=12∨i=13∨i=14)with rfl|rfl|rfl|rfl|rfl|rfl|rfl|rfl|rfl|rfl|rfl|rfl|rfl|rfl|rfl
         ·refine ai rfl fun K HK=>?_;go_simp;exact HK.out _ _ fun _ k=>by apply k<;>first|assumption|exact hidR|(repeat' first|apply Exists.intro|assumption|rfl|apply And.intro|exact fun _=>rfl)
         ·refine ai rfl fun K HK=>?_;go_simp;exact HK.out _ _ fun _ k=>by apply k<;>first|assumption|exact hidR|(repeat' first|apply Exists.intro|assumption|rfl|apply And.intro|exact fun _=>rfl)
         ·have un:f2=false:=hun;cases h1 (ah 1 hi (by kernel_rfl));have n10:f10=false:=by
           cases hf:f10
           ·rfl
           ·exact absurd (h10.out hf).1 (by rw[un];simp)
          obtain⟨_,⟨y0,y1,y2,y3⟩,_⟩:=Sep.c4 (Sep.cO (hB.1 n10));refine ai rfl fun K HK=>?_;go_simp;exact HK.out _ _ fun _ k=>k e15 hB h0 h1 hidR h3 (fun d=>by have e:=(h4.out d).1;rw[un]at e;cases e) h5 h6 h7 h8 h9 (fun d=>by have e:=(h10.out d).1;rw[un]at e;cases e) h11 h12 bG bT
         ·refine ai rfl fun K HK=>?_;go_simp;exact HK.out _ _ fun _ k=>by apply k<;>first|assumption|exact hidR|(repeat' first|apply Exists.intro|assumption|rfl|apply And.intro|exact fun _=>rfl)
         ·have un:f4=false:=hun;have d2:f2=true:=ah 2 hi (by kernel_rfl);cases h2 d2;cases h3 (ah 3 hi (by kernel_rfl));have hil:(ii:Int)< (n.ks.length:Int):=by have:=JM.out;omega
          refine ai rfl fun K HK=>?_;go_simp;exact HK.out _ _ fun _ k=>k e15 hB h0 h1 h2 h3 (fun _=>⟨d2,rfl⟩) (fun d=>by have e:=(h5.out d).1;rw[un]at e;cases e) h6 h7 h8 h9 h10 h11 h12 bG bT
         ·have un:f5=false:=hun;have d4:f4=true:=ah 4 hi (by kernel_rfl);obtain⟨_,rfl⟩:=h4.out d4;have n10:f10=false:=by
           cases hf:f10
           ·rfl
           ·exact absurd (h10.out hf).2.1 (by rw[un];simp)
          obtain⟨z1,z2,hz3,hzs,hzc⟩:=NV.kid (p:=(⟨ae,ce,some ⟨r,ro,none⟩,ck,az,cz,n⟩:NV)) (Sep.pool (Sep.pU (hB.1 n10)) _ MX.out) (i:=ii) JM.out;cases hz3;simp only at hzc;rw[U4.out]at hzc;refine ai rfl fun K HK=>?_;go_simp;exact HK.out _ _ fun _ k=>k e15 hB h0 h1 h2 h3 h4 (fun _=>⟨d4,rfl⟩) h6 h7 h8 h9 (fun d=>by have e:=(h10.out d).2.1;rw[un]at e;cases e) h11 h12 bG bT
         ·refine ai rfl fun K HK=>?_;go_simp;exact HK.out _ _ fun _ k=>by apply k<;>first|assumption|exact hidR|(repeat' first|apply Exists.intro|assumption|rfl|apply And.intro|exact fun _=>rfl)
         ·cases h6 (ah 6 hi (by kernel_rfl));have wd:=Yc.out;refine ai rfl fun K HK=>?_;go_simp;exact HK.out _ _ fun _ k=>by apply k<;>first|assumption|exact hidR|(repeat' first|apply Exists.intro|assumption|rfl|apply And.intro|exact fun _=>rfl)
         ·have un:f8=false:=hun;have n10:f10=false:=by
           cases hf:f10
           ·rfl
           ·exact absurd (h10.out hf).2.2.1 (by rw[un];simp)
          obtain⟨_,⟨y0,y1⟩,_⟩:=Sep.c2 (Sep.dV (hB.1 n10));refine ai rfl fun K HK=>?_;go_simp;exact HK.out _ _ fun _ k=>k e15 hB h0 h1 h2 h3 h4 h5 h6 h7 hidR h9 (fun d=>by have e:=(h10.out d).2.2.1;rw[un]at e;cases e) h11 h12 bG bT
         ·refine ai rfl fun K HK=>?_;go_simp;exact HK.out _ _ fun _ k=>by apply k<;>first|assumption|exact hidR|(repeat' first|apply Exists.intro|assumption|rfl|apply And.intro|exact fun _=>rfl)
         ·have un:f10=false:=hun;cases h0 (ah 0 hi (by kernel_rfl));have d5:f5=true:=ah 5 hi (by kernel_rfl);obtain⟨_,rfl⟩:=h5.out d5;cases h7 (ah 7 hi (by kernel_rfl));have d8:f8=true:=ah 8 hi (by kernel_rfl);cases h8 d8;cases h9 (ah 9 hi (by kernel_rfl));refine ai rfl fun K HK=>?_;go_simp;refine Calls.mono (KI.out _ (hB.1 un)) ?_;rintro e u4 ⟨rfl,s4⟩;exact HK.out _ _ fun _ k=>k e15 ⟨(fun h=>by cases h),fun _=>s4⟩ h0 h1 h2 h3 h4 h5 h6 h7 h8 h9 (fun _=>⟨(h4.out (h5.out d5).1).1,d5,d8,rfl⟩) (fun d=>by have e:=(h11.out d).1;rw[un]at e;cases e) (fun d=>by have e:=(h12.out d).1;rw[un]at e;cases e) (fun d=>by have e:=(bG.out d).1;rw[un]at e;cases e) (fun d=>by have e:=(bT.out d).1;rw[un]at e;cases e)
         ·have d10:f10=true:=ah 10 hi (by kernel_rfl);obtain⟨u2,u5,u8,rfl⟩:=h10.out d10;refine ai rfl fun K HK=>?_;go_simp;exact HK.out _ _ fun _ k=>k e15 hB h0 h1 h2 h3 h4 h5 h6 h7 h8 h9 h10 (fun _=>⟨d10,rfl⟩) h12 bG bT
         ·have d11:f11=true:=ah 11 hi (by kernel_rfl);obtain⟨_,rfl⟩:=h11.out d11;have d10:f10=true:=(h11.out d11).1;refine ai rfl fun K HK=>?_;go_simp;exact HK.out _ _ fun _ k=>k e15 hB h0 h1 h2 h3 h4 h5 h6 h7 h8 h9 h10 h11 (fun _=>⟨d10,rfl⟩) bG bT
         ·have d11:f11=true:=ah 11 hi (by kernel_rfl);obtain⟨_,rfl⟩:=h11.out d11;have d10:f10=true:=(h11.out d11).1;refine ai rfl fun K HK=>?_;go_simp;exact HK.out _ _ fun _ k=>k e15 hB h0 h1 h2 h3 h4 h5 h6 h7 h8 h9 h10 h11 h12 (fun _=>⟨d10,rfl⟩) bT
         ·have d12:f12=true:=ah 12 hi (by kernel_rfl);obtain⟨_,rfl⟩:=h12.out d12;have d10:f10=true:=(h12.out d12).1;refine ai rfl fun K HK=>?_;go_simp;exact HK.out _ _ fun _ k=>k e15 hB h0 h1 h2 h3 h4 h5 h6 h7 h8 h9 h10 h11 h12 bG (fun _=>⟨d10,rfl⟩)
        ·intro w' f0 f1 f2 f3 f4 f5 f6 f7 f8 f9 f10 f11 f12 f13 f14 f15 x20 iv oD x80 x81 x82 x83 x84 x85 x86 x87 x88 x89 x90 x91 NH e15 hB h0 h1 h2 h3 h4 h5 h6 h7 h8 h9 h10 h11 h12 bG bT hi;have d13:f13=true:=ah 13 hi (by kernel_rfl);obtain⟨_,rfl⟩:=bG.out d13;have d14:f14=true:=ah 14 hi (by kernel_rfl);obtain⟨_,rfl⟩:=bT.out d14;clear hi;have Vd:=(bG.out d13).1;refine ai rfl fun K HK=>?_;go_simp;refine HK.out _ _ ?_;obtain⟨P1,d3,hp1,hd3,s9⟩:=hB.2 Vd;have zE:Hid _:=Sep.drop (Sep.dV (s9));have D3:Hid (bh d d3):=hd3;have M3:Hid ((⟨ae,ce,some ⟨r,ro,none⟩,ck,az,cz,n⟩:NV)∈P1∧∀y∈P,y∈P1):=⟨hp1 _ kq.out.1,fun y hy=>hp1 _ (kq.out.2 y hy)⟩;clear s9 hp1 hd3 h0 h1 h2 h3 h4 h5 h6 h7 h8 h9 h10 h11 h12 bG bT hB Vd;have wi:IntKind.i64.wrap ((ii:Int)+1)=((ii+1:Nat):Int):=by rw[bA (by have:=JM.out;have:=wO.out;omega) (by have:=JM.out;have:=wO.out;omega)];rfl
         by_cases hq:e1≠0∨b1=false
         ·have hE:=nT.out;rw[if_pos hq]at hE;obtain⟨ha,hb,hc⟩:s1=s'∧false=b∧e1=er:=by
           cases hE;exact⟨rfl,rfl,rfl⟩
          subst ha hb hc;clear hE nT;rcases Classical.em (e1=0)with h00|h00
          ·obtain rfl:b1=false:=by
            rcases hq with h|h
            ·exact absurd h00 h
            ·exact h
           subst h00;go_wp2;go_ret2;exact⟨rfl,P1,d3,M3.out.2,D3.out,Sep.drop (Sep.cQ (Sep.drop (Sep.cQ (zE.out))))⟩
          ·have hne:(e1 != 0)=true:=bne_iff_ne.2 h00;go_wp2;go_ret2;exact⟨rfl,P1,d3,M3.out.2,D3.out,Sep.drop (Sep.cQ (Sep.drop (Sep.cQ (zE.out))))⟩
         ·have hE:=nT.out;rw[if_neg hq]at hE;obtain⟨rfl,rfl⟩:e1=0∧b1=true:=by
           refine⟨?_,?_⟩
           ·rcases Classical.em (e1=0)with h|h
            ·exact h
            ·exact absurd (.inl h) hq
           ·cases hb1:b1
            ·exact absurd (.inr hb1) hq
            ·rfl
          have Ve:Hid (fM (fun s id fr tt=>dO x d st f s id (depth+1) fr tt) n fr tt g (ii+1) s1=some (s',(b,er))):=hE;clear hE nT hq;go_wp2
          go_roundg (n.ks.length- (ii+1))
          case measure=>have:=JM.out;omega
          case rel=>exact⟨ii+1,s1,P1,d3,(by go_num),Nat.le_refl _,(by show _=_;rw[show n.ks.length- (ii+1)=g by have:=HG.out;omega];exact Ve.out),M3.out,D3.out,zE.out⟩
        ·intro _ _;intros;assumption
     ·have jV:¬(ii:Int)< (n.ks.length:Int):=by omega
      have hE:=HE2.out;rw[show n.ks.length-ii=0 by omega,fM]at hE;obtain⟨ha,hb,hc⟩:si=s'∧true=b∧0=er:=by
       cases hE;exact⟨rfl,rfl,rfl⟩
      subst ha hb hc;obtain⟨_,⟨y0,y1,y2,y3⟩,_⟩:=Sep.c4 (Sep.cO (HS.out));clear hE HE2;go_wp2;go_ret2;exact⟨rfl,Pc,dc,kq.out.2,HD.out,Sep.drop (Sep.cQ (Sep.drop (Sep.cQ (HS.out))))⟩
end
end Go.Proofs.YtceoeaemenhbhabGreatDoor
end
section
namespace Go.Proofs.YtceoeaemenhbhabGreatDoor
open Go.Shelf Go.RowKit Go.Lib Go.Sort
section
variable {B:Nat}{w0 w w':World}{l:List aN}{e:TypeId}{k n:Nat}{v v':Value}{cs:List Value}
theorem uT {m:Nat}{news:List Value}(h:Sep B w0 w (RowK e k v n cs::l))(h2:w'.ownsRow 0 e k v' m news)(hg:w.grownBy w' v.ownBlock)(hloc:v'.ownBlock=v.ownBlock∨v'.ownBlock=some w.heap.size):Sep B w0 w' (RowK e k v' m news::l):=by
 refine h.step (fw _ _ _ _ _) fun X hX=>⟨fun q=>v'.ownBlock=some q,⟨h2,fun q=>Iff.rfl⟩,cU.grown hg (fun q hq=>(hX.2 q).2 hq),fun q hq=>?_⟩;rcases hloc with e1|e1
 ·exact .inl ((hX.2 q).2 (e1▸hq))
 ·rw[e1]at hq;exact .inr (Nat.le_of_eq (Option.some.inj hq))
variable {F:Fence}{nF:Nat}{ops:Array Oper}{rest:List Oper}{o:Oper}{a:Act}{Q:Exit->Act->World->Prop}{P:Program}{z:Value}{bytes:Nat}{t:TypeId}{r c m:Nat}{news:List Value}{s x:Operand}
theorem JO {r:Nat}{w:World}{ts:TypeId}{news:List Value}(h:w.heap[r]? =some (.cells news.toArray ts (0,0))):∀j u,news[j]? =some u->w.cell? ((⟨r,0,none⟩:Addr).add j)=some u:=fun j u hj=>by
 rw[Go.WideShapes.add_plain,Nat.zero_add];simp only[World.cell?,h];simpa using hj
theorem Yd (hgd:o.guard=.none)(ho:o.op=.call {callee:=.builtin .append,args:=#[s,x],argTypes:=#[t,t]})(Ro:(P.info? e).map (fun i=>(i.zero,i.size,i.bytes))=some (some z,k,bytes))(ht:P.underlying t=some (.slice e))(hz:z.cells.size=k)(hk:0<k)(hby:bytes<=1000)
  (v:Value)(hs:a.eval s=v)(h:Sep B w0 w (RowK e k v n cs::l))(hx:a.eval x=.slice (some ⟨r,0,none⟩) 1 c)(hnews:∀j u,news[j]? =some u->w.cell? ((⟨r,0,none⟩:Addr).add j)=some u)(hlen:news.length=k)(h1:∀u∈news,u.oneCell'=true)(hn:n<1000000)
  (hK:∀ao c' w',Sep B w0 w' (RowK e k (.slice ao (n+1) c') (n+1) (cs++news)::l)->wpListIn F nF P ops Q rest (a.put o.dst (.slice ao (n+1) c')) w'):wpListIn F nF P ops Q (o::rest) a w:=by
 obtain⟨i0,hi,hz0,hz1,hz2⟩:=info_parts Ro;refine wpListIn_append_own_at w hgd s x t ho 0 e i0 z k bytes ht hi hz0 hz1 hz2 hz hk v n cs hs h.Jd ⟨r,0,none⟩ 1 c news hx (by omega) hnews h1 (by unfold maxLen;omega) ?_ (Nat.zero_le _) ?_
 ·exact Nat.le_trans (Nat.mul_le_mul (show n+1<=1000000 by omega) hby) (by decide)
 ·intro v' w' g1 g2 _ g4;obtain⟨dx,n',c',rfl⟩:∃ao n c,v'=.slice ao n c:=by
   rcases g1.2 with⟨h,_⟩| ⟨g,cap,cur,h,_⟩
   ·exact⟨_,_,_,h⟩
   ·exact⟨_,_,_,h⟩
  obtain rfl:n'=n+1:=by
   rcases g1.2 with⟨_,h⟩| ⟨g,cap,cur,h,_⟩
   ·omega
   ·cases h;rfl
  exact hK _ _ _ (uT h g1 g2 g4)
theorem Vf (hgd:o.guard=.none)(ho:o.op=.call {callee:=.builtin .append,args:=#[s,x],argTypes:=#[t,t]})(Ro:(P.info? e).map (fun i=>(i.zero,i.size,i.bytes))=some (some z,k,bytes))(ht:P.underlying t=some (.slice e))(hz:z.cells.size=k)(hk:0<k)(hby:bytes<=1000)
  (v:Value)(hs:a.eval s=v)(h:Sep B w0 w (RowK e k v n cs::l))(hx:a.eval x=.slice (some ⟨r,0,none⟩) 1 c)(hnews:∀j u,news[j]? =some u->w.cell? ((⟨r,0,none⟩:Addr).add j)=some u)(hlen:news.length=k)(h1:∀u∈news,u.oneCell'=true)(hn:n<1000000)
  (hK:∀ao c' w',Sep B w0 w' (RowK e k (.slice ao (n+1) c') (n+1) (cs++news)::l)->wpList P ops Q rest (a.put o.dst (.slice ao (n+1) c')) w'):wpList P ops Q (o::rest) a w:=by
 obtain⟨i0,hi,hz0,hz1,hz2⟩:=info_parts Ro;refine wpList_append_own_at w hgd s x t ho 0 e i0 z k bytes ht hi hz0 hz1 hz2 hz hk v n cs hs h.Jd ⟨r,0,none⟩ 1 c news hx (by omega) hnews h1 (by unfold maxLen;omega) ?_ (Nat.zero_le _) ?_
 ·exact Nat.le_trans (Nat.mul_le_mul (show n+1<=1000000 by omega) hby) (by decide)
 ·intro v' w' g1 g2 _ g4;obtain⟨dx,n',c',rfl⟩:∃ao n c,v'=.slice ao n c:=by
   rcases g1.2 with⟨h,_⟩| ⟨g,cap,cur,h,_⟩
   ·exact⟨_,_,_,h⟩
   ·exact⟨_,_,_,h⟩
  obtain rfl:n'=n+1:=by
   rcases g1.2 with⟨_,h⟩| ⟨g,cap,cur,h,_⟩
   ·omega
   ·cases h;rfl
  exact hK _ _ _ (uT h g1 g2 g4)
end
section
variable {ops:Array Oper}{o:Oper}{a:Act}{K:Act->World->Prop}{Q:Exit->Act->World->Prop}{E:Prop}{B:Nat}{w0 w:World}{l:List aN}{P:Program}{e t:TypeId}{k n bytes r c:Nat}{z:Value}{cs news:List Value}{s x:Operand}
end
def mX (v:Value)(o:List N.En):aN:=RowK 38 2 v o.length (flatK N.ar 2 o.toArray).toList
theorem mQ (v:Value)(o:List N.En):Good (mX v o):=fw _ _ _ _ _
theorem Vg {B:Nat}{w0 w:World}{l:List aN}{v:Value}{s:List N.En}{y:N.En}(h:Sep B w0 w (RowK 38 2 v (s.length+1) ((flatK N.ar 2 s.toArray).toList++N.ar y)::l)):Sep B w0 w (mX v (s++[y])::l):=by
 unfold mX;rw[List.length_append,List.length_singleton,N.bI N.ar 2 N.cd];exact h
theorem Sep.zb {B:Nat}{w0 w:World}{l:List aN}{v:Value}{s:List N.En}(h:Sep B w0 w (mX v s::l)):N.Row N.ar 2 w v s:=(N.bZ (base:=0) (by decide) h.Jd).row
end Go.Proofs.YtceoeaemenhbhabGreatDoor
end
section
namespace Go.Proofs.YtceoeaemenhbhabGreatDoor
open Go.Shelf Go.RowKit Go.Lib Go.Sort
open N (Nd En)
def Tl (pl:Nat)(s:List En):aN:=fun w X=>∃v,Both (ax pl (.cells #[v] 32)) (mX v s) w X
theorem JP (pl:Nat)(s:List En):Good (Tl pl s):=
 ⟨fun w w' X ⟨v,h⟩ hk hs=>⟨v,(aL (bc _ _) (mQ _ _)).kept w w' X h hk hs⟩,fun w X ⟨v,h⟩=>(aL (bc _ _) (mQ _ _)).lt w X h⟩
def Ye (p1 p2:Nat)(s:Option En):aN:=Both (ax p1 (.cells #[.string (s.getD (⟨#[]⟩,⟨#[]⟩)).1,.string (s.getD (⟨#[]⟩,⟨#[]⟩)).2] 38)) (ax p2 (.cells #[.bool s.isSome] 4))
def Rp (s:List En)(y:En):List En×Bool:=(s++[y],true)
def Vh (s:Option En)(y:En):Option En×Bool:=(some y,false)
section
variable {B:Nat}{w0 w:World}{l:List aN}{P:List NV}{C:Cx}{x:TX}{d d1:Dk}{pl p1 p2:Nat}
theorem Sep.OW (h:Sep B w0 w l):Sep B w0 w (mX (.slice none 0 0) []::l):=by
 unfold mX;simpa[flatK]using Sep.Qy (e:=38) (k:=2) h
theorem Sep.JQ {s:List En}(h:Sep B w0 w (Tl pl s::l)):∃ao c,Sep B w0 w (ax pl (.cells #[.slice ao s.length c] 32)::mX (.slice ao s.length c) s::l):=by
 obtain⟨hB,hb,Y,⟨gg,X,Z,⟨v,hX⟩,hz,hd,hy⟩,hY⟩:=h;have h0:Hp w (Both (ax pl (.cells #[v] 32)) (mX v s)::l) Y:=⟨aL (bc _ _) (mQ _ _),X,Z,hX,hz,hd,hy⟩;have h1:Sep B w0 w (ax pl (.cells #[v] 32)::mX v s::l):=⟨hB,hb,Y,Hp.part (bc _ _) (mQ _ _) h0,hY⟩;obtain⟨ao,c,rfl⟩:=Sep.uJ (n:=s.length) (Sep.pk [_] h1);exact⟨ao,c,h1⟩
theorem Sep.JR {s:List En}{v:Value}(h:Sep B w0 w (ax pl (.cells #[v] 32)::mX v s::l)):Sep B w0 w (Tl pl s::l):=by
 obtain⟨hB,hb,Y,⟨gg,X,Z,hX,hz,hd,hy⟩,hY⟩:=Sep.join h;exact⟨hB,hb,Y,⟨JP _ _,X,Z,⟨v,hX⟩,hz,hd,hy⟩,hY⟩
theorem JS:wN B w0 C x (.pointer (some ⟨pl,0,none⟩)) Rp (Tl pl) List.length 900000:=by
 intro w d P l s y hb h;unfold Rp at hb⊢;simp only[List.length_append,List.length_singleton]at hb;obtain⟨ao,c,ho⟩:=Sep.JQ (Sep.pk [_,_,_,_] h);have hn:s.length<1000000:=by omega
 have SB:Hid (Sep B w0 ((w.alloc (.cells #[.string y.1,.string y.2] 38)).alloc (.cells #[.string y.1,.string y.2] 38)) (RowK 38 2 (.slice ao s.length c) s.length (flatK N.ar 2 s.toArray).toList::ax (w.heap.size+1) (.cells #[.string y.1,.string y.2] 38)::ax pl (.cells #[.slice ao s.length c] 32)::Tx C.t C.f x::File C.f C.b d::kO C::Pl P::l)):=
  Sep.pk [_,_] (Sep.aP (ho.alloc (.cells #[.string y.1,.string y.2] 38)) _ _ (by simp))
 have Vi:Hid _:=JO (news:=N.ar y) (Sep.blk (Sep.pk [_] SB.out));obtain⟨ps,p0,_⟩:=Sep.c1 ho;clear h ho hb;go_enter Tryz.func33,Tryz.ntmps33
 go_wp2_with (at_builtin;refine Vf rfl rfl N.dZ Tryz.underlying32 rfl (by decide) (by decide) _ rfl SB.out rfl Vi.out rfl (N.dY y) hn ?_;intro KN c5 w5 s5;have S5:Hid (Sep B w0 w5 (ax pl (.cells #[.slice ao s.length c] 32)::mX (.slice KN (s.length+1) c5) (s++[y])::Tx C.t C.f x::File C.f C.b d::kO C::Pl P::l)):=Sep.pk [_] (Vg (Sep.drop (Sep.pk [_] s5)));clear s5 SB Vi;obtain⟨qs,q0,qf⟩:=Sep.c1 S5.out)
 have SF:Hid (Sep B w0 (w5.setCell ⟨pl,0,none⟩ (.slice KN (s.length+1) c5)) (TL C x d P (Tl pl (s++[y])::l))):=by
  have h6:=Sep.lh (x:=.slice KN (s.length+1) c5) S5.out 0;exact Sep.pb [_,_,_,_] (Sep.JR h6)
 go_ret;exact⟨rfl,SF.out⟩
theorem JT:wQ B w0 C x (.pointer (some ⟨p1,0,none⟩)) (.pointer (some ⟨p2,0,none⟩)) Vh (Ye p1 p2) (fun _=>0) 0:=by
 intro w d P l s y hb h;unfold Vh;have h2:=Sep.ei (Sep.pk [_,_,_,_] h);obtain⟨k1,⟨a0,a1⟩,f0,f1⟩:=Sep.c2 h2;obtain⟨k2,b0,g0⟩:=Sep.c1 (Sep.pk [_] h2);have hne:p1≠p2:=Sep.ne h2;have hne':=hne.symm;have SF:Hid (Sep B w0 ((((w.setCell ⟨p1,0,none⟩ (.string y.1)).setCell ⟨p1,1,none⟩ (.string y.2)).setCell ⟨p2,0,none⟩ (.bool true)).alloc (.cells #[.string y.1,.string y.2] 38)) (TL C x d P (Ye p1 p2 (some y)::l))):=by
  have h3:=Sep.lh (x:=.string y.1) h2 0;have h4:=Sep.lh (x:=.string y.2) h3 1;have h5:=Sep.lh (x:=.bool true) (Sep.pk [_] h4) 0;exact(Sep.pb [_,_,_,_] (Sep.join (Sep.pk [_] h5))).alloc _
 clear h h2 hb;go_enter Tryz.func34,Tryz.ntmps34;go_wp2;go_ret;exact⟨rfl,SF.out⟩
end
end Go.Proofs.YtceoeaemenhbhabGreatDoor
end
section
namespace Go.Proofs.YtceoeaemenhbhabGreatDoor
open Go.Shelf Go.RowKit Go.Lib Go.Sort
open N (Nd En bn aT hidR aj ai Ch aI ah waits)
section
variable {B:Nat}{w0 w:World}{l:List aN}{P:List NV}{C:Cx}{x:TX}{d d1:Dk}
def GEt (B:Nat)(w0:World)(C:Cx)(x:TX)(d:Dk)(P:List NV)(V:aN)(l:List aN)(er:Int)(e:Ending)(w':World):Prop:=
 e=.returned (.int .i64 er)∧∃P' d',(∀y∈P,y∈P')∧bh d d'∧Sep B w0 w' (TL C x d' P' (V::l))
def Rq (B:Nat)(w0:World)(C:Cx)(x:TX)(d d1:Dk)(P:List NV)(U1 U2:aN)(l:List aN)(f7:Bool)(w:World):Prop:=
 (f7=false->Sep B w0 w (TL C x d1 P (U1::l)))∧(f7=true->∃P' d',(∀y∈P,y∈P')∧bh d d'∧Sep B w0 w (TL C x d' P' (U2::l)))
def NK (B:Nat)(w0:World)(CC:Cx)(x:TX)(d d1:Dk)(P:List NV)(U1 U2:aN)(l:List aN)(b1:Bool)(e1:Int)(q4:Nat)(root:Int)(fr tt:ByteArray)(c1:Value){y1 y3 y5 y6 y9 nO mo nP y13 mq kC kD k7 y29:Value}(C:List Bool->Act->Prop)(w:World):Prop:=∀{f0 f1 f2 f3 f4 f5 f6 f7 f8 f9 f10 f11 f12:Bool}{x7 x8 uB pP x20 iv kf jw x24 x25 oC x27 x28:Value},f12=false->Rq B w0 CC x d d1 P U1 U2 (ax q4 (.cells #[.string fr,.string tt] 75)::l) f7 w->Hid (f0=true->pP=ptr CC.tq)->Hid (f1=true->x20=ptr CC.tq)->Hid (f2=true->iv=ptr CC.tq)->Hid (f3=true->kf=.pointer (some ⟨CC.tq,1,none⟩))->Hid (f4=true->jw=.int .i64 root)->Hid (f5=true->x24=.agg #[.string fr,.string tt])->Hid (f6=true->x25=.func (.func 33) #[] #[c1])->Hid (f7=true->f4=true∧f5=true∧oC=.tuple #[.bool b1,.int .i64 e1])->Hid (f8=true->f7=true∧uB=.tuple #[.bool b1,.int .i64 e1])->Hid (f9=true->f7=true∧x27=.bool b1)->Hid (f10=true->f7=true∧x28=.int .i64 e1)->Hid (f11=true->f7=true∧x7=.bool b1)->C [f0,f1,f2,f3,f4,f5,f6,f7,f8,f9,f10,f11,f12] {tmps:=#[ptr CC.tq,y1,.func (.func 33) #[] #[c1],y3,.pointer (some ⟨q4,0,none⟩),y5,y6,x7,x8,y9,nO,mo,nP,y13,mq,kC,kD,k7,uB,pP,x20,iv,kf,jw,x24,x25,oC,x27,x28,y29],defers:=[]}
def Rs (B:Nat)(w0:World)(C:Cx)(x:TX)(d d1:Dk)(P:List NV)(U1 U2:aN)(l:List aN)(f7:Bool)(w:World):Prop:=
 (f7=false->Sep B w0 w (TL C x d1 P (U1::l)))∧(f7=true->∃P' d',(∀y∈P,y∈P')∧bh d d'∧Sep B w0 w (TL C x d' P' (U2::l)))
def NL (B:Nat)(w0:World)(CC:Cx)(x:TX)(d d1:Dk)(P:List NV)(U1 U2:aN)(l:List aN)(b1:Bool)(e1:Int)(q4:Nat)(root:Int)(fr tt:ByteArray)(c1 c2:Value){y1 y3 y5 y6 y9 nO mo nP y13 mq kC kD k7 y29:Value}(C:List Bool->Act->Prop)(w:World):Prop:=∀{f0 f1 f2 f3 f4 f5 f6 f7 f8 f9 f10 f11 f12:Bool}{x7 x8 uB pP x20 iv kf jw x24 x25 oC x27 x28:Value},f12=false->Rs B w0 CC x d d1 P U1 U2 (ax q4 (.cells #[.string fr,.string tt] 75)::l) f7 w->Hid (f0=true->pP=ptr CC.tq)->Hid (f1=true->x20=ptr CC.tq)->Hid (f2=true->iv=ptr CC.tq)->Hid (f3=true->kf=.pointer (some ⟨CC.tq,1,none⟩))->Hid (f4=true->jw=.int .i64 root)->Hid (f5=true->x24=.agg #[.string fr,.string tt])->Hid (f6=true->x25=.func (.func 34) #[] #[c1,c2])->Hid (f7=true->f4=true∧f5=true∧oC=.tuple #[.bool b1,.int .i64 e1])->Hid (f8=true->f7=true∧uB=.tuple #[.bool b1,.int .i64 e1])->Hid (f9=true->f7=true∧x27=.bool b1)->Hid (f10=true->f7=true∧x28=.int .i64 e1)->Hid (f11=true->f7=true∧x7=.bool b1)->C [f0,f1,f2,f3,f4,f5,f6,f7,f8,f9,f10,f11,f12] {tmps:=#[ptr CC.tq,y1,.func (.func 34) #[] #[c1,c2],y3,.pointer (some ⟨q4,0,none⟩),y5,y6,x7,x8,y9,nO,mo,nP,y13,mq,kC,kD,k7,uB,pP,x20,iv,kf,jw,x24,x25,oC,x27,x28,y29],defers:=[]}
theorem JU:(∀ {σ:Type} {st:σ->En->σ×Bool} {m:σ->Nat} {Nm:Nat} {U:σ->aN} {c1:Value} {f:Nat} {s s':σ} {fr tt:ByteArray} {b:Bool} {er:Int} (T:bY B w0) (hr:d.room<=16384) (ok:x.Ok d.room) (hz:x.Sz) (hu:wN B w0 C x c1 st U m Nm) (hm:∀s e,m s<=m (st s e).1) (h0:C.err=0) (hw:Wf C.root) (hd:bh d d1) (he:dO x d st f s C.root 0 fr tt=some (s',(b,er))) (hN:m s'<=Nm) (h:Sep B w0 w (TL C x d1 P (U s::l))),Calls Tryz.prog 32 #[ptr C.tq,.agg #[.string fr,.string tt],.func (.func 33) #[] #[c1]] w (GEt B w0 C x d P (U s') l er))∧
  (∀ {σ:Type} {st:σ->En->σ×Bool} {m:σ->Nat} {Nm:Nat} {U:σ->aN} {c1 c2:Value} {f:Nat} {s s':σ} {fr tt:ByteArray} {b:Bool} {er:Int} (T:bY B w0) (hr:d.room<=16384) (ok:x.Ok d.room) (hz:x.Sz) (hu:wQ B w0 C x c1 c2 st U m Nm) (hm:∀s e,m s<=m (st s e).1) (h0:C.err=0) (hw:Wf C.root) (hd:bh d d1) (he:dO x d st f s C.root 0 fr tt=some (s',(b,er))) (hN:m s'<=Nm) (h:Sep B w0 w (TL C x d1 P (U s::l))),Calls Tryz.prog 32 #[ptr C.tq,.agg #[.string fr,.string tt],.func (.func 34) #[] #[c1,c2]] w (GEt B w0 C x d P (U s') l er)):=by
 and_intros
 have iH:=trivial
 rotate_left
 have eR:=trivial
 rotate_left
 all_goals
  first
   |have zz:=eR
    intro σ st m Nm U c1 c2 f s s' fr tt b er T hr ok hz hu hm h0 hw hd he hN h
   |intro σ st m Nm U c1 f s s' fr tt b er T hr ok hz hu hm h0 hw hd he hN h
  have S1:Hid (Sep B w0 (w.alloc (.cells #[.string fr,.string tt] 75)) (TL C x d1 P (U s::ax w.heap.size (.cells #[.string fr,.string tt] 75)::l))):=Sep.pb [_,_,_,_,_] (h.aO _)
  first
   |have zz:=eR
    have KE:Hid (∀u,Sep B w0 u (TL C x d1 P (U s::ax w.heap.size (.cells #[.string fr,.string tt] 75)::l))->Calls Tryz.prog 54 #[ptr C.tq,.int .i64 C.root,.int .i64 0,.agg #[.string fr,.string tt],.func (.func 34) #[] #[c1,c2]] u (OV B w0 C x d P (U s') (ax w.heap.size (.cells #[.string fr,.string tt] 75)::l) b er)):=fun u hu'=>JN T hr ok hz hu hm f u d1 P _ s s' C.root 0 fr tt b er hw (by omega) hd he hN hu'
   |have KE:Hid (∀u,Sep B w0 u (TL C x d1 P (U s::ax w.heap.size (.cells #[.string fr,.string tt] 75)::l))->Calls Tryz.prog 54 #[ptr C.tq,.int .i64 C.root,.int .i64 0,.agg #[.string fr,.string tt],.func (.func 33) #[] #[c1]] u (OV B w0 C x d P (U s') (ax w.heap.size (.cells #[.string fr,.string tt] 75)::l) b er)):=fun u hu'=>JI T hr ok hz hu hm f u d1 P _ s s' C.root 0 fr tt b er hw (by omega) hd he hN hu'
  obtain⟨ts,⟨t0,t1,t2⟩,_⟩:=Sep.uI (Sep.pk [_,_] (h));rw[h0]at t2;have HRT:Hid (C.root=C.root):=rfl;clear h hu hm h0 hw hd he hN T hr ok hz;go_enter Tryz.func32,Tryz.ntmps32
  go_wp2_with fail
  clear t0 t1 t2 ts;generalize w.alloc (.cells #[.string fr,.string tt] 75)=w1 at*;generalize w.heap.size=q4 at*
  first
   |have zz:=eR
    refine aT 12 (NL B w0 C x d d1 P (U s) (U s') l b er q4 C.root fr tt c1 c2) (by kernel_rfl) (by kernel_rfl) (by kernel_rfl) (fun _ k=>k rfl ⟨fun _=>Sep.drew S1.out,(fun h=>by cases h)⟩ aj aj aj aj aj aj aj aj aj aj aj aj) ?_ ?_ ?_
   |refine aT 12 (NK B w0 C x d d1 P (U s) (U s') l b er q4 C.root fr tt c1) (by kernel_rfl) (by kernel_rfl) (by kernel_rfl) (fun _ k=>k rfl ⟨fun _=>Sep.drew S1.out,(fun h=>by cases h)⟩ aj aj aj aj aj aj aj aj aj aj aj aj) ?_ ?_ ?_
  ·intro i w' hne f0 f1 f2 f3 f4 f5 f6 f7 f8 f9 f10 f11 f12 x7 x8 uB pP x20 iv kf jw x24 x25 oC x27 x28 e12 hB h0 h1 h2 h3 h4 h5 h6 h7 h8 h9 h10 h11 hi;obtain⟨hlt,hun,_⟩:=aI hi;have hlt':i<13:=hlt;clear hlt;rcases(by omega:i=0∨i=1∨i=2∨i=3∨i=4∨i=5∨i=6∨i=7∨i=8∨i=9∨i=10∨i=11)with rfl|rfl|rfl|rfl|rfl|rfl|rfl|rfl|rfl|rfl|rfl|rfl
   ·refine ai rfl fun K HK=>?_;go_simp;exact HK.out _ _ fun _ k=>k e12 hB hidR h1 h2 h3 h4 h5 h6 h7 h8 h9 h10 h11
   ·refine ai rfl fun K HK=>?_;go_simp;exact HK.out _ _ fun _ k=>k e12 hB h0 hidR h2 h3 h4 h5 h6 h7 h8 h9 h10 h11
   ·cases h1 (ah 1 hi (by kernel_rfl));refine ai rfl fun K HK=>?_;go_simp;exact HK.out _ _ fun _ k=>k e12 hB h0 h1 hidR h3 h4 h5 h6 h7 h8 h9 h10 h11
   ·cases h2 (ah 2 hi (by kernel_rfl));refine ai rfl fun K HK=>?_;go_simp;exact HK.out _ _ fun _ k=>k e12 hB h0 h1 h2 hidR h4 h5 h6 h7 h8 h9 h10 h11
   ·have un:f4=false:=hun;cases h3 (ah 3 hi (by kernel_rfl));have n7:f7=false:=by
     cases hf:f7
     ·rfl
     ·exact absurd (h7.out hf).1 (by rw[un];simp)
    obtain⟨_,⟨t0,t1,t2⟩,_⟩:=Sep.uI (Sep.pk [_,_] (hB.1 n7));refine ai rfl fun K HK=>?_;go_simp;exact HK.out _ _ fun _ k=>k e12 hB h0 h1 h2 h3 hidR h5 h6 (fun d=>by have e:=(h7.out d).1;rw[un]at e;cases e) h8 h9 h10 h11
   ·have un:f5=false:=hun;have n7:f7=false:=by
     cases hf:f7
     ·rfl
     ·exact absurd (h7.out hf).2.1 (by rw[un];simp)
    obtain⟨_,⟨y0,y1⟩,_⟩:=Sep.c2 (Sep.pk [_,_,_,_,_] (hB.1 n7));refine ai rfl fun K HK=>?_;go_simp;exact HK.out _ _ fun _ k=>k e12 hB h0 h1 h2 h3 h4 hidR h6 (fun d=>by have e:=(h7.out d).2.1;rw[un]at e;cases e) h8 h9 h10 h11
   ·refine ai rfl fun K HK=>?_;go_simp;exact HK.out _ _ fun _ k=>k e12 hB h0 h1 h2 h3 h4 h5 hidR h7 h8 h9 h10 h11
   ·have un:f7=false:=hun;cases h0 (ah 0 hi (by kernel_rfl));have d4:f4=true:=ah 4 hi (by kernel_rfl);cases h4 d4;have d5:f5=true:=ah 5 hi (by kernel_rfl);cases h5 d5;cases h6 (ah 6 hi (by kernel_rfl));refine ai rfl fun K HK=>?_;go_simp;refine Calls.mono (KE.out _ (hB.1 un)) ?_;rintro e u4 ⟨rfl,s4⟩;exact HK.out _ _ fun _ k=>k e12 ⟨(fun h=>by cases h),fun _=>s4⟩ h0 h1 h2 h3 h4 h5 h6 (fun _=>⟨d4,d5,rfl⟩) (fun d=>by have e:=(h8.out d).1;rw[un]at e;cases e) (fun d=>by have e:=(h9.out d).1;rw[un]at e;cases e) (fun d=>by have e:=(h10.out d).1;rw[un]at e;cases e) (fun d=>by have e:=(h11.out d).1;rw[un]at e;cases e)
   ·have d7:f7=true:=ah 7 hi (by kernel_rfl);obtain⟨u4,u5,rfl⟩:=h7.out d7;refine ai rfl fun K HK=>?_;go_simp;exact HK.out _ _ fun _ k=>k e12 hB h0 h1 h2 h3 h4 h5 h6 h7 (fun _=>⟨d7,rfl⟩) h9 h10 h11
   ·have d8:f8=true:=ah 8 hi (by kernel_rfl);obtain⟨_,rfl⟩:=h8.out d8;have d7:f7=true:=(h8.out d8).1;refine ai rfl fun K HK=>?_;go_simp;exact HK.out _ _ fun _ k=>k e12 hB h0 h1 h2 h3 h4 h5 h6 h7 h8 (fun _=>⟨d7,rfl⟩) h10 h11
   ·have d8:f8=true:=ah 8 hi (by kernel_rfl);obtain⟨_,rfl⟩:=h8.out d8;have d7:f7=true:=(h8.out d8).1;refine ai rfl fun K HK=>?_;go_simp;exact HK.out _ _ fun _ k=>k e12 hB h0 h1 h2 h3 h4 h5 h6 h7 h8 h9 (fun _=>⟨d7,rfl⟩) h11
   ·have d9:f9=true:=ah 9 hi (by kernel_rfl);obtain⟨_,rfl⟩:=h9.out d9;have d7:f7=true:=(h9.out d9).1;refine ai rfl fun K HK=>?_;go_simp;exact HK.out _ _ fun _ k=>k e12 hB h0 h1 h2 h3 h4 h5 h6 h7 h8 h9 h10 (fun _=>⟨d7,rfl⟩)
  ·intro w' f0 f1 f2 f3 f4 f5 f6 f7 f8 f9 f10 f11 f12 x7 x8 uB pP x20 iv kf jw x24 x25 oC x27 x28 e12 hB h0 h1 h2 h3 h4 h5 h6 h7 h8 h9 h10 h11 hi;have d10:f10=true:=ah 10 hi (by kernel_rfl);obtain⟨_,rfl⟩:=h10.out d10;have d11:f11=true:=ah 11 hi (by kernel_rfl);obtain⟨_,rfl⟩:=h11.out d11;clear hi;have u7:=(h10.out d10).1;refine ai rfl fun K HK=>?_;go_simp;refine HK.out _ _ ?_;obtain⟨P',d',m1,m2,s9⟩:=hB.2 u7;have S9:Hid (Sep B w0 w' (TL C x d' P' (U s'::ax q4 (.cells #[.string fr,.string tt] 75)::l))):=s9;have HMM:Hid ((∀y∈P,y∈P')∧bh d d'):=⟨m1,m2⟩;clear s9 m1 m2 h0 h1 h2 h3 h4 h5 h6 h7 h8 h9 h10 h11 hB;go_wp2;go_ret;exact⟨rfl,P',d',HMM.out.1,HMM.out.2,Sep.drop (Sep.pk [_,_,_,_,_] (S9.out))⟩
  ·intro _ _;intros;assumption
def GSc (B:Nat)(w0:World)(C:Cx)(x:TX)(d:Dk)(P:List NV)(l:List aN)(o:List En)(er:Int)(e:Ending)(w':World):Prop:=
 ∃v,e=.returned (.tuple #[v,.int .i64 er])∧(er=0->∃ao c,v=.slice ao o.length c)∧(er≠0->v=.slice none 0 0∧o=[])∧∃P' d',(∀y∈P,y∈P')∧bh d d'∧Sep B w0 w' (TL C x d' P' (mX v o::l))
theorem Rt {f:Nat}{s' o:List En}{fr tt:ByteArray}{b:Bool}{er:Int}(T:bY B w0)(hr:d.room<=16384)(ok:x.Ok d.room)(hz:x.Sz)(h0:C.err=0)(hw:Wf C.root)(hd:bh d d1)
  (he:dO x d Rp f [] C.root 0 fr tt=some (s',(b,er)))(hN:s'.length<=900000)(ho1:er=0->o=s')(ho2:er≠0->o=[])(h:Sep B w0 w (TL C x d1 P l)):
  Calls Tryz.prog 11 #[ptr C.tq,.string fr,.string tt] w (GSc B w0 C x d P l o er):=by
 have S1:Hid (Sep B w0 (w.alloc (.cells #[.slice none 0 0] 32)) (TL C x d1 P (Tl w.heap.size []::l))):=Sep.pb [_,_,_,_] (Sep.JR (v:=.slice none 0 0) (Sep.pk [_] (Sep.OW (h.aO (.cells #[.slice none 0 0] 32)))));have KG:Hid _:=gy (w.alloc (.cells #[.slice none 0 0] 32)) C.tq;have KE:Hid _:=JU.1 T hr ok hz (JS (B:=B) (w0:=w0) (C:=C) (x:=x) (pl:=w.heap.size)) (fun s e=>by unfold Rp;simp) h0 hw hd he hN S1.out;have HOO:Hid ((er=0->o=s')∧(er≠0->o=[])):=⟨ho1,ho2⟩;clear h h0 hw hd he hN T hr ok hz ho1 ho2;go_enter Tryz.func11,Tryz.ntmps11
 go_wp2_with fail
 refine Calls.mono KG.out ?_;rintro e w1 ⟨rfl,rfl⟩;clear KG
 go_wp2_with fail
 clear S1;generalize w.alloc (.cells #[.slice none 0 0] 32)=w1 at*;generalize w.heap.size=pl at*;refine Calls.mono KE.out ?_;rintro e w2 ⟨rfl,P',d',m1,m2,s2⟩;obtain⟨ao,c,ho⟩:=Sep.JQ (Sep.pk [_,_,_,_] (s2));have HO:Hid _:=ho;have HM:Hid ((∀y∈P,y∈P')∧bh d d'):=⟨m1,m2⟩;obtain⟨ps,p0,_⟩:=Sep.c1 ho;clear KE s2 m1 m2 ho;by_cases he0:er=0
 ·subst he0;obtain rfl:=HOO.out.1 rfl;go_wp2;go_ret2;exact⟨_,rfl,fun _=>⟨ao,c,rfl⟩,fun h=>absurd rfl h,P',d',HM.out.1,HM.out.2,Sep.pb [_,_,_,_] (Sep.drop HO.out)⟩
 ·obtain rfl:=HOO.out.2 he0;have hne:(er != 0)=true:=bne_iff_ne.2 he0;go_wp2;go_ret2;exact⟨_,rfl,fun h=>absurd h he0,fun _=>⟨rfl,rfl⟩,P',d',HM.out.1,HM.out.2,Sep.pb [_,_,_,_] (Sep.OW (Sep.drop (Sep.drop HO.out)))⟩
def GNx (B:Nat)(w0:World)(C:Cx)(x:TX)(d:Dk)(P:List NV)(l:List aN)(o:Option En)(er:Int)(e:Ending)(w':World):Prop:=
 e=.returned (.tuple #[.agg #[.string (o.getD (⟨#[]⟩,⟨#[]⟩)).1,.string (o.getD (⟨#[]⟩,⟨#[]⟩)).2],.bool o.isSome,.int .i64 er])∧∃P' d',(∀y∈P,y∈P')∧bh d d'∧Sep B w0 w' (TL C x d' P' l)
theorem Ru {f:Nat}{s':Option En}{fr:ByteArray}{b:Bool}{er:Int}(T:bY B w0)(hr:d.room<=16384)(ok:x.Ok d.room)(hz:x.Sz)(h0:C.err=0)(hw:Wf C.root)(hd:bh d d1)
  (he:dO x d Vh f none C.root 0 fr ⟨#[]⟩=some (s',(b,er)))(h:Sep B w0 w (TL C x d1 P l)):
  Calls Tryz.prog 14 #[ptr C.tq,.string fr] w (GNx B w0 C x d P l s' er):=by
 have WA:∃W,W=((w.alloc (.cells #[.string ⟨#[]⟩,.string ⟨#[]⟩] 38)).alloc (.cells #[.string ⟨#[]⟩,.string ⟨#[]⟩] 38)).alloc (.cells #[.bool false] 4):=⟨_,rfl⟩;have S1:Hid (Sep B w0 (((w.alloc (.cells #[.string ⟨#[]⟩,.string ⟨#[]⟩] 38)).alloc (.cells #[.string ⟨#[]⟩,.string ⟨#[]⟩] 38)).alloc (.cells #[.bool false] 4)) (TL C x d1 P (Ye (w.heap.size+1) (w.heap.size+2) none::ax w.heap.size (.cells #[.string ⟨#[]⟩,.string ⟨#[]⟩] 38)::l))):=by
  have h3:=Sep.aP (Sep.aP (Sep.aO h (.cells #[.string ⟨#[]⟩,.string ⟨#[]⟩] 38)) (.cells #[.string ⟨#[]⟩,.string ⟨#[]⟩] 38) (w.heap.size+1) (by simp)) (.cells #[.bool false] 4) (w.heap.size+2) (by simp);exact Sep.pb [_,_,_,_] (Sep.pb [_,_,_,_,_] (Sep.pk [_] (Sep.join (Sep.pk [_] h3))))
 have KG:Hid (∀u,Calls Tryz.prog 27 #[ptr C.tq] u fun e w'=>e=.returned (ptr C.tq)∧u=w'):=fun u=>gy u C.tq;have KE:Hid _:=JU.2 T hr ok hz (JT (B:=B) (w0:=w0) (C:=C) (x:=x) (p1:=w.heap.size+1) (p2:=w.heap.size+2)) (fun s e=>Nat.le_refl _) h0 hw hd he (Nat.le_refl _) S1.out;clear h h0 hw hd he T hr ok hz WA;go_enter Tryz.func14,Tryz.ntmps14
 go_wp2_with fail
 refine Calls.mono (KG.out _) ?_;rintro e w1 ⟨rfl,rfl⟩;clear KG
 go_wp2_with fail
 clear S1;generalize((w.alloc (.cells #[.string ⟨#[]⟩,.string ⟨#[]⟩] 38)).alloc (.cells #[.string ⟨#[]⟩,.string ⟨#[]⟩] 38)).alloc (.cells #[.bool false] 4)=w1 at*;generalize w.heap.size+2=p2 at*;generalize w.heap.size+1=p1 at*;generalize w.heap.size=p0 at*;refine Calls.mono KE.out ?_;rintro e w2 ⟨rfl,P',d',m1,m2,s2⟩;have HM:Hid ((∀y∈P,y∈P')∧bh d d'):=⟨m1,m2⟩;have ho:=Sep.ei (Sep.pk [_,_,_,_] s2);obtain⟨_,⟨a0,a1⟩,f0,f1⟩:=Sep.c2 ho;obtain⟨_,b0,_⟩:=Sep.c1 (Sep.pk [_] ho);obtain⟨_,⟨r0,r1⟩,g0,g1⟩:=Sep.c2 (Sep.pk [_,_,_,_,_,_] ho);have wz:p0≠p1:=Sep.ne (Sep.pk [_,_,_,_,_,_] ho);have n10:=wz.symm;have n02:p0≠p2:=Sep.ne (Sep.pk [_,_,_,_,_,_] (Sep.pk [_] ho));have n20:=n02.symm;generalize hk:(s'.getD (⟨#[]⟩,⟨#[]⟩)).1=k1 at*;generalize hv:(s'.getD (⟨#[]⟩,⟨#[]⟩)).2=v1 at*;have SF:Hid (Sep B w0 ((w2.setCell ⟨p0,0,none⟩ (.string k1)).setCell ⟨p0,1,none⟩ (.string v1)).drew (ax p0 (.cells #[.string k1,.string v1] 38)::TL C x d' P' l)):=by
  have h5:=Sep.lh (x:=.string v1) (Sep.lh (x:=.string k1) (Sep.pk [_,_,_,_,_,_] ho) 0) 1;exact Sep.drew (Sep.pk [] (Sep.drop (Sep.pk [_] (Sep.drop (Sep.pk [_] h5)))))
 have HK:Hid ((s'.getD (⟨#[]⟩,⟨#[]⟩)).1=k1∧(s'.getD (⟨#[]⟩,⟨#[]⟩)).2=v1):=⟨hk,hv⟩;clear KE s2 m1 m2 ho hk hv
 go_wp2_with fail
 go_region
 go_wp2;generalize((w2.setCell ⟨p0,0,none⟩ (.string k1)).setCell ⟨p0,1,none⟩ (.string v1)).drew=w3 at*;clear a0 a1 f0 f1 b0 r0 r1 g0 g1;obtain⟨_,⟨r0,r1⟩,g0,g1⟩:=Sep.c2 SF.out;refine bodyPost_ret (v:=.tuple #[.agg #[.string k1,.string v1],.bool s'.isSome,.int .i64 er]) ?_ rfl ⟨by rw[HK.out.1,HK.out.2],P',d',HM.out.1,HM.out.2,SF.out.drop⟩;rw[bM rfl];go_simp
end
end Go.Proofs.YtceoeaemenhbhabGreatDoor
end
section
namespace Go.Proofs.YtceoeaemenhbhabGreatDoor
open Go.Shelf Go.RowKit Go.Lib Go.Sort
open N (Nd En)
theorem Rv (w:World):(Instr.makeMap 83 none).run Tryz.prog w=.ok (.map (some w.heap.size)) (w.alloc (.map #[] 0)):=by kernel_rfl
theorem Rx (w:World):(zeroValue 3).run Tryz.prog w=.ok (.int .i64 0) w:=by kernel_rfl
section
variable {B:Nat}{w0 w w':World}{l:List aN}{m n:Nat}{g:Gv}
theorem Sep.NM (h:Sep B w0 w (cW m g n::l)){k:Int}(hk:Wf k):(Instr.lookup 83 (.map (some m)) (.int .i64 k) true).run Tryz.prog w=.ok (.tuple #[((g k).getD (.int .i64 0)),.bool (g k).isSome]) w:=by
 obtain⟨D,o,hv⟩:=h.qR;obtain⟨v,ps,hr,hR⟩:=o.look_ok gP Tryz.underlying83 (Rx w) (zd:=.held (.int .i64 0)) (zp:=[]) rfl hk.key;rw[hr,nu (z:=.int .i64 0) (c:=.int .i64 0) hR ((hv k).2 _),(hv k).1]
theorem Sep.NQ (h:Sep B w0 w (cW m g n::l)){k:Int}(hk:Wf k)(c:Value)(hn:n<1000000):∃w',(Instr.mapUpdate 83 (.map (some m)) (.int .i64 k) c).run Tryz.prog w=.ok () w'∧Sep B w0 w' (cW m (xr g k c) (n+1)::l):=by
 obtain⟨D,o,hv⟩:=h.qR;obtain⟨w',hr,o',ht⟩:=o.store gP Tryz.underlying83 (Nat.lt_of_lt_of_le hn (by decide)) hk.key (val:=c) (d:=.held c) (ps:=[]) rfl;refine⟨w',hr,h.step (cR _ _ _) fun X hX=>⟨X,⟨⟨_,o',hv.put o.isMap k c⟩,hX.2⟩,cU.mapTurned ((hX.2 m).2 rfl) ht,fun k hk=>.inl hk⟩⟩
end
abbrev ze:=Int×Int×NV
def Fu (v:ze):Pg:=(v.1,v.2.1,v.2.2.n)
def sS (v:ze):List Value:=[.int .i64 v.1,.int .i64 v.2.1,.bool v.2.2.n.leaf,.slice v.2.2.ae v.2.2.n.es.length v.2.2.ce,.slice v.2.2.ak v.2.2.n.ks.length v.2.2.ck,.slice v.2.2.az v.2.2.n.ss.length v.2.2.cz]
theorem JV (v:ze):∀u∈sS v,u.oneCell'=true:=fun u hu=>by simp[sS]at hu;rcases hu with rfl|rfl|rfl|rfl|rfl|rfl<;>rfl
theorem JW:(Tryz.prog.info? 56).map (fun i=>(i.zero,i.size,i.bytes))=some (some (.agg #[.int .i64 0,.int .i64 0,.bool false,.slice none 0 0,.slice none 0 0,.slice none 0 0]),6,96):=by kernel_rfl
def Dq (v:Value)(V:List ze):aN:=RowK 56 6 v V.length (V.flatMap sS)
theorem iW (v:Value)(V:List ze):Good (Dq v V):=fw _ _ _ _ _
def zg (pd pl:Nat)(s:List Pg)(P:List NV):aN:=fun w X=>∃(g:Gv) (m:Nat) (vl:Value) (V:List ze) (n:Nat),(∀k,(∀p∈s,p.1≠k)->g k=none)∧V.map Fu=s∧(∀v∈V,v.2.2∈P)∧n<=s.length∧Both (ax pd (.cells #[.map (some m)] 83)) (Both (cW m g n) (Both (ax pl (.cells #[vl] 48)) (Dq vl V))) w X
theorem zh (pd pl:Nat)(s:List Pg)(P:List NV):Good (zg pd pl s P):=
 ⟨fun w w' X ⟨g,m,vl,V,n,a,b,c,e,h⟩ hk hs=>⟨g,m,vl,V,n,a,b,c,e,(aL (bc _ _) (aL (cR _ _ _) (aL (bc _ _) (iW _ _)))).kept w w' X h hk hs⟩,
  fun w X ⟨g,m,vl,V,n,a,b,c,e,h⟩=>(aL (bc _ _) (aL (cR _ _ _) (aL (bc _ _) (iW _ _)))).lt w X h⟩
section
variable {B:Nat}{w0 w:World}{l:List aN}{P Q:List NV}{C:Cx}{x:TX}{d d1:Dk}{pd pl:Nat}{s s':List Pg}{er:Int}
theorem Sep.c6 {q:Nat}{a0 a1 a2 a3 a4 a5:Value}{ty:TypeId}(h:Sep B w0 w (ax q (.cells #[a0,a1,a2,a3,a4,a5] ty)::l)):w.cell? ⟨q,0,none⟩=some a0∧w.cell? ⟨q,1,none⟩=some a1:=by
 have hb:=h.blk;constructor<;>simp[World.cell?,hb]
theorem Sep.o5 {r1 r2 r3 r4 r5:aN}(h:Sep B w0 w (r1::r2::r3::r4::r5::l)):Sep B w0 w (r5::r3::r4::r1::r2::l):=
 Sep.tR (Sep.js (Sep.js (Sep.js h)))
theorem Sep.Ry (h:Sep B w0 w (zg pd pl s P::l))(hq:∀p∈P,p∈Q):Sep B w0 w (zg pd pl s Q::l):=
 h.step (zh _ _ _ _) fun X ⟨g,m,vl,V,n,a,b,c,e,hX⟩=>⟨X,⟨g,m,vl,V,n,a,b,fun v hv=>hq _ (c v hv),e,hX⟩,cU.refl _ _,fun k hk=>.inl hk⟩
theorem Sep.JX (h:Sep B w0 w (zg pd pl s P::l)):∃g m ao c V n,(∀k,(∀p∈s,p.1≠k)->g k=none)∧V.map Fu=s∧(∀v∈V,v.2.2∈P)∧n<=s.length∧Sep B w0 w (ax pd (.cells #[.map (some m)] 83)::cW m g n::ax pl (.cells #[.slice ao V.length c] 48)::Dq (.slice ao V.length c) V::l):=by
 obtain⟨hB,hb,Y,⟨gg,X,Z,⟨g,m,vl,V,n,a,b,c,e,hX⟩,hz,hd,hy⟩,hY⟩:=h;have h0:Hp w (Both (ax pd (.cells #[.map (some m)] 83)) (Both (cW m g n) (Both (ax pl (.cells #[vl] 48)) (Dq vl V)))::l) Y:=⟨aL (bc _ _) (aL (cR _ _ _) (aL (bc _ _) (iW _ _))),X,Z,hX,hz,hd,hy⟩;have h1:Sep B w0 w (ax pd (.cells #[.map (some m)] 83)::cW m g n::ax pl (.cells #[vl] 48)::Dq vl V::l):=⟨hB,hb,Y,Hp.under (Hp.part (bc _ _) (aL (cR _ _ _) (aL (bc _ _) (iW _ _))) h0) fun _ h1=>Hp.under (Hp.part (cR _ _ _) (aL (bc _ _) (iW _ _)) h1) fun _ h2=>Hp.part (bc _ _) (iW _ _) h2,hY⟩;obtain⟨ao,cc,rfl⟩:=Sep.uJ (n:=V.length) (Sep.pU h1);exact⟨g,m,ao,cc,V,n,a,b,c,e,h1⟩
theorem Sep.JY {g:Gv}{m n:Nat}{vl:Value}{V:List ze}(a:∀k,(∀p∈s,p.1≠k)->g k=none)(b:V.map Fu=s)(c:∀v∈V,v.2.2∈P)(e:n<=s.length)(h:Sep B w0 w (ax pd (.cells #[.map (some m)] 83)::cW m g n::ax pl (.cells #[vl] 48)::Dq vl V::l)):Sep B w0 w (zg pd pl s P::l):=by
 have h2:=(((h.map fun _ h=>Hp.under h fun _ h=>Hp.under h fun _=>Hp.join).map fun _ h=>Hp.under h fun _=>Hp.join)).join;obtain⟨hB,hb,Y,⟨gg,X,Z,hX,hz,hd,hy⟩,hY⟩:=h2;exact⟨hB,hb,Y,⟨zh _ _ _ _,X,Z,⟨g,m,vl,V,n,a,b,c,e,hX⟩,hz,hd,hy⟩,hY⟩
theorem Vj {v:Value}{V:List ze}{y:ze}(h:Sep B w0 w (RowK 56 6 v (V.length+1) (V.flatMap sS++sS y)::l)):Sep B w0 w (Dq v (V++[y])::l):=by
 unfold Dq;rw[List.length_append,List.length_singleton,List.flatMap_append,List.flatMap_singleton];exact h
theorem JZ {q:NV}{id dp:Int}(h:Sep B w0 w (TL C x d P (zg pd pl s P::l)))(hq:q∈P)(hw:Wf id)(hn:(s.any fun p=>decide (p.1=id))=false)(hs:s.length<=100000):
  Calls Tryz.prog 41 #[.agg #[.int .i64 id,.int .i64 dp,.bool q.n.leaf,.slice q.ae q.n.es.length q.ce,.slice q.ak q.n.ks.length q.ck,.slice q.az q.n.ss.length q.cz],.pointer (some ⟨pd,0,none⟩),.pointer (some ⟨pl,0,none⟩)] w fun e w'=>e=.returned (.bool true)∧Sep B w0 w' (TL C x d P (zg pd pl (s++[(id,dp,q.n)]) P::l)):=by
 obtain⟨g,m,ao,c,V,n,hg,hV,hP,hnn,ho⟩:=Sep.JX (Sep.js (h));have hgn:g id=none:=hg id fun p hp=>by simpa using(List.any_eq_false.1 hn) p hp
 have LK:=Sep.NM (Sep.jm (ho.alloc (.cells #[.int .i64 id,.int .i64 dp,.bool q.n.leaf,.slice q.ae q.n.es.length q.ce,.slice q.ak q.n.ks.length q.ck,.slice q.az q.n.ss.length q.cz] 56))) hw;rw[hgn]at LK;simp only[Option.getD_none,Option.isSome_none]at LK;have hVl:V.length=s.length:=by rw[<-hV,List.length_map]
 have hln:V.length<1000000:=by omega
 have SB:Hid (Sep B w0 ((w.alloc (.cells #[.int .i64 id,.int .i64 dp,.bool q.n.leaf,.slice q.ae q.n.es.length q.ce,.slice q.ak q.n.ks.length q.ck,.slice q.az q.n.ss.length q.cz] 56)).alloc (.cells #[.int .i64 id,.int .i64 dp,.bool q.n.leaf,.slice q.ae q.n.es.length q.ce,.slice q.ak q.n.ks.length q.ck,.slice q.az q.n.ss.length q.cz] 56)) (RowK 56 6 (.slice ao V.length c) V.length (V.flatMap sS)::ax (w.heap.size+1) (.cells #[.int .i64 id,.int .i64 dp,.bool q.n.leaf,.slice q.ae q.n.es.length q.ce,.slice q.ak q.n.ks.length q.ck,.slice q.az q.n.ss.length q.cz] 56)::ax w.heap.size (.cells #[.int .i64 id,.int .i64 dp,.bool q.n.leaf,.slice q.ae q.n.es.length q.ce,.slice q.ak q.n.ks.length q.ck,.slice q.az q.n.ss.length q.cz] 56)::ax pd (.cells #[.map (some m)] 83)::cW m g n::ax pl (.cells #[.slice ao V.length c] 48)::Tx C.t C.f x::File C.f C.b d::kO C::Pl P::l)):=Sep.cQ (Sep.aP (ho.aO (.cells #[.int .i64 id,.int .i64 dp,.bool q.n.leaf,.slice q.ae q.n.es.length q.ce,.slice q.ak q.n.ks.length q.ck,.slice q.az q.n.ss.length q.cz] 56)) _ _ (by simp));have Vi:Hid _:=JO (news:=sS (id,dp,q)) (Sep.blk (Sep.jm SB.out));obtain⟨ps,p0,_⟩:=Sep.c1 ho;obtain⟨pls,l0,_⟩:=Sep.c1 (Sep.tR ho);have HF:Hid ((∀k,(∀p∈s,p.1≠k)->g k=none)∧V.map Fu=s∧(∀v∈V,v.2.2∈P)∧n<=s.length∧q∈P∧Wf id∧s.length<=100000):=⟨hg,hV,hP,hnn,hq,hw,hs⟩;clear h ho hg hV hP hnn hq hgn hn hs hVl;go_enter Tryz.func41,Tryz.ntmps41
 go_wp2_with (at_builtin;refine Vf rfl rfl JW Tryz.underlying48 rfl (by decide) (by decide) _ rfl SB.out rfl Vi.out rfl (JV (id,dp,q)) hln ?_;intro KN c5 w5 s5;have S5:Hid (Sep B w0 w5 (ax pl (.cells #[.slice ao V.length c] 48)::ax pd (.cells #[.map (some m)] 83)::cW m g n::Dq (.slice KN (V.length+1) c5) (V++[(id,dp,q)])::ax w.heap.size (.cells #[.int .i64 id,.int .i64 dp,.bool q.n.leaf,.slice q.ae q.n.es.length q.ce,.slice q.ak q.n.ks.length q.ck,.slice q.az q.n.ss.length q.cz] 56)::Tx C.t C.f x::File C.f C.b d::kO C::Pl P::l)):=Sep.o5 (Vj (Sep.drop (Sep.jm s5)));clear s5 SB Vi LK p0 l0 ps pls;obtain⟨ps,p0,_⟩:=Sep.c1 (Sep.jm S5.out);obtain⟨pls,l0,lf⟩:=Sep.c1 S5.out;obtain⟨c60,c61⟩:=Sep.c6 (Sep.js S5.out);have S6:Hid (Sep B w0 (w5.setCell ⟨pl,0,none⟩ (.slice KN (V.length+1) c5)) (ax pl (.cells #[.slice KN (V.length+1) c5] 48)::ax pd (.cells #[.map (some m)] 83)::cW m g n::Dq (.slice KN (V.length+1) c5) (V++[(id,dp,q)])::ax w.heap.size (.cells #[.int .i64 id,.int .i64 dp,.bool q.n.leaf,.slice q.ae q.n.es.length q.ce,.slice q.ak q.n.ks.length q.ck,.slice q.az q.n.ss.length q.cz] 56)::Tx C.t C.f x::File C.f C.b d::kO C::Pl P::l)):=Sep.lh (x:=.slice KN (V.length+1) c5) S5.out 0;obtain⟨w7,hr7,s7⟩:=Sep.NQ (Sep.tR S6.out) HF.out.2.2.2.2.2.1 (.int .i64 dp) (by have:=HF.out;omega);have hne:pl≠pd:=Sep.ne S5.out;have hne2:=hne.symm;have Yf:pl≠w.heap.size:=Sep.ne (Sep.Uw (Sep.js S5.out));have aaq:=Yf.symm;have S7:Hid _:=Sep.drop (Sep.js s7);clear S5 S6 s7)
 have SF:Hid (Sep B w0 w7 (TL C x d P (zg pd pl (s++[(id,dp,q.n)]) P::l))):=by
  obtain⟨f1,f2,f3,f4,f5,_⟩:=HF.out;refine Sep.Kp (Sep.JY (n:=n+1) (m:=m) (vl:=.slice KN (V.length+1) c5) (V:=V++[(id,dp,q)]) (g:=xr g id (.int .i64 dp)) ?_ ?_ ?_ ?_ (Sep.tR S7.out))
  ·intro k hk;have h1:id≠k:=hk (id,dp,q.n) (by simp);unfold xr;rw[if_neg (fun e=>h1 e.symm)];exact f1 k fun p hp=>hk p (by simp[hp])
  ·rw[List.map_append,f2];rfl
  ·intro v hv;rcases List.mem_append.1 hv with hv|hv
   ·exact f3 v hv
   ·rw[List.mem_singleton.1 hv];exact f5
  ·rw[List.length_append,List.length_singleton];omega
 go_ret;exact⟨rfl,SF.out⟩
def Vk (B:Nat)(w0:World)(C:Cx)(x:TX)(d:Dk)(P:List NV)(pd pl:Nat)(s:List Pg)(l:List aN)(er:Int)(e:Ending)(w':World):Prop:=
 e=.returned (.int .i64 er)∧∃P' d',(∀y∈P,y∈P')∧bh d d'∧Sep B w0 w' (TL C x d' P' (zg pd pl s P'::l))
theorem NR (T:bY B w0)(hr:d.room<=16384)(ok:x.Ok d.room)(hz:x.Sz):
  ∀(f:Nat) (w:World) (d1:Dk) (P:List NV) (l:List aN) (s s':List Pg) (id depth:Int) (er:Int),Wf id->bh d d1->fI x d f s id depth=some (s',er)->Sep B w0 w (TL C x d1 P (zg pd pl s P::l))->
  Calls Tryz.prog 57 #[ptr C.tq,.int .i64 id,.int .i64 depth,.func (.func 41) #[] #[.pointer (some ⟨pd,0,none⟩),.pointer (some ⟨pl,0,none⟩)]] w (Vk B w0 C x d P pd pl s' l er):=by
 intro f
 induction f with
 |zero=>intro w d1 P l s s' id depth er _ _ he;cases he
 |succ f ih=>
 intro w d1 P l s s' id depth er hw hd he h;have IH:Hid (∀(w:World) (d1:Dk) (P:List NV) (l:List aN) (s s':List Pg) (id depth:Int) (er:Int),Wf id->bh d d1->fI x d f s id depth=some (s',er)->Sep B w0 w (TL C x d1 P (zg pd pl s P::l))->Calls Tryz.prog 57 #[ptr C.tq,.int .i64 id,.int .i64 depth,.func (.func 41) #[] #[.pointer (some ⟨pd,0,none⟩),.pointer (some ⟨pl,0,none⟩)]] w (Vk B w0 C x d P pd pl s' l er)):=ih;have KR:Hid _:=nS (id:=id) (depth:=depth) T h hw (by rw[hd.room];exact ok) (by rw[hd.room];exact hr) hz;rw[hd.dC]at KR;have HD:Hid (bh d d1):=hd;have HWI:Hid (Wf id):=hw;rw[fI]at he;clear h ih hw hd T hr ok hz;generalize dC x d id depth=rr at*;obtain⟨n0,e0⟩:=rr;simp only at KR he;have HE:Hid (_=some (s',er)):=he;clear he;go_enter Tryz.func57,Tryz.ntmps57
 go_wp2_with fail
 refine Calls.mono KR.out ?_;rintro e v2 ⟨p,d2,hn0,rfl,hd2,s2⟩;subst hn0;unfold NV.v;have D2:Hid (bh d d2):=HD.out.trans ⟨_,hd2⟩;have S2:Hid (Sep B w0 (v2.alloc (.cells #[.bool p.n.leaf,.slice p.ae p.n.es.length p.ce,.slice p.ak p.n.ks.length p.ck,.slice p.az p.n.ss.length p.cz] 54)) (TL C x d2 (p::P) (zg pd pl s (p::P)::ax v2.heap.size (.cells #[.bool p.n.leaf,.slice p.ae p.n.es.length p.ce,.slice p.ak p.n.ks.length p.ck,.slice p.az p.n.ss.length p.cz] 54)::l))):=Sep.oY (Sep.aP (Sep.Kp (Sep.Ry (Sep.js (s2)) fun y hy=>List.mem_cons_of_mem _ hy)) _ _ rfl);clear KR hd2 s2 HD;by_cases uS:e0≠0
 ·have hE:=HE.out;rw[if_pos uS]at hE;obtain⟨ha,hc⟩:s=s'∧e0=er:=by
   cases hE;exact⟨rfl,rfl⟩
  subst ha hc;have hne:(e0 != 0)=true:=bne_iff_ne.2 uS;clear hE uS HE;go_wp2;go_ret;exact⟨rfl,p::P,d2,fun y hy=>List.mem_cons_of_mem _ hy,D2.out,Sep.drop (Sep.cQ (S2.out)) |> fun h=>h⟩
 ·have hE:=HE.out;rw[if_neg uS]at hE;have ez:e0=0:=Classical.not_not.1 uS;subst ez;by_cases hg:bW p.n=false∨1000<depth∨depth<0∨(s.any fun p=>decide (p.1=id))=true∨100000<s.length
  ·rw[if_pos hg]at hE;cases hE
  rw[if_neg hg]at hE;have hg2:bW p.n=true∧depth<=1000∧0<=depth∧(s.any fun p=>decide (p.1=id))=false∧s.length<=100000:=by
   refine⟨?_,by omega,by omega,?_,by omega⟩
   ·cases hx:bW p.n
    ·exact absurd (.inl hx) hg
    ·rfl
   ·cases hx:(s.any fun p=>decide (p.1=id))
    ·rfl
    ·exact absurd (.inr (.inr (.inr (.inl hx)))) hg
  obtain⟨hsm,hdp,hd0,hnm,hsl⟩:=hg2;obtain⟨im,za,Bj,_,hwk⟩:=eu hsm;have uK:Hid (∀k∈p.n.ks,Wf k):=hwk;have wO:Hid (p.n.ks.length<=500∧0<=depth∧depth<=1000):=⟨za,hd0,hdp⟩;have HNM:Hid ((s.any fun p=>decide (p.1=id))=false∧s.length<=100000):=⟨hnm,hsl⟩;clear HE uS hg hsm hdp im za Bj hwk hd0 hnm hsl;have tS:Hid (tU (fun s k=>fI x d f s k (depth+1)) p.n.ks (s++[(id,depth,p.n)])=some (s',er)):=hE;clear hE
  go_upto_region 4 with fail
  generalize World.alloc _ _=v3 at*;generalize v2.heap.size=q9 at*;obtain⟨ae,ce,ak,ck,az,cz,n⟩:=p;simp only at*;have wP:Hid ((⟨ae,ce,ak,ck,az,cz,n⟩:NV)∈(⟨ae,ce,ak,ck,az,cz,n⟩:NV)::P∧∀y∈P,y∈(⟨ae,ce,ak,ck,az,cz,n⟩:NV)::P):=⟨List.mem_cons_self ..,fun y hy=>List.mem_cons_of_mem _ hy⟩;generalize Va:(⟨ae,ce,ak,ck,az,cz,n⟩:NV)::P=PP at*;clear Va;have KU:Hid _:=JZ (id:=id) (dp:=depth) S2.out wP.out.1 HWI.out HNM.out.1 HNM.out.2;obtain⟨_,⟨y0,y1,y2,y3⟩,_⟩:=Sep.c4 (Sep.cQ (S2.out));simp only at KU
  go_wp2_with fail
  refine Calls.mono KU.out ?_;rintro e v4 ⟨rfl,s4⟩;have S4:Hid _:=s4;clear S2 y0 y1 y2 y3 KU s4;obtain⟨_,⟨y0,y1,y2,y3⟩,_⟩:=Sep.c4 (Sep.cQ (S4.out));go_wp2;clear y0 y1 y2 y3
  go_loopg [34] n.ks.length (fun kx s34 wr=>∃(j:Nat) (sj:List Pg) (Pc:List NV) (dc:Dk),s34=.int .i64 (j:Int)∧j<=n.ks.length∧n.ks.length-j<=kx∧Hid (tU (fun s k=>fI x d f s k (depth+1)) (n.ks.drop j) sj=some (s',er))∧Hid ((⟨ae,ce,ak,ck,az,cz,n⟩:NV)∈Pc∧∀y∈P,y∈Pc)∧Hid (bh d dc)∧Hid (Sep B w0 wr (TL C x dc Pc (zg pd pl sj Pc::l))))
  case atStart=>exact⟨0,_,PP,d2,rfl,Nat.zero_le _,Nat.le_refl _,(by show _=_;rw[List.drop_zero];exact tS.out),wP.out,D2.out,Sep.drop (Sep.cQ (S4.out)) |> fun h=>h⟩
  case round=>
   clear S4 tS D2 wP;obtain⟨j,sj,Pc,dc,rfl,hj,V8,HE2,kq,HD,HS⟩:=hrel;by_cases hlt:j<n.ks.length
   ·have jV:(j:Int)< (n.ks.length:Int):=by omega
    obtain⟨r,ro,hak,hrs,hrc⟩:=NV.kid (p:=⟨ae,ce,ak,ck,az,cz,n⟩) (Sep.pool (Sep.pU (HS.out)) _ kq.out.1) (i:=j) hlt;simp only at hak hrc;subst hak;have hE:=HE2.out;rw[List.drop_eq_getElem_cons hlt,tU]at hE;have hgd:n.ks[j]=n.ks.getD j 0:=by rw[List.getD_eq_getElem?_getD,List.getElem?_eq_getElem hlt];rfl
    have Ri:Hid (Wf (n.ks.getD j 0)):=by
     refine uK.out _ ?_;rw[<-hgd];exact List.getElem_mem _
    rw[hgd]at hE;generalize n.ks.getD j 0=kid at*;have HLT:Hid (j<n.ks.length):=hlt;have hwd:IntKind.i64.wrap (depth+1)=depth+1:=bA (by have:=wO.out;omega) (by have:=wO.out;omega);have UK:IntKind.i64.wrap ((j:Int)+1)=((j+1:Nat):Int):=by rw[bA (by omega) (by have:=wO.out;omega)];rfl
    cases hrec:fI x d f sj kid (depth+1)with
    |none=>rw[hrec]at hE;cases hE
    |some rs=>
     obtain⟨s1,e1⟩:=rs;rw[hrec]at hE;simp only at hE;have KI:Hid _:=IH.out wr dc Pc l sj s1 kid (depth+1) e1 Ri.out HD.out hrec HS.out;have nT:Hid (_=some (s',er)):=hE;clear hE hrec HE2 HS hgd hlt
     go_wp2_with fail
     clear hrs hrc;refine Calls.mono KI.out ?_;rintro e v5 ⟨rfl,P1,d3,hp1,hd3,s5⟩;have S5:Hid _:=s5;have D3:Hid (bh d d3):=hd3;have M3:Hid ((⟨ae,ce,some ⟨r,ro,none⟩,ck,az,cz,n⟩:NV)∈P1∧∀y∈P,y∈P1):=⟨hp1 _ kq.out.1,fun y hy=>hp1 _ (kq.out.2 y hy)⟩;clear KI s5 hd3 hp1;by_cases h1:e1≠0
     ·have hE:=nT.out;rw[if_pos h1]at hE;obtain⟨ha,hc⟩:s1=s'∧e1=er:=by
       cases hE;exact⟨rfl,rfl⟩
      subst ha hc;have hne:(e1 != 0)=true:=bne_iff_ne.2 h1;clear hE nT h1;go_wp2;go_ret;exact⟨rfl,P1,d3,M3.out.2,D3.out,S5.out⟩
     ·have hE:=nT.out;rw[if_neg h1]at hE;have ez:e1=0:=Classical.not_not.1 h1;subst ez;have Ve:Hid (_=some (s',er)):=hE;clear hE nT h1;go_wp2
      go_roundg (n.ks.length- (j+1))
      case measure=>have:=HLT.out;omega
      case rel=>exact⟨j+1,s1,P1,d3,(by go_num),(by have:=HLT.out;omega),Nat.le_refl _,Ve.out,M3.out,D3.out,S5.out⟩
   ·have jV:¬(j:Int)< (n.ks.length:Int):=by omega
    obtain rfl:j=n.ks.length:=by omega
    have hE:=HE2.out;rw[List.drop_length,tU]at hE;obtain⟨ha,hc⟩:sj=s'∧0=er:=by
     cases hE;exact⟨rfl,rfl⟩
    subst ha hc;clear hE HE2;go_wp2;go_ret;exact⟨rfl,Pc,dc,kq.out.2,HD.out,HS.out⟩
theorem NT (h0:C.err=0)(hr0:C.root=0)(hd:bh d d1)(h:Sep B w0 w (TL C x d1 P (zg pd pl s P::l))):
  Calls Tryz.prog 40 #[ptr C.tq,.func (.func 41) #[] #[.pointer (some ⟨pd,0,none⟩),.pointer (some ⟨pl,0,none⟩)]] w (Vk B w0 C x d P pd pl s l 0):=by
 obtain⟨ts,⟨t0,t1,t2⟩,_⟩:=Sep.uI (Sep.tR (h));rw[h0]at t2;rw[hr0]at t1;have HS:Hid _:=h;have HD:Hid (bh d d1):=hd;clear h h0 hr0 hd;go_enter Tryz.func40,Tryz.ntmps40;go_wp2;go_ret;exact⟨rfl,P,d1,fun _ h=>h,HD.out,HS.out⟩
theorem NU {f:Nat}(T:bY B w0)(hr:d.room<=16384)(ok:x.Ok d.room)(hz:x.Sz)(h0:C.err=0)(hr0:C.root≠0)(hw:Wf C.root)(hd:bh d d1)(he:fI x d f s C.root 0=some (s',er))(h:Sep B w0 w (TL C x d1 P (zg pd pl s P::l))):
  Calls Tryz.prog 40 #[ptr C.tq,.func (.func 41) #[] #[.pointer (some ⟨pd,0,none⟩),.pointer (some ⟨pl,0,none⟩)]] w (Vk B w0 C x d P pd pl s' l er):=by
 obtain⟨ts,⟨t0,t1,t2⟩,_⟩:=Sep.uI (Sep.tR (h));rw[h0]at t2;have hne:(C.root==0)=false:=beq_eq_false_iff_ne.2 hr0;have KI:Hid _:=NR T hr ok hz f w d1 P l s s' C.root 0 er hw hd he h;clear h h0 hd hr0 hw he T hr ok hz;go_enter Tryz.func40,Tryz.ntmps40
 go_wp2_with fail
 refine Calls.mono KI.out ?_;rintro e w1 ⟨rfl,P',d',m1,m2,s2⟩;have SF:Hid _:=s2;have HM:Hid ((∀y∈P,y∈P')∧bh d d'):=⟨m1,m2⟩;clear KI s2 m1 m2 t0 t1 t2 ts;go_wp2;go_ret;exact⟨rfl,P',d',HM.out.1,HM.out.2,SF.out⟩
def GWk (B:Nat)(w0:World)(C:Cx)(x:TX)(d:Dk)(P:List NV)(l:List aN)(s:List Pg)(e:Ending)(w':World):Prop:=
 ∃ao c V,e=.returned (.tuple #[.slice ao V.length c,.int .i64 0])∧V.map Fu=s∧∃P' d',(∀v∈V,v.2.2∈P')∧(∀y∈P,y∈P')∧bh d d'∧Sep B w0 w' (TL C x d' P' (Dq (.slice ao V.length c) V::l))
theorem Rz (hd:bh d d1)(h:Sep B w0 w (TL C x d1 P l))(hk:∀(u:World) (pd pl:Nat),Sep B w0 u (TL C x d1 P (zg pd pl [] P::l))->Calls Tryz.prog 40 #[ptr C.tq,.func (.func 41) #[] #[.pointer (some ⟨pd,0,none⟩),.pointer (some ⟨pl,0,none⟩)]] u (Vk B w0 C x d P pd pl s l 0)):
  Calls Tryz.prog 19 #[ptr C.tq] w (GWk B w0 C x d P l s):=by
 have S1:Hid (Sep B w0 (((w.alloc (.cells #[.slice none 0 0] 48)).alloc (.map #[] 0)).alloc (.cells #[.map (some (w.heap.size+1))] 83)) (TL C x d1 P (zg (w.heap.size+2) w.heap.size [] P::l))):=by
  have h1:=Sep.Qy (e:=56) (k:=6) (h.aO (.cells #[.slice none 0 0] 48));have h2:=Sep.Bx h1;have h3:=Sep.aP h2 (.cells #[.map (some (w.heap.size+1))] 83) (w.heap.size+2) (by simp);refine Sep.Kp (Sep.JY (g:=fun _=>none) (m:=w.heap.size+1) (n:=0) (vl:=.slice none 0 0) (V:=[]) (fun _ _=>rfl) rfl (fun _ hc=>by cases hc) (Nat.le_refl _) ?_);simp only[World.size_alloc]at h3;exact Sep.pb2 (Sep.pU h3)
 have KG:Hid (∀u,Calls Tryz.prog 27 #[ptr C.tq] u fun e w'=>e=.returned (ptr C.tq)∧u=w'):=fun u=>gy u C.tq;have KP:Hid _:=hk _ _ _ S1.out;have hmk:=Rv (w.alloc (.cells #[.slice none 0 0] 48));clear h hk hd;go_enter Tryz.func19,Tryz.ntmps19
 go_wp2_with fail
 refine Calls.mono (KG.out _) ?_;rintro e w1 ⟨rfl,rfl⟩;clear KG
 go_wp2_with fail
 clear S1;generalize World.alloc _ _=w1 at*;generalize w.heap.size+2=pd at*;generalize w.heap.size=pl at*;refine Calls.mono KP.out ?_;rintro e w2 ⟨rfl,P',d',m1,m2,s2⟩;obtain⟨g,m,ao,c,V,n,_,hV,hP,_,ho⟩:=Sep.JX (Sep.js (s2));have HO:Hid _:=ho;have HM:Hid ((∀v∈V,v.2.2∈P')∧(∀y∈P,y∈P')∧bh d d'∧V.map Fu=s):=⟨hP,m1,m2,hV⟩;obtain⟨ps,p0,_⟩:=Sep.c1 (Sep.tR ho);clear KP s2 m1 m2 ho hP hV;go_wp2;go_ret2;exact⟨ao,c,V,rfl,HM.out.2.2.2,P',d',HM.out.1,HM.out.2.1,HM.out.2.2.1,Sep.Kp (Sep.drop (Sep.drop (Sep.drop HO.out)))⟩
end
end Go.Proofs.YtceoeaemenhbhabGreatDoor
end
