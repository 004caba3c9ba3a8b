/- Walks of the package cowtree and of what it stands on: lemmas, made short. -/
import Derived.Test.YtdcpfbidcpfboaaGreatDoorR15
import Derived.Test.YtdcpfbidcpfboaaGreatDoorR11
import Derived.Test.YtdcpfbidcpfboaaGreatDoorR13
import Derived.Maps.OwnIn
import Derived.Maps.AppendAt
import Derived.Deep.AppendLies
import Derived.Test.YtdcpfbidcpfboaaGreatDoorR12
import Derived.Deep.QuietTactic
import Derived.BigQuiet
import Derived.Test.YtdcpfbidcpfboaaGreatDoorR3
import Derived.Test.YtdcpfbidcpfboaaGreatDoorR14
set_option maxHeartbeats 16000000
set_option maxRecDepth 100000
set_option linter.unusedVariables false
set_option linter.unusedSimpArgs false
namespace Go.Proofs.YtdcpfbidcpfboaaGreatDoor
open Go.Shelf Go.RowKit Go.Lib Go.Sort
section
open N (Nd bp bf hidR ar ai Ch aP ah waits)
section
variable {B:Nat}{w0 w w':World}{l:List aN}{fr tt k:ByteArray}
def JPr (B:Nat)(w0:World)(LL:List aN)(q1 q2 q3 r o cz ix YZ:Nat)(fz tt k9:ByteArray)(hb:Bool){y0 y1 y5 y6 y7 y8 y9 wE sK sL y13 tW pN pO sN wF wK y34 ua ub wL y38 y39:Value}(C:List Bool->Act->Prop)(w:World):Prop:=∀{f0 f1 f2 f3 f4 f5 f6 f7 f8 f9 f10 f11 f12 f13:Bool}{tX x20 j8 lU kW x24 x25 sO x27 x28 x29 x30 x31 x32:Value},f13=false->Sep B w0 w LL->Hid (f0=true->tX=.int .i64 (ix:Int))->Hid (f1=true->x20=.pointer (some ⟨q2,3,none⟩))->Hid (f2=true->f1=true∧j8=.slice (some ⟨r,o,none⟩) YZ cz)->Hid (f3=true->f2=true∧lU=.int .i64 (YZ:Int))->Hid (f4=true->f0=true∧f3=true∧kW=.bool true)->Hid (f5=true->f4=true∧x24=.bool true)->Hid (f6=true->x25=.agg #[.string fz,.string tt])->Hid (f7=true->sO=.pointer (some ⟨q2,3,none⟩))->Hid (f8=true->f7=true∧x27=.slice (some ⟨r,o,none⟩) YZ cz)->Hid (f9=true->x28=.int .i64 (ix:Int))->Hid (f10=true->f8=true∧f9=true∧x29=.pointer (some ⟨r,o+ix,none⟩))->Hid (f11=true->f10=true∧x30=.string k9)->Hid (f12=true->f6=true∧f11=true∧x31=.bool hb)->C [f0,f1,f2,f3,f4,f5,f6,f7,f8,f9,f10,f11,f12,f13] {tmps:=#[y0,y1,.int .i64 (ix:Int),.pointer (some ⟨q1,0,none⟩),.pointer (some ⟨q2,0,none⟩),y5,y6,y7,y8,y9,wE,sK,sL,y13,tW,pN,pO,sN,wF,tX,x20,j8,lU,kW,x24,x25,sO,x27,x28,x29,x30,x31,x32,wK,y34,ua,ub,wL,y38,y39],defers:=[]}
theorem JH {P:List NV}{p:NV}{ix:Nat}(h:Sep B w0 w (Pl P::l))(hp:p∈P)(hi:ix<=p.n.ss.length)(hb:p.n.ss.length<=500):Calls Tryz.prog 126 #[.agg #[.string fr,.string tt],.agg #[.bool p.n.leaf,.slice p.ae p.n.es.length p.ce,.slice p.ak p.n.ks.length p.ck,.slice p.az p.n.ss.length p.cz],.int .i64 (ix:Int)] w fun e w'=>e=.returned (.agg #[.string (km p.n.ss ix fr),.string (ik p.n.ss ix tt)])∧Sep B w0 w' (Pl P::l):=by
 obtain⟨ae,ce,ak,ck,az,cz,n⟩:=p;simp only at hi hb⊢;have HS:Hid (Sep B w0 w (Pl P::l)):=h;have HP:Hid (⟨ae,ce,ak,ck,az,cz,n⟩∈P):=hp;clear h hp;by_cases hi0:0<ix
 ·obtain⟨j,hij⟩:∃j,ix=j+1:=⟨ix-1,by omega⟩;have S3:Hid (Sep B w0 (((w.alloc (.cells #[.string fr,.string tt] 112)).alloc (.cells #[.bool n.leaf,.slice ae n.es.length ce,.slice ak n.ks.length ck,.slice az n.ss.length cz] 184)).alloc (.cells #[.string ⟨#[]⟩,.string ⟨#[]⟩] 112)).drew (Pl P::l)):=(((HS.out.alloc _).alloc _).alloc _).drew;obtain⟨r,o,haz,k1,k2⟩:=NV.key (p:=⟨ae,ce,ak,ck,az,cz,n⟩) (Sep.pool S3.out _ HP.out) (i:=j) (by simp only;omega);simp only at haz k2;subst haz;have wj:IntKind.i64.wrap ((ix:Int)-1)=(j:Int):=by rw[bR (by omega) (by omega)];omega
  have hj:(j:Int)< (n.ss.length:Int):=by omega
  have hj1:(0:Int)< (ix:Int):=by omega
  have SF:Hid (km n.ss ix fr=if bp fr (n.ss.getD j ⟨#[]⟩)=true then n.ss.getD j ⟨#[]⟩else fr):=by show _=_;rw[hij];simp[km]
  generalize n.ss.getD j ⟨#[]⟩=kk at*;generalize km n.ss ix fr=fz at*;have hmx:Builtin.max_ #[9,9] 9 #[.string fr,.string kk]=pure (.string fz):=by rw[SF.out];exact VO fr kk
  clear SF hij;go_enter Tryz.func126,Tryz.ntmps126
  go_wp2_with fail
  go_region
  clear k2 k1 S3 hmx wj hj
  go_wp2_with fail
  have S4:Hid (Sep B w0 (((w.alloc (.cells #[.string fz,.string tt] 112)).alloc (.cells #[.bool n.leaf,.slice ae n.es.length ce,.slice ak n.ks.length ck,.slice (some ⟨r,o,none⟩) n.ss.length cz] 184)).alloc (.cells #[.string ⟨#[]⟩,.string ⟨#[]⟩] 112)).drew (Pl P::ax w.heap.size (.cells #[.string fz,.string tt] 112)::ax (w.heap.size+1) (.cells #[.bool n.leaf,.slice ae n.es.length ce,.slice ak n.ks.length ck,.slice (some ⟨r,o,none⟩) n.ss.length cz] 184)::ax (w.heap.size+1+1) (.cells #[.string ⟨#[]⟩,.string ⟨#[]⟩] 112)::l)):=by
   have h1:=HS.out.aZ (.cells #[.string fz,.string tt] 112) w.heap.size rfl;have h2:=h1.aZ (.cells #[.bool n.leaf,.slice ae n.es.length ce,.slice ak n.ks.length ck,.slice (some ⟨r,o,none⟩) n.ss.length cz] 184) (w.heap.size+1) (by simp);have h3:=h2.aZ (.cells #[.string ⟨#[]⟩,.string ⟨#[]⟩] 112) (w.heap.size+1+1) (by simp);exact Sep.drew (Sep.Ww (Sep.pb [_,_] (Sep.pb [_,_,_] h3)))
  generalize(((w.alloc (.cells #[.string fz,.string tt] 112)).alloc (.cells #[.bool n.leaf,.slice ae n.es.length ce,.slice ak n.ks.length ck,.slice (some ⟨r,o,none⟩) n.ss.length cz] 184)).alloc (.cells #[.string ⟨#[]⟩,.string ⟨#[]⟩] 112)).drew=u0 at*;generalize hq2:w.heap.size+1=q2 at*;generalize hq3:q2+1=q3 at*;generalize hq1:w.heap.size=q1 at*;clear hq1 hq2 hq3;have T0:Hid (Sep B w0 u0.drew (Pl P::ax q1 (.cells #[.string fz,.string tt] 112)::ax q2 (.cells #[.bool n.leaf,.slice ae n.es.length ce,.slice ak n.ks.length ck,.slice (some ⟨r,o,none⟩) n.ss.length cz] 184)::ax q3 (.cells #[.string ⟨#[]⟩,.string ⟨#[]⟩] 112)::l)):=S4.out.drew;clear S4 HS;have n13:q1≠q3:=Sep.ne (Sep.pk [_,_] (Sep.pk [_,_,_] T0.out));have n31:=n13.symm;by_cases hl:ix<n.ss.length
  ·obtain⟨r2,o2,JI,k1,k2⟩:=NV.key (p:=⟨ae,ce,ak,ck,some ⟨r,o,none⟩,cz,n⟩) (Sep.pool T0.out _ HP.out) (i:=ix) hl;simp only at JI k2;obtain⟨rfl,rfl⟩:r=r2∧o=o2:=by cases JI;exact⟨rfl,rfl⟩
   have hlI:(ix:Int)< (n.ss.length:Int):=by omega
   have hld:decide ((ix:Int)< (n.ss.length:Int))=true:=by simp;omega
   have Y0:decide (ix<n.ss.length)=true:=by simp;omega
   have HE:Hid (ik n.ss ix tt=if bF tt (n.ss.getD ix ⟨#[]⟩)=true then n.ss.getD ix ⟨#[]⟩else tt):=by show _=_;simp[ik,hl]
   have KK:Hid (∀u L,Sep B w0 u (Pl P::L)->u.cell? ⟨r,o+ix,none⟩=some (.string (n.ss.getD ix ⟨#[]⟩))):=fun u L hu=>by
    obtain⟨r',o',h1,_,h3⟩:=NV.key (p:=⟨ae,ce,ak,ck,some ⟨r,o,none⟩,cz,n⟩) (Sep.pool hu _ HP.out) (i:=ix) hl;cases h1;exact h3
   generalize n.ss.getD ix ⟨#[]⟩=k9 at*;clear k1 k2;refine lX 13 (JPr B w0 (Pl P::ax q1 (.cells #[.string fz,.string tt] 112)::ax q2 (.cells #[.bool n.leaf,.slice ae n.es.length ce,.slice ak n.ks.length ck,.slice (some ⟨r,o,none⟩) n.ss.length cz] 184)::ax q3 (.cells #[.string ⟨#[]⟩,.string ⟨#[]⟩] 112)::l) q1 q2 q3 r o cz ix n.ss.length fz tt k9 (bF tt k9)) (by kernel_rfl) (by kernel_rfl) (fun _ k=>k rfl T0.out ar ar ar ar ar ar ar ar ar ar ar ar ar) ?_ ?_ ?_ ?_
   ·intro w' f0 f1 f2 f3 f4 f5 f6 f7 f8 f9 f10 f11 f12 f13 tX x20 j8 lU kW x24 x25 sO x27 x28 x29 x30 x31 x32 e13 hB h0 h1 h2 h3 h4 h5 h6 h7 h8 h9 h10 h11 h12 hi;have d5:f5=true:=ah 5 hi (by kernel_rfl);have d12:f12=true:=ah 12 hi (by kernel_rfl);obtain⟨d6,d11,_⟩:=h12.out d12;obtain⟨d10,_⟩:=h11.out d11;obtain⟨d8,d9,_⟩:=h10.out d10;obtain⟨d7,_⟩:=h8.out d8;obtain⟨d4,_⟩:=h5.out d5;obtain⟨d0,d3,_⟩:=h4.out d4;obtain⟨d2,_⟩:=h3.out d3;obtain⟨d1,_⟩:=h2.out d2;subst d0 d1 d2 d3 d4 d5 d6 d7 d8 d9 d10 d11 d12;rfl
   ·intro i w' hne f0 f1 f2 f3 f4 f5 f6 f7 f8 f9 f10 f11 f12 f13 tX x20 j8 lU kW x24 x25 sO x27 x28 x29 x30 x31 x32 e13 hB h0 h1 h2 h3 h4 h5 h6 h7 h8 h9 h10 h11 h12 hi;obtain⟨hlt,hun,_⟩:=aP hi;have hlt':i<14:=hlt;clear hlt;rcases(by omega:i=0∨i=1∨i=2∨i=3∨i=4∨i=5∨i=6∨i=7∨i=8∨i=9∨i=10∨i=11∨i=12)with rfl|rfl|rfl|rfl|rfl|rfl|rfl|rfl|rfl|rfl|rfl|rfl|rfl
    ·have un:f0=false:=hun;refine ai rfl fun K HK=>?_;go_simp;exact HK.out _ _ fun _ k=>k e13 hB hidR h1 h2 h3 (fun d=>by have e:=(h4.out d).1;rw[un]at e;cases e) h5 h6 h7 h8 h9 h10 h11 h12
    ·have un:f1=false:=hun;refine ai rfl fun K HK=>?_;go_simp;exact HK.out _ _ fun _ k=>k e13 hB h0 hidR (fun d=>by have e:=(h2.out d).1;rw[un]at e;cases e) h3 h4 h5 h6 h7 h8 h9 h10 h11 h12
    ·have un:f2=false:=hun;have d1:f1=true:=ah 1 hi (by kernel_rfl);cases h1 d1;obtain⟨_,⟨y0,y1,y2,y3⟩,_⟩:=Sep.c4 (Sep.pk [_,_] hB);refine ai rfl fun K HK=>?_;go_simp;exact HK.out _ _ fun _ k=>k e13 hB h0 h1 (fun _=>⟨d1,rfl⟩) (fun d=>by have e:=(h3.out d).1;rw[un]at e;cases e) h4 h5 h6 h7 h8 h9 h10 h11 h12
    ·have un:f3=false:=hun;have d2:f2=true:=ah 2 hi (by kernel_rfl);obtain⟨_,rfl⟩:=h2.out d2;refine ai rfl fun K HK=>?_;go_simp;exact HK.out _ _ fun _ k=>k e13 hB h0 h1 h2 (fun _=>⟨d2,rfl⟩) (fun d=>by have e:=(h4.out d).2.1;rw[un]at e;cases e) h5 h6 h7 h8 h9 h10 h11 h12
    ·have un:f4=false:=hun;have d0:f0=true:=ah 0 hi (by kernel_rfl);cases h0 d0;have d3:f3=true:=ah 3 hi (by kernel_rfl);obtain⟨_,rfl⟩:=h3.out d3;refine ai rfl fun K HK=>?_;go_simp;exact HK.out _ _ fun _ k=>k e13 hB h0 h1 h2 h3 (fun _=>⟨d0,d3,rfl⟩) (fun d=>by have e:=(h5.out d).1;rw[un]at e;cases e) h6 h7 h8 h9 h10 h11 h12
    ·have d4:f4=true:=ah 4 hi (by kernel_rfl);obtain⟨_,_,rfl⟩:=h4.out d4;refine ai rfl fun K HK=>?_;go_simp;exact HK.out _ _ fun _ k=>k e13 hB h0 h1 h2 h3 h4 (fun _=>⟨d4,rfl⟩) h6 h7 h8 h9 h10 h11 h12
    ·have un:f6=false:=hun;obtain⟨_,rfl⟩:=h5.out (ah 5 hi (by kernel_rfl));obtain⟨_,⟨y0,y1⟩,_⟩:=Sep.c2 (Sep.kh hB);refine ai rfl fun K HK=>?_;go_simp;exact HK.out _ _ fun _ k=>k e13 hB h0 h1 h2 h3 h4 h5 hidR h7 h8 h9 h10 h11 (fun d=>by have e:=(h12.out d).1;rw[un]at e;cases e)
    ·have un:f7=false:=hun;obtain⟨_,rfl⟩:=h5.out (ah 5 hi (by kernel_rfl));refine ai rfl fun K HK=>?_;go_simp;exact HK.out _ _ fun _ k=>k e13 hB h0 h1 h2 h3 h4 h5 h6 hidR (fun d=>by have e:=(h8.out d).1;rw[un]at e;cases e) h9 h10 h11 h12
    ·have un:f8=false:=hun;obtain⟨_,rfl⟩:=h5.out (ah 5 hi (by kernel_rfl));have d7:f7=true:=ah 7 hi (by kernel_rfl);cases h7 d7;obtain⟨_,⟨y0,y1,y2,y3⟩,_⟩:=Sep.c4 (Sep.pk [_,_] hB);refine ai rfl fun K HK=>?_;go_simp;exact HK.out _ _ fun _ k=>k e13 hB h0 h1 h2 h3 h4 h5 h6 h7 (fun _=>⟨d7,rfl⟩) h9 (fun d=>by have e:=(h10.out d).1;rw[un]at e;cases e) h11 h12
    ·have un:f9=false:=hun;obtain⟨_,rfl⟩:=h5.out (ah 5 hi (by kernel_rfl));refine ai rfl fun K HK=>?_;go_simp;exact HK.out _ _ fun _ k=>k e13 hB h0 h1 h2 h3 h4 h5 h6 h7 h8 hidR (fun d=>by have e:=(h10.out d).2.1;rw[un]at e;cases e) h11 h12
    ·have un:f10=false:=hun;obtain⟨_,rfl⟩:=h5.out (ah 5 hi (by kernel_rfl));have d8:f8=true:=ah 8 hi (by kernel_rfl);obtain⟨_,rfl⟩:=h8.out d8;have d9:f9=true:=ah 9 hi (by kernel_rfl);cases h9 d9;refine ai rfl fun K HK=>?_;go_simp;exact HK.out _ _ fun _ k=>k e13 hB h0 h1 h2 h3 h4 h5 h6 h7 h8 h9 (fun _=>⟨d8,d9,rfl⟩) (fun d=>by have e:=(h11.out d).1;rw[un]at e;cases e) h12
    ·have un:f11=false:=hun;obtain⟨_,rfl⟩:=h5.out (ah 5 hi (by kernel_rfl));have d10:f10=true:=ah 10 hi (by kernel_rfl);obtain⟨_,_,rfl⟩:=h10.out d10;have WD:=KK.out _ _ hB;refine ai rfl fun K HK=>?_;go_simp;exact HK.out _ _ fun _ k=>k e13 hB h0 h1 h2 h3 h4 h5 h6 h7 h8 h9 h10 (fun _=>⟨d10,rfl⟩) (fun d=>by have e:=(h12.out d).2.1;rw[un]at e;cases e)
    ·obtain⟨_,rfl⟩:=h5.out (ah 5 hi (by kernel_rfl));have d6:f6=true:=ah 6 hi (by kernel_rfl);cases h6 d6;have d11:f11=true:=ah 11 hi (by kernel_rfl);obtain⟨_,rfl⟩:=h11.out d11;refine ai rfl fun K HK=>?_;go_simp;refine Calls.mono (qV hB) ?_;rintro e u4 ⟨rfl,s4⟩;exact HK.out _ _ fun _ k=>k e13 s4 h0 h1 h2 h3 h4 h5 h6 h7 h8 h9 h10 h11 (fun _=>⟨d6,d11,rfl⟩)
   ·intro w' f0 f1 f2 f3 f4 f5 f6 f7 f8 f9 f10 f11 f12 f13 tX x20 j8 lU kW x24 x25 sO x27 x28 x29 x30 x31 x32 e13 hB h0 h1 h2 h3 h4 h5 h6 h7 h8 h9 h10 h11 h12 hi;have d5:f5=true:=ah 5 hi (by kernel_rfl);obtain⟨_,rfl⟩:=h5.out d5;have d12:f12=true:=ah 12 hi (by kernel_rfl);obtain⟨u6,u11,rfl⟩:=h12.out d12;clear hi;refine ai rfl fun K HK=>?_;go_simp;refine HK.out _ _ ?_;have T1:Hid (Sep B w0 w' (Pl P::ax q1 (.cells #[.string fz,.string tt] 112)::ax q2 (.cells #[.bool n.leaf,.slice ae n.es.length ce,.slice ak n.ks.length ck,.slice (some ⟨r,o,none⟩) n.ss.length cz] 184)::ax q3 (.cells #[.string ⟨#[]⟩,.string ⟨#[]⟩] 112)::l)):=hB;clear hB h0 h1 h2 h3 h4 h5 h6 h7 h8 h9 h10 h11 h12;obtain⟨_,⟨x0,x1⟩,g0,g1⟩:=Sep.c2 (Sep.kh T1.out);obtain⟨_,⟨y0,y1,y2,y3⟩,_⟩:=Sep.c4 (Sep.pk [_,_] T1.out);obtain⟨_,⟨z0,z1⟩,VP,f2'⟩:=Sep.c2 (Sep.pk [_,_,_] T1.out);have k2:=KK.out _ _ T1.out;cases hh:bF tt k9
    ·rw[hh]at HE;rw[if_neg Bool.false_ne_true]at HE;have SF:Hid (Sep B w0 ((w'.setCell ⟨q3,0,none⟩ (.string fz)).setCell ⟨q3,1,none⟩ (.string tt)) (Pl P::ax q1 (.cells #[.string fz,.string tt] 112)::ax q2 (.cells #[.bool n.leaf,.slice ae n.es.length ce,.slice ak n.ks.length ck,.slice (some ⟨r,o,none⟩) n.ss.length cz] 184)::ax q3 (.cells #[.string fz,.string tt] 112)::l)):=Sep.pb [_,_,_] (((Sep.pk [_,_,_] T1.out).dw 0 _).dw 1 _);clear hh T1 KK;go_wp2;generalize World.setCell _ _ _=u2 at*;clear x0 x1 g0 g1 y0 y1 y2 y3 z0 z1 VP f2' k2;obtain⟨_,⟨z0,z1⟩,_⟩:=Sep.c2 (Sep.pk [_,_,_] SF.out);refine bodyPost_ret (v:=.agg #[.string fz,.string tt]) ?_ rfl ⟨by rw[HE.out],Sep.drop (Sep.kh (Sep.drop (Sep.kh (Sep.drop (Sep.kh SF.out)))))⟩;rw[N.bC rfl];go_simp
    ·rw[hh]at HE;rw[if_pos rfl]at HE;have SF:Hid (Sep B w0 (((w'.setCell ⟨q1,1,none⟩ (.string k9)).setCell ⟨q3,0,none⟩ (.string fz)).setCell ⟨q3,1,none⟩ (.string k9)) (Pl P::ax q1 (.cells #[.string fz,.string k9] 112)::ax q2 (.cells #[.bool n.leaf,.slice ae n.es.length ce,.slice ak n.ks.length ck,.slice (some ⟨r,o,none⟩) n.ss.length cz] 184)::ax q3 (.cells #[.string fz,.string k9] 112)::l)):=Sep.pb [_,_,_] (((Sep.pk [_,_,_] (Sep.Ww ((Sep.kh T1.out).dw 1 (.string k9)))).dw 0 _).dw 1 _);clear hh T1 KK;go_wp2;generalize World.setCell _ _ _=u2 at*;clear x0 x1 g0 g1 y0 y1 y2 y3 z0 z1 VP f2' k2;obtain⟨_,⟨z0,z1⟩,_⟩:=Sep.c2 (Sep.pk [_,_,_] SF.out);refine bodyPost_ret (v:=.agg #[.string fz,.string k9]) ?_ rfl ⟨by rw[HE.out],Sep.drop (Sep.kh (Sep.drop (Sep.kh (Sep.drop (Sep.kh SF.out)))))⟩;rw[N.bC rfl];go_simp
   ·intro _ _;intros;assumption
  ·obtain⟨_,⟨x0,x1⟩,g0,g1⟩:=Sep.c2 (Sep.kh T0.out);obtain⟨_,⟨y0,y1,y2,y3⟩,_⟩:=Sep.c4 (Sep.pk [_,_] T0.out);obtain⟨_,⟨z0,z1⟩,f0,f2⟩:=Sep.c2 (Sep.pk [_,_,_] T0.out);have hd:decide ((ix:Int)< (n.ss.length:Int))=false:=by simp;omega
   have hd2:decide (ix<n.ss.length)=false:=by simp;omega
   have HE:Hid (ik n.ss ix tt=tt):=by show _=_;unfold ik;rw[if_neg fun h=>hl h.1]
   have SF:Hid (Sep B w0 ((u0.drew.setCell ⟨q3,0,none⟩ (.string fz)).setCell ⟨q3,1,none⟩ (.string tt)) (Pl P::ax q1 (.cells #[.string fz,.string tt] 112)::ax q2 (.cells #[.bool n.leaf,.slice ae n.es.length ce,.slice ak n.ks.length ck,.slice (some ⟨r,o,none⟩) n.ss.length cz] 184)::ax q3 (.cells #[.string fz,.string tt] 112)::l)):=Sep.pb [_,_,_] (((Sep.pk [_,_,_] T0.out).dw 0 _).dw 1 _);clear T0 hl
   go_region
   generalize u0.drew=u1 at*;go_wp2;generalize(u1.setCell ⟨q3,0,none⟩ (.string fz)).setCell ⟨q3,1,none⟩ (.string tt)=u2 at*;clear x0 x1 g0 g1 y0 y1 y2 y3 z0 z1 f0 f2;obtain⟨_,⟨z0,z1⟩,_⟩:=Sep.c2 (Sep.pk [_,_,_] SF.out);refine bodyPost_ret (v:=.agg #[.string fz,.string tt]) ?_ rfl ⟨by rw[HE.out],Sep.drop (Sep.kh (Sep.drop (Sep.kh (Sep.drop (Sep.kh SF.out)))))⟩;rw[N.bC rfl];go_simp
 ·have hz:km n.ss ix fr=fr:=by unfold km;rw[if_neg fun h=>hi0 h.1]
  rw[hz];have hz2:decide ((0:Int)< (ix:Int))=false:=by simp;omega
  have hz3:decide (0<ix)=false:=by simp;omega
  have hz4:¬(0:Int)< (ix:Int):=by omega
  clear hz;go_enter Tryz.func126,Tryz.ntmps126
  go_wp2_with fail
  have S4:Hid (Sep B w0 (((w.alloc (.cells #[.string fr,.string tt] 112)).alloc (.cells #[.bool n.leaf,.slice ae n.es.length ce,.slice ak n.ks.length ck,.slice az n.ss.length cz] 184)).alloc (.cells #[.string ⟨#[]⟩,.string ⟨#[]⟩] 112)) (Pl P::ax w.heap.size (.cells #[.string fr,.string tt] 112)::ax (w.heap.size+1) (.cells #[.bool n.leaf,.slice ae n.es.length ce,.slice ak n.ks.length ck,.slice az n.ss.length cz] 184)::ax (w.heap.size+1+1) (.cells #[.string ⟨#[]⟩,.string ⟨#[]⟩] 112)::l)):=by
   have h1:=HS.out.aZ (.cells #[.string fr,.string tt] 112) w.heap.size rfl;have h2:=h1.aZ (.cells #[.bool n.leaf,.slice ae n.es.length ce,.slice ak n.ks.length ck,.slice az n.ss.length cz] 184) (w.heap.size+1) (by simp);have h3:=h2.aZ (.cells #[.string ⟨#[]⟩,.string ⟨#[]⟩] 112) (w.heap.size+1+1) (by simp);exact(Sep.Ww (Sep.pb [_,_] (Sep.pb [_,_,_] h3)))
  generalize World.alloc _ _=u0 at*;generalize hq2:w.heap.size+1=q2 at*;generalize hq3:q2+1=q3 at*;generalize hq1:w.heap.size=q1 at*;clear hq1 hq2 hq3;have T0:Hid (Sep B w0 u0.drew (Pl P::ax q1 (.cells #[.string fr,.string tt] 112)::ax q2 (.cells #[.bool n.leaf,.slice ae n.es.length ce,.slice ak n.ks.length ck,.slice az n.ss.length cz] 184)::ax q3 (.cells #[.string ⟨#[]⟩,.string ⟨#[]⟩] 112)::l)):=S4.out.drew;clear S4 HS;have n13:q1≠q3:=Sep.ne (Sep.pk [_,_] (Sep.pk [_,_,_] T0.out));have n31:=n13.symm;by_cases hl:ix<n.ss.length
  ·obtain⟨r2,o2,JI,k1,k2⟩:=NV.key (p:=⟨ae,ce,ak,ck,az,cz,n⟩) (Sep.pool T0.out _ HP.out) (i:=ix) hl;simp only at JI k2;subst JI;have hlI:(ix:Int)< (n.ss.length:Int):=by omega
   have hld:decide ((ix:Int)< (n.ss.length:Int))=true:=by simp;omega
   have Y0:decide (ix<n.ss.length)=true:=by simp;omega
   have HE:Hid (ik n.ss ix tt=if bF tt (n.ss.getD ix ⟨#[]⟩)=true then n.ss.getD ix ⟨#[]⟩else tt):=by show _=_;simp[ik,hl]
   have KK:Hid (∀u L,Sep B w0 u (Pl P::L)->u.cell? ⟨r2,o2+ix,none⟩=some (.string (n.ss.getD ix ⟨#[]⟩))):=fun u L hu=>by
    obtain⟨r',o',h1,_,h3⟩:=NV.key (p:=⟨ae,ce,ak,ck,some ⟨r2,o2,none⟩,cz,n⟩) (Sep.pool hu _ HP.out) (i:=ix) hl;cases h1;exact h3
   generalize n.ss.getD ix ⟨#[]⟩=k9 at*;clear k1 k2;refine lX 13 (JPr B w0 (Pl P::ax q1 (.cells #[.string fr,.string tt] 112)::ax q2 (.cells #[.bool n.leaf,.slice ae n.es.length ce,.slice ak n.ks.length ck,.slice (some ⟨r2,o2,none⟩) n.ss.length cz] 184)::ax q3 (.cells #[.string ⟨#[]⟩,.string ⟨#[]⟩] 112)::l) q1 q2 q3 r2 o2 cz ix n.ss.length fr tt k9 (bF tt k9)) (by kernel_rfl) (by kernel_rfl) (fun _ k=>k rfl T0.out ar ar ar ar ar ar ar ar ar ar ar ar ar) ?_ ?_ ?_ ?_
   ·intro w' f0 f1 f2 f3 f4 f5 f6 f7 f8 f9 f10 f11 f12 f13 tX x20 j8 lU kW x24 x25 sO x27 x28 x29 x30 x31 x32 e13 hB h0 h1 h2 h3 h4 h5 h6 h7 h8 h9 h10 h11 h12 hi;have d5:f5=true:=ah 5 hi (by kernel_rfl);have d12:f12=true:=ah 12 hi (by kernel_rfl);obtain⟨d6,d11,_⟩:=h12.out d12;obtain⟨d10,_⟩:=h11.out d11;obtain⟨d8,d9,_⟩:=h10.out d10;obtain⟨d7,_⟩:=h8.out d8;obtain⟨d4,_⟩:=h5.out d5;obtain⟨d0,d3,_⟩:=h4.out d4;obtain⟨d2,_⟩:=h3.out d3;obtain⟨d1,_⟩:=h2.out d2;subst d0 d1 d2 d3 d4 d5 d6 d7 d8 d9 d10 d11 d12;rfl
   ·intro i w' hne f0 f1 f2 f3 f4 f5 f6 f7 f8 f9 f10 f11 f12 f13 tX x20 j8 lU kW x24 x25 sO x27 x28 x29 x30 x31 x32 e13 hB h0 h1 h2 h3 h4 h5 h6 h7 h8 h9 h10 h11 h12 hi;obtain⟨hlt,hun,_⟩:=aP hi;have hlt':i<14:=hlt;clear hlt;rcases(by omega:i=0∨i=1∨i=2∨i=3∨i=4∨i=5∨i=6∨i=7∨i=8∨i=9∨i=10∨i=11∨i=12)with rfl|rfl|rfl|rfl|rfl|rfl|rfl|rfl|rfl|rfl|rfl|rfl|rfl
    ·have un:f0=false:=hun;refine ai rfl fun K HK=>?_;go_simp;exact HK.out _ _ fun _ k=>k e13 hB hidR h1 h2 h3 (fun d=>by have e:=(h4.out d).1;rw[un]at e;cases e) h5 h6 h7 h8 h9 h10 h11 h12
    ·have un:f1=false:=hun;refine ai rfl fun K HK=>?_;go_simp;exact HK.out _ _ fun _ k=>k e13 hB h0 hidR (fun d=>by have e:=(h2.out d).1;rw[un]at e;cases e) h3 h4 h5 h6 h7 h8 h9 h10 h11 h12
    ·have un:f2=false:=hun;have d1:f1=true:=ah 1 hi (by kernel_rfl);cases h1 d1;obtain⟨_,⟨y0,y1,y2,y3⟩,_⟩:=Sep.c4 (Sep.pk [_,_] hB);refine ai rfl fun K HK=>?_;go_simp;exact HK.out _ _ fun _ k=>k e13 hB h0 h1 (fun _=>⟨d1,rfl⟩) (fun d=>by have e:=(h3.out d).1;rw[un]at e;cases e) h4 h5 h6 h7 h8 h9 h10 h11 h12
    ·have un:f3=false:=hun;have d2:f2=true:=ah 2 hi (by kernel_rfl);obtain⟨_,rfl⟩:=h2.out d2;refine ai rfl fun K HK=>?_;go_simp;exact HK.out _ _ fun _ k=>k e13 hB h0 h1 h2 (fun _=>⟨d2,rfl⟩) (fun d=>by have e:=(h4.out d).2.1;rw[un]at e;cases e) h5 h6 h7 h8 h9 h10 h11 h12
    ·have un:f4=false:=hun;have d0:f0=true:=ah 0 hi (by kernel_rfl);cases h0 d0;have d3:f3=true:=ah 3 hi (by kernel_rfl);obtain⟨_,rfl⟩:=h3.out d3;refine ai rfl fun K HK=>?_;go_simp;exact HK.out _ _ fun _ k=>k e13 hB h0 h1 h2 h3 (fun _=>⟨d0,d3,rfl⟩) (fun d=>by have e:=(h5.out d).1;rw[un]at e;cases e) h6 h7 h8 h9 h10 h11 h12
    ·have d4:f4=true:=ah 4 hi (by kernel_rfl);obtain⟨_,_,rfl⟩:=h4.out d4;refine ai rfl fun K HK=>?_;go_simp;exact HK.out _ _ fun _ k=>k e13 hB h0 h1 h2 h3 h4 (fun _=>⟨d4,rfl⟩) h6 h7 h8 h9 h10 h11 h12
    ·have un:f6=false:=hun;obtain⟨_,rfl⟩:=h5.out (ah 5 hi (by kernel_rfl));obtain⟨_,⟨y0,y1⟩,_⟩:=Sep.c2 (Sep.kh hB);refine ai rfl fun K HK=>?_;go_simp;exact HK.out _ _ fun _ k=>k e13 hB h0 h1 h2 h3 h4 h5 hidR h7 h8 h9 h10 h11 (fun d=>by have e:=(h12.out d).1;rw[un]at e;cases e)
    ·have un:f7=false:=hun;obtain⟨_,rfl⟩:=h5.out (ah 5 hi (by kernel_rfl));refine ai rfl fun K HK=>?_;go_simp;exact HK.out _ _ fun _ k=>k e13 hB h0 h1 h2 h3 h4 h5 h6 hidR (fun d=>by have e:=(h8.out d).1;rw[un]at e;cases e) h9 h10 h11 h12
    ·have un:f8=false:=hun;obtain⟨_,rfl⟩:=h5.out (ah 5 hi (by kernel_rfl));have d7:f7=true:=ah 7 hi (by kernel_rfl);cases h7 d7;obtain⟨_,⟨y0,y1,y2,y3⟩,_⟩:=Sep.c4 (Sep.pk [_,_] hB);refine ai rfl fun K HK=>?_;go_simp;exact HK.out _ _ fun _ k=>k e13 hB h0 h1 h2 h3 h4 h5 h6 h7 (fun _=>⟨d7,rfl⟩) h9 (fun d=>by have e:=(h10.out d).1;rw[un]at e;cases e) h11 h12
    ·have un:f9=false:=hun;obtain⟨_,rfl⟩:=h5.out (ah 5 hi (by kernel_rfl));refine ai rfl fun K HK=>?_;go_simp;exact HK.out _ _ fun _ k=>k e13 hB h0 h1 h2 h3 h4 h5 h6 h7 h8 hidR (fun d=>by have e:=(h10.out d).2.1;rw[un]at e;cases e) h11 h12
    ·have un:f10=false:=hun;obtain⟨_,rfl⟩:=h5.out (ah 5 hi (by kernel_rfl));have d8:f8=true:=ah 8 hi (by kernel_rfl);obtain⟨_,rfl⟩:=h8.out d8;have d9:f9=true:=ah 9 hi (by kernel_rfl);cases h9 d9;refine ai rfl fun K HK=>?_;go_simp;exact HK.out _ _ fun _ k=>k e13 hB h0 h1 h2 h3 h4 h5 h6 h7 h8 h9 (fun _=>⟨d8,d9,rfl⟩) (fun d=>by have e:=(h11.out d).1;rw[un]at e;cases e) h12
    ·have un:f11=false:=hun;obtain⟨_,rfl⟩:=h5.out (ah 5 hi (by kernel_rfl));have d10:f10=true:=ah 10 hi (by kernel_rfl);obtain⟨_,_,rfl⟩:=h10.out d10;have WD:=KK.out _ _ hB;refine ai rfl fun K HK=>?_;go_simp;exact HK.out _ _ fun _ k=>k e13 hB h0 h1 h2 h3 h4 h5 h6 h7 h8 h9 h10 (fun _=>⟨d10,rfl⟩) (fun d=>by have e:=(h12.out d).2.1;rw[un]at e;cases e)
    ·obtain⟨_,rfl⟩:=h5.out (ah 5 hi (by kernel_rfl));have d6:f6=true:=ah 6 hi (by kernel_rfl);cases h6 d6;have d11:f11=true:=ah 11 hi (by kernel_rfl);obtain⟨_,rfl⟩:=h11.out d11;refine ai rfl fun K HK=>?_;go_simp;refine Calls.mono (qV hB) ?_;rintro e u4 ⟨rfl,s4⟩;exact HK.out _ _ fun _ k=>k e13 s4 h0 h1 h2 h3 h4 h5 h6 h7 h8 h9 h10 h11 (fun _=>⟨d6,d11,rfl⟩)
   ·intro w' f0 f1 f2 f3 f4 f5 f6 f7 f8 f9 f10 f11 f12 f13 tX x20 j8 lU kW x24 x25 sO x27 x28 x29 x30 x31 x32 e13 hB h0 h1 h2 h3 h4 h5 h6 h7 h8 h9 h10 h11 h12 hi;have d5:f5=true:=ah 5 hi (by kernel_rfl);obtain⟨_,rfl⟩:=h5.out d5;have d12:f12=true:=ah 12 hi (by kernel_rfl);obtain⟨u6,u11,rfl⟩:=h12.out d12;clear hi;refine ai rfl fun K HK=>?_;go_simp;refine HK.out _ _ ?_;have T1:Hid (Sep B w0 w' (Pl P::ax q1 (.cells #[.string fr,.string tt] 112)::ax q2 (.cells #[.bool n.leaf,.slice ae n.es.length ce,.slice ak n.ks.length ck,.slice (some ⟨r2,o2,none⟩) n.ss.length cz] 184)::ax q3 (.cells #[.string ⟨#[]⟩,.string ⟨#[]⟩] 112)::l)):=hB;clear hB h0 h1 h2 h3 h4 h5 h6 h7 h8 h9 h10 h11 h12;obtain⟨_,⟨x0,x1⟩,g0,g1⟩:=Sep.c2 (Sep.kh T1.out);obtain⟨_,⟨y0,y1,y2,y3⟩,_⟩:=Sep.c4 (Sep.pk [_,_] T1.out);obtain⟨_,⟨z0,z1⟩,VP,f2'⟩:=Sep.c2 (Sep.pk [_,_,_] T1.out);have k2:=KK.out _ _ T1.out;cases hh:bF tt k9
    ·rw[hh]at HE;rw[if_neg Bool.false_ne_true]at HE;have SF:Hid (Sep B w0 ((w'.setCell ⟨q3,0,none⟩ (.string fr)).setCell ⟨q3,1,none⟩ (.string tt)) (Pl P::ax q1 (.cells #[.string fr,.string tt] 112)::ax q2 (.cells #[.bool n.leaf,.slice ae n.es.length ce,.slice ak n.ks.length ck,.slice (some ⟨r2,o2,none⟩) n.ss.length cz] 184)::ax q3 (.cells #[.string fr,.string tt] 112)::l)):=Sep.pb [_,_,_] (((Sep.pk [_,_,_] T1.out).dw 0 _).dw 1 _);clear hh T1 KK;go_wp2;generalize World.setCell _ _ _=u2 at*;clear x0 x1 g0 g1 y0 y1 y2 y3 z0 z1 VP f2' k2;obtain⟨_,⟨z0,z1⟩,_⟩:=Sep.c2 (Sep.pk [_,_,_] SF.out);refine bodyPost_ret (v:=.agg #[.string fr,.string tt]) ?_ rfl ⟨by rw[HE.out],Sep.drop (Sep.kh (Sep.drop (Sep.kh (Sep.drop (Sep.kh SF.out)))))⟩;rw[N.bC rfl];go_simp
    ·rw[hh]at HE;rw[if_pos rfl]at HE;have SF:Hid (Sep B w0 (((w'.setCell ⟨q1,1,none⟩ (.string k9)).setCell ⟨q3,0,none⟩ (.string fr)).setCell ⟨q3,1,none⟩ (.string k9)) (Pl P::ax q1 (.cells #[.string fr,.string k9] 112)::ax q2 (.cells #[.bool n.leaf,.slice ae n.es.length ce,.slice ak n.ks.length ck,.slice (some ⟨r2,o2,none⟩) n.ss.length cz] 184)::ax q3 (.cells #[.string fr,.string k9] 112)::l)):=Sep.pb [_,_,_] (((Sep.pk [_,_,_] (Sep.Ww ((Sep.kh T1.out).dw 1 (.string k9)))).dw 0 _).dw 1 _);clear hh T1 KK;go_wp2;generalize World.setCell _ _ _=u2 at*;clear x0 x1 g0 g1 y0 y1 y2 y3 z0 z1 VP f2' k2;obtain⟨_,⟨z0,z1⟩,_⟩:=Sep.c2 (Sep.pk [_,_,_] SF.out);refine bodyPost_ret (v:=.agg #[.string fr,.string k9]) ?_ rfl ⟨by rw[HE.out],Sep.drop (Sep.kh (Sep.drop (Sep.kh (Sep.drop (Sep.kh SF.out)))))⟩;rw[N.bC rfl];go_simp
   ·intro _ _;intros;assumption
  ·obtain⟨_,⟨x0,x1⟩,g0,g1⟩:=Sep.c2 (Sep.kh T0.out);obtain⟨_,⟨y0,y1,y2,y3⟩,_⟩:=Sep.c4 (Sep.pk [_,_] T0.out);obtain⟨_,⟨z0,z1⟩,f0,f2⟩:=Sep.c2 (Sep.pk [_,_,_] T0.out);have hd:decide ((ix:Int)< (n.ss.length:Int))=false:=by simp;omega
   have hd2:decide (ix<n.ss.length)=false:=by simp;omega
   have HE:Hid (ik n.ss ix tt=tt):=by show _=_;unfold ik;rw[if_neg fun h=>hl h.1]
   have SF:Hid (Sep B w0 ((u0.drew.setCell ⟨q3,0,none⟩ (.string fr)).setCell ⟨q3,1,none⟩ (.string tt)) (Pl P::ax q1 (.cells #[.string fr,.string tt] 112)::ax q2 (.cells #[.bool n.leaf,.slice ae n.es.length ce,.slice ak n.ks.length ck,.slice az n.ss.length cz] 184)::ax q3 (.cells #[.string fr,.string tt] 112)::l)):=Sep.pb [_,_,_] (((Sep.pk [_,_,_] T0.out).dw 0 _).dw 1 _);clear T0 hl
   go_region
   generalize u0.drew=u1 at*;go_wp2;generalize World.setCell _ _ _=u2 at*;clear x0 x1 g0 g1 y0 y1 y2 y3 z0 z1 f0 f2;obtain⟨_,⟨z0,z1⟩,_⟩:=Sep.c2 (Sep.pk [_,_,_] SF.out);refine bodyPost_ret (v:=.agg #[.string fr,.string tt]) ?_ rfl ⟨by rw[HE.out],Sep.drop (Sep.kh (Sep.drop (Sep.kh (Sep.drop (Sep.kh SF.out)))))⟩;rw[N.bC rfl];go_simp
end
end
section
open N (Nd nd0 cE dx dZ ji gp Sm dy jh En bp bf hidR ar ai Ch aP ah waits)
section
variable {B:Nat}{w0 w:World}{l:List aN}{P:List NV}{C:Cx}{x:TX}{d d1:Dk}
def W7 (B:Nat)(w0:World)(C:Cx)(x:TX)(d:Dk)(P:List NV)(V:aN)(l:List aN)(b:Bool)(er:Int)(e:Ending)(w':World):Prop:=
 e=.returned (.tuple #[.bool b,.int .i64 er])∧∃P' d',(∀y∈P,y∈P')∧bI d d'∧Sep B w0 w' (TL C x d' P' (V::l))
def W8 {σ:Type}(B:Nat)(w0:World)(C:Cx)(x:TX)(fy:Nat)(cy:Array Value)(st:σ->En->σ×Bool)(U:σ->aN)(m:σ->Nat)(Nm:Nat):Prop:=
 ∀(w:World) (d:Dk) (P:List NV) (l:List aN) (s:σ) (y:En),m (st s y).1<=Nm->Sep B w0 w (TL C x d P (U s::l))->
  Calls Tryz.prog fy (#[.agg #[.string y.1,.string y.2]]++cy) w fun e w'=>e=.returned (.bool (st s y).2)∧Sep B w0 w' (TL C x d P (U (st s y).1::l))
def JEY (B:Nat)(w0:World)(C:Cx)(x:TX)(d dc:Dk)(Pc:List NV)(U1 U2:aN)(l:List aN)(f10:Bool)(w:World):Prop:=
 (f10=false->Sep B w0 w (TL C x dc Pc (U1::l)))∧(f10=true->∃P' d',(∀y∈Pc,y∈P')∧bI d d'∧Sep B w0 w (TL C x d' P' (U2::l)))
def Y5 (B:Nat)(w0:World)(CC:Cx)(x:TX)(d dc:Dk)(Pc:List NV)(U1 U2:aN)(l:List aN)(b1:Bool)(e1:Int)(q8 Cv L9 r ro TF ck ii:Nat)(kid dp:Int)(fa ta fb tb:ByteArray)(cs:Array Value)(fy:Nat)(cy:Array Value){y1 y3 y5 y6 y7 y8 y9 wE sK y13 tW pN pO sN y22 y23 y24 y25 yJ y27 y28 y29 yK y31 y32 wK y34 ua ub wL y38 y39 yL yM yN yO Ex Ey Ez EA EB EC AG AH AJ AK AL AO Ic Md Me Mf Mg Mh QS QT Mp Mq Mr Ms Mt Mu Mv Mw Mx My Mz MD QM QN QO y93 Ie y95 y96 Vg y98 y99:Value}(C:List Bool->Act->Prop)(w:World):Prop:=∀{f0 f1 f2 f3 f4 f5 f6 f7 f8 f9 f10 f11 f12 f13 f14 f15:Bool}{x20 j8 AP x80 x81 x82 x83 x84 x85 x86 x87 x88 x89 x90 x91 W9:Value},f15=false->JEY B w0 CC x d dc Pc U1 U2 (ax q8 (.cells #[.string fb,.string tb] 112)::ax Cv (.cells cs 184)::ax L9 (.cells #[.string fa,.string ta] 112)::l) f10 w->Hid (f0=true->x80=ptr CC.tq)->Hid (f1=true->x81=.pointer (some ⟨Cv,2,none⟩))->Hid (f2=true->x82=.slice (some ⟨r,ro,none⟩) TF ck)->Hid (f3=true->x83=.int .i64 (ii:Int))->Hid (f4=true->f2=true∧x84=.pointer (some ⟨r,ro+ii,none⟩))->Hid (f5=true->f4=true∧x85=.int .i64 kid)->Hid (f6=true->x86=.int .i64 dp)->Hid (f7=true->x87=.int .i64 (dp+1))->Hid (f8=true->x88=.agg #[.string fa,.string ta])->Hid (f9=true->x89=.func (.func fy) #[] cy)->Hid (f10=true->f2=true∧f5=true∧f8=true∧x90=.tuple #[.bool b1,.int .i64 e1])->Hid (f11=true->f10=true∧AP=.tuple #[.bool b1,.int .i64 e1])->Hid (f12=true->f10=true∧x91=.bool b1)->Hid (f13=true->f10=true∧W9=.int .i64 e1)->Hid (f14=true->f10=true∧x20=.bool b1)->C [f0,f1,f2,f3,f4,f5,f6,f7,f8,f9,f10,f11,f12,f13,f14,f15] {tmps:=#[ptr CC.tq,y1,.int .i64 dp,y3,.func (.func fy) #[] cy,y5,y6,y7,y8,y9,wE,sK,.pointer (some ⟨Cv,0,none⟩),y13,tW,pN,pO,sN,.int .i64 (ii:Int),.pointer (some ⟨L9,0,none⟩),x20,j8,y22,y23,y24,y25,yJ,y27,y28,y29,yK,y31,y32,wK,y34,ua,ub,wL,y38,y39,yL,yM,yN,yO,Ex,Ey,Ez,EA,EB,EC,AG,AH,AJ,AK,AL,AO,Ic,Md,Me,Mf,Mg,Mh,QS,QT,Mp,Mq,Mr,Ms,Mt,Mu,Mv,Mw,Mx,My,Mz,MD,QM,QN,QO,AP,x80,x81,x82,x83,x84,x85,x86,x87,x88,x89,x90,x91,W9,y93,Ie,y95,y96,Vg,y98,y99],defers:=[]}
theorem VQ {σ:Type}{st:σ->En->σ×Bool}{m:σ->Nat}{Nm:Nat}{U:σ->aN}{fy:Nat}{cy:Array Value}(T:cd B w0)(hr:d.room<=16384)(ok:x.Ok d.room)(hz:x.Sz)(EY:∀args w,(callFunc fy args).run Tryz.prog w=.ok (.enter fy args) w)(hu:W8 B w0 C x fy cy st U m Nm)(hm:∀s e,m s<=m (st s e).1):
  ∀(f:Nat) (w:World) (d1:Dk) (P:List NV) (l:List aN) (s s':σ) (id depth:Int) (fr tt:ByteArray) (b:Bool) (er:Int),Wf id->0<=depth->bI d d1->fW x d st f s id depth fr tt=some (s',(b,er))->m s'<=Nm->Sep B w0 w (TL C x d1 P (U s::l))->
  Calls Tryz.prog 91 #[ptr C.tq,.int .i64 id,.int .i64 depth,.agg #[.string fr,.string tt],.func (.func fy) #[] cy] w (W7 B w0 C x d P (U s') l b er):=by
 intro f
 induction f with
 |zero=>intro w d1 P l s s' id depth fr tt b er _ _ _ he;cases he
 |succ f ih=>
 intro w d1 P l s s' id depth fr tt b er hw hd0 hd he hN h;have HU:Hid (W8 B w0 C x fy cy st U m Nm):=hu;have HM:Hid (∀s e,m s<=m (st s e).1):=hm;have HN:Hid (m s'<=Nm):=hN;have HD:Hid (bI d d1):=hd;have IH:Hid (∀(w:World) (d1:Dk) (P:List NV) (l:List aN) (s s':σ) (id depth:Int) (fr tt:ByteArray) (b:Bool) (er:Int),Wf id->0<=depth->bI d d1->fW x d st f s id depth fr tt=some (s',(b,er))->m s'<=Nm->Sep B w0 w (TL C x d1 P (U s::l))->Calls Tryz.prog 91 #[ptr C.tq,.int .i64 id,.int .i64 depth,.agg #[.string fr,.string tt],.func (.func fy) #[] cy] w (W7 B w0 C x d P (U s') l b er)):=ih;have S1:Hid (Sep B w0 (w.alloc (.cells #[.string fr,.string tt] 112)) _):=Sep.tH (h.aQ _);have KR:Hid (∀u L,Sep B w0 u (TL C x d1 P L)->Calls Tryz.prog 123 #[ptr C.tq,.int .i64 id,.int .i64 depth] u (GN B w0 C x d1 P L 2 (dL x d id depth).1 (dL x d id depth).2)):=fun u L hu=>by
  have:=wR (id:=id) (depth:=depth) T hu hw (by rw[hd.room];exact ok) (by rw[hd.room];exact hr) hz
  rwa [hd.dL]at this
 have HD0:Hid (0<=depth):=hd0;rw[fW]at he;clear h hu hm hN hd ih hw hd0 T hr ok hz;generalize dL x d id depth=rr at*;obtain⟨n0,e0⟩:=rr;simp only at KR he;have HE:Hid (_=some (s',(b,er))):=he;clear he;go_enter Tryz.func91,Tryz.ntmps91
 go_wp2_with fail
 generalize World.alloc _ _=v1 at*;generalize w.heap.size=q8 at*;refine Calls.mono (KR.out _ _ S1.out) ?_;rintro e v2 ⟨p,d2,hn0,rfl,hd2,s2⟩;subst hn0;unfold NV.v;have D2:Hid (bI d d2):=HD.out.trans ⟨_,hd2⟩;have S2:Hid (Sep B w0 (v2.alloc (.cells #[.bool p.n.leaf,.slice p.ae p.n.es.length p.ce,.slice p.ak p.n.ks.length p.ck,.slice p.az p.n.ss.length p.cz] 184)) (TL C x d2 (p::P) (U s::ax q8 (.cells #[.string fr,.string tt] 112)::ax v2.heap.size (.cells #[.bool p.n.leaf,.slice p.ae p.n.es.length p.ce,.slice p.ak p.n.ks.length p.ck,.slice p.az p.n.ss.length p.cz] 184)::l))):=Sep.oC (Sep.aZ s2 _ _ rfl);clear KR hd2 s2 S1 HD;by_cases TK:e0≠0
 ·have hE:=HE.out;rw[if_pos TK]at hE;obtain⟨ha,hb,hc⟩:s=s'∧false=b∧e0=er:=by
   cases hE;exact⟨rfl,rfl,rfl⟩
  subst ha hb hc;have hne:(e0 != 0)=true:=bne_iff_ne.2 TK;clear hE TK HE;go_wp2;go_ret2;exact⟨rfl,p::P,d2,fun y hy=>List.mem_cons_of_mem _ hy,D2.out,Sep.drop (Sep.dS (Sep.drop (Sep.dS (S2.out))))⟩
 ·have hE:=HE.out;rw[if_neg TK]at hE;have ez:e0=0:=Classical.not_not.1 TK;subst ez;by_cases hg:(cB p.n&&dx p.n)=false∨1000<depth
  ·rw[if_pos hg]at hE;cases hE
  rw[if_neg hg]at hE;have hg2:cB p.n=true∧dx p.n=true∧depth<=1000:=by
   refine⟨?_,?_,by omega⟩
   ·cases hx:cB p.n
    ·exact absurd (.inl (by rw[hx];rfl)) hg
    ·rfl
   ·cases hx:dx p.n
    ·exact absurd (.inl (by rw[hx,Bool.and_false])) hg
    ·rfl
  obtain⟨hsm,hrt,hdp⟩:=hg2;obtain⟨kZ,VR,VS,_,hwk⟩:=fe hsm;have hrg:N.Rg p.n.es:=by
   cases hl:p.n.leaf with
   |true=>exact((N.fR hl).1 hrt).2.2
   |false=>rw[((N.fE hl).1 hrt).1];exact⟨List.Pairwise.nil,fun _ h=>by cases h⟩
  have HRG:Hid (N.Rg p.n.es):=hrg;have Dm:Hid (Sm p.n∧∀k∈p.n.ks,Wf k):=⟨kZ,hwk⟩;have SL:Hid (p.n.es.length<=500∧p.n.ks.length<=500∧0<=depth∧depth<=1000):=⟨VS,VR,HD0.out,hdp⟩;clear HE TK hg hsm hrt hdp kZ VR VS hwk hrg HD0;have NF:Hid (_=some (s',(b,er))):=hE;clear hE
  go_upto_region 4 with fail
  generalize World.alloc _ _=v3 at*;generalize v2.heap.size=Cv at*;obtain⟨ae,ce,ak,ck,az,cz,n⟩:=p;simp only at*;have SN:Hid ((⟨ae,ce,ak,ck,az,cz,n⟩:NV)∈(⟨ae,ce,ak,ck,az,cz,n⟩:NV)::P∧∀y∈P,y∈(⟨ae,ce,ak,ck,az,cz,n⟩:NV)::P):=⟨List.mem_cons_self ..,fun y hy=>List.mem_cons_of_mem _ hy⟩;generalize hPP:(⟨ae,ce,ak,ck,az,cz,n⟩:NV)::P=PP at*;clear hPP;have KF:Hid _:=N.mI (.slice ae n.es.length ce) n.es fr v3 (Sep.pool (Sep.A7 S2.out) _ SN.out.1).e (by have:=SL.out;omega);obtain⟨_,⟨x0,x1⟩,_⟩:=Sep.c2 (Sep.dS (S2.out));obtain⟨_,⟨y0,y1,y2,y3⟩,_⟩:=Sep.c4 (Sep.cR (S2.out))
  go_wp2_with fail
  refine Calls.mono KF.out ?_;rintro e v4 ⟨i0,ff,rfl,hf,b4⟩;have hi1:=(hf.2.2 HRG.out).1;have hi2:=hf.1;have S4:Hid _:=S2.out.below b4;clear S2 b4 x0 x1 y0 y1 y2 y3 KF hf HRG;rw[<-hi1]at NF;clear hi1;have RS:Hid (∀u,(Instr.slice 55 (.slice ae n.es.length ce) (some (.int .i64 (i0:Int))) none none).run Tryz.prog u=.ok (.slice (if ce=i0 then ae else ae.map (·.add (i0*2))) (n.es.length-i0) (ce-i0)) u):=fun u=>N.vN ae n.es.length ce i0 hi2 u;have RR:Hid (∀u L,Sep B w0 u (TL C x d2 PP L)->N.Row N.aG 2 u (.slice (if ce=i0 then ae else ae.map (·.add (i0*2))) (n.es.length-i0) (ce-i0)) (n.es.drop i0)):=fun u L hu=>N.Row.Zk (Sep.pool (Sep.A7 hu) _ SN.out.1).e i0 hi2;rw[show n.es.length-i0=(n.es.drop i0).length by rw[List.length_drop]]at RS RR;have hLl:(n.es.drop i0).length<=500:=by rw[List.length_drop];have:=SL.out;omega
  generalize n.es.drop i0=L at*;generalize(if ce=i0 then ae else ae.map (·.add (i0*2)))=aS at*;generalize ce-i0=cS at*;have HL5:Hid (L.length<=500):=hLl;have Y6:(i0:Int)<=(n.es.length:Int):=by omega
  clear hLl hi2;obtain⟨_,⟨y0,y1,y2,y3⟩,_⟩:=Sep.c4 (Sep.cR (S4.out));have RSv:=RS.out v4;go_wp2;clear y0 y1 y2 y3 RSv RS Y6
  go_loopg [45] L.length (fun kx s45 wr=>∃(j:Nat) (sj:σ),s45=.int .i64 (j:Int)∧j<=L.length∧L.length-j<=kx∧Hid (wX st tt L s=wX st tt (L.drop j) sj)∧Hid (Sep B w0 wr (TL C x d2 PP (U sj::ax q8 (.cells #[.string fr,.string tt] 112)::ax Cv (.cells #[.bool n.leaf,.slice ae n.es.length ce,.slice ak n.ks.length ck,.slice az n.ss.length cz] 184)::l))))
  case atStart=>exact⟨0,s,rfl,Nat.zero_le _,Nat.le_refl _,(by show _=_;rw[List.drop_zero]),S4.out⟩
  case round=>
   clear S4;obtain⟨j,sj,rfl,hj,hjx,HJ,HS⟩:=hrel;by_cases hlt:j<L.length
   ·have Bq:(j:Int)< (L.length:Int):=by omega
    obtain⟨dJ,cap',e',_,_,h3⟩:=RR.out _ _ HS.out;obtain⟨rb,VT,hae,hrb,z0,z1⟩:=N.ew h3 j hlt (Below.refl _ _);have e2:aS=dJ:=by injection e'
    subst hae;subst e2;have hJ:=HJ.out;rw[N.nV hlt,wX]at hJ;have hwj:IntKind.i64.wrap ((j:Int)+1)=((j+1:Nat):Int):=by rw[bR (by omega) (by have:=HL5.out;omega)];rfl
    have HB1:Hid (m (wX st tt L s).1<=Nm):=by
     have h1:=NF.out;show _<=_;refine Nat.le_trans ?_ HN.out;split at h1
     ·cases h1;exact Nat.le_refl _
     ·exact kQ (fun s k f' t s' r hh=>oG HM.out x d f s k (depth+1) f' t s' r hh) _ _ _ _ _ _ _ _ h1
    generalize kO:L[j]! =y at*;clear kO h3 e' HJ;have S5:Hid (Sep B w0 (wr.alloc (.cells #[.string y.1,.string y.2] 49)) _):=Sep.xH (HS.out.aQ _);have HJ2:Hid (_=_):=hJ;clear hJ HS
    go_upto_region 8 with fail
    clear z0 z1 hrb;generalize World.alloc _ _=v5 at*;generalize wr.heap.size=q17 at*;obtain⟨_,⟨x0,x1⟩,_⟩:=Sep.c2 (Sep.dS (S5.out));obtain⟨_,⟨z0,z1⟩,_⟩:=Sep.c2 (Sep.eN (S5.out))
    go_wp2_with fail
    refine Calls.mono (qV S5.out) ?_;rintro e v6 ⟨rfl,s6⟩;have S6:Hid _:=s6;clear x0 x1 z0 z1 s6 S5;by_cases hh:bF tt y.1=false
    ·have hJ:=HJ2.out;rw[if_pos hh]at hJ;have h1:=NF.out;rw[hJ]at h1;obtain⟨ha,hb,hc⟩:sj=s'∧true=b∧0=er:=by
      cases h1;exact⟨rfl,rfl,rfl⟩
     subst ha hb hc;clear hJ h1 NF HJ2 HB1;rw[hh];go_wp2;go_ret2;exact⟨rfl,PP,d2,SN.out.2,D2.out,Sep.drop (Sep.dS (Sep.drop (Sep.dS (Sep.drop (Sep.dS (S6.out))))))⟩
    ·have VX:bF tt y.1=true:=by simpa using hh
     have hJ:=HJ2.out;rw[if_neg hh]at hJ;have hbd:m (st sj y).1<=Nm:=by
      have h1:=HB1.out;rw[hJ]at h1;refine Nat.le_trans ?_ h1;split
      ·exact Nat.le_refl _
      ·exact qM HM.out tt _ _
     have KU:Hid _:=HU.out v6 d2 PP _ sj y hbd S6.out;obtain⟨_,⟨z0,z1⟩,_⟩:=Sep.c2 (Sep.eN (S6.out));have VY:Hid (_=_):=hJ;clear hJ HJ2 HB1 hbd S6 hh;rw[VX];clear VX;generalize st sj y=sy at*;obtain⟨s2,b2⟩:=sy;simp only at KU VY
     go_wp2_with fail
     refine Calls.mono KU.out ?_;rintro e v7 ⟨rfl,s7⟩;have S7:Hid _:=s7;clear z0 z1 s7 KU;cases b2 with
     |false=>
      have hJ:=VY.out;rw[if_pos rfl]at hJ;have h1:=NF.out;rw[hJ]at h1;obtain⟨ha,hb,hc⟩:s2=s'∧false=b∧0=er:=by
       cases h1;exact⟨rfl,rfl,rfl⟩
      subst ha hb hc;clear hJ h1 NF VY;go_wp2;go_ret2;exact⟨rfl,PP,d2,SN.out.2,D2.out,Sep.drop (Sep.dS (Sep.drop (Sep.dS (Sep.drop (Sep.dS (S7.out))))))⟩
     |true=>
      have hJ:=VY.out;rw[if_neg (by simp)]at hJ;have HJ4:Hid (wX st tt L s=wX st tt (L.drop (j+1)) s2):=hJ;clear hJ VY;go_wp2
      go_roundg (L.length- (j+1))
      case measure=>omega
      case rel=>exact⟨j+1,s2,by go_num,by omega,Nat.le_refl _,HJ4.out,Sep.oC (Sep.tH (Sep.dS (Sep.cR (Sep.drop (Sep.eN (S7.out))))))⟩
   ·have Bq:¬(j:Int)< (L.length:Int):=by omega
    obtain rfl:j=L.length:=by omega
    have hJ:=HJ.out;rw[List.drop_length,wX]at hJ;have hE:=NF.out;rw[hJ]at hE;have HE2:Hid (ja (fun s id fr tt=>fW x d st f s id (depth+1) fr tt) n fr tt (n.ks.length-dy n.ss fr) (dy n.ss fr) sj=some (s',(b,er))):=hE;have KC:Hid _:=N.oy n fr (.slice ae n.es.length ce) (.slice ak n.ks.length ck) (.slice az n.ss.length cz) wr (Sep.pool (Sep.A7 HS.out) _ SN.out.1) Dm.out.1;obtain⟨_,⟨x0,x1⟩,_⟩:=Sep.c2 (Sep.dS (HS.out));obtain⟨_,⟨y0,y1,y2,y3⟩,_⟩:=Sep.c4 (Sep.cR (HS.out));clear hJ hE HJ NF RR;generalize dy n.ss fr=c0 at*
    go_wp2_with fail
    refine Calls.mono KC.out ?_;rintro e v8 ⟨rfl,b8⟩;have S8:Hid _:=HS.out.below b8;clear KC b8 HS x0 x1 y0 y1 y2 y3;go_wp2
    go_loopg [18] n.ks.length (fun kx Xs wr=>∃(ii:Nat) (si:σ) (Pc:List NV) (dc:Dk),Xs=.int .i64 (ii:Int)∧n.ks.length-ii<=kx∧Hid (ja (fun s id fr tt=>fW x d st f s id (depth+1) fr tt) n fr tt (n.ks.length-ii) ii si=some (s',(b,er)))∧Hid ((⟨ae,ce,ak,ck,az,cz,n⟩:NV)∈Pc∧∀y∈P,y∈Pc)∧Hid (bI d dc)∧Hid (Sep B w0 wr (TL C x dc Pc (U si::ax q8 (.cells #[.string fr,.string tt] 112)::ax Cv (.cells #[.bool n.leaf,.slice ae n.es.length ce,.slice ak n.ks.length ck,.slice az n.ss.length cz] 184)::l))))
    case atStart=>exact⟨c0,sj,PP,d2,rfl,by omega,HE2.out,SN.out,D2.out,S8.out⟩
    case round=>
     clear S8 HE2 D2 SN;obtain⟨ii,si,Pc,dc,rfl,hix,HE2,ui,HD,HS⟩:=hrel;by_cases hlt:ii<n.ks.length
     ·have Bq:(ii:Int)< (n.ks.length:Int):=by omega
      obtain⟨g,Vi⟩:∃g,n.ks.length-ii=g+1:=⟨n.ks.length-ii-1,by omega⟩;have hE:=HE2.out;rw[Vi,ja]at hE;by_cases hss:n.ss.length<ii
      ·rw[if_pos hss]at hE;cases hE
      rw[if_neg hss]at hE;have KP:Hid _:=JH (fr:=fr) (tt:=tt) (ix:=ii) (Sep.A7 HS.out) ui.out.1 (by simp only;omega) (by have:=Dm.out.1.s;omega);obtain⟨r,ro,hak,_,_⟩:=NV.kid (p:=⟨ae,ce,ak,ck,az,cz,n⟩) (Sep.pool (Sep.A7 HS.out) _ ui.out.1) (i:=ii) hlt;simp only at hak;subst hak;have YW:Hid (Wf (n.ks.getD ii 0)):=by
       refine Dm.out.2 _ ?_;rw[List.getD_eq_getElem?_getD,List.getElem?_eq_getElem hlt];exact List.getElem_mem _
      have VZ:Hid (ii<n.ks.length):=hlt;have HG:Hid (n.ks.length-ii=g+1):=Vi;generalize km n.ss ii fr=fa at*;generalize ik n.ss ii tt=ta at*;obtain⟨_,⟨x0,x1⟩,_⟩:=Sep.c2 (Sep.dS (HS.out));obtain⟨_,⟨y0,y1,y2,y3⟩,_⟩:=Sep.c4 (Sep.cR (HS.out));have FD:Hid (_=some (s',(b,er))):=hE;clear hE HE2 hss Vi hlt HS;simp only at KP
      go_wp2_with fail
      clear x0 x1 y0 y1 y2 y3;refine Calls.mono KP.out ?_;rintro e v8 ⟨rfl,s8⟩;have S8:Hid (Sep B w0 (v8.alloc (.cells #[.string fa,.string ta] 112)) (TL C x dc Pc (U si::ax q8 (.cells #[.string fr,.string tt] 112)::ax Cv (.cells #[.bool n.leaf,.slice ae n.es.length ce,.slice (some ⟨r,ro,none⟩) n.ks.length ck,.slice az n.ss.length cz] 184)::ax v8.heap.size (.cells #[.string fa,.string ta] 112)::l))):=Sep.xH (Sep.aZ (Sep.pb3 s8) _ _ rfl);clear s8 KP
      go_upto_region 17 with fail
      generalize World.alloc _ _=v9 at*;generalize v8.heap.size=L9 at*;obtain⟨_,⟨x0,x1⟩,_⟩:=Sep.c2 (Sep.eN (S8.out))
      go_wp2_with fail
      refine Calls.mono (qV S8.out) ?_;rintro e v10 ⟨rfl,s9⟩;have S9:Hid _:=s9;clear x0 x1 s9 S8;by_cases hh:bF ta fa=false
      ·have hE:=FD.out;rw[if_pos hh]at hE;obtain⟨ha,hb,hc⟩:si=s'∧true=b∧0=er:=by
        cases hE;exact⟨rfl,rfl,rfl⟩
       subst ha hb hc;clear hE FD;rw[hh];go_wp2;go_ret2;exact⟨rfl,Pc,dc,ui.out.2,HD.out,Sep.drop (Sep.dS (Sep.drop (Sep.dS (Sep.drop (Sep.dS (S9.out))))))⟩
      ·have VX:bF ta fa=true:=by simpa using hh
       have hE:=FD.out;rw[if_neg hh]at hE;clear FD hh;rw[VX];clear VX;have MX:Hid _:=ui.out.1;generalize wV:n.ks.getD ii 0=kid at*;have YX:Hid (n.ks.getD ii 0=kid):=wV;have HWD:Hid (IntKind.i64.wrap (depth+1)=depth+1):=bR (by have:=SL.out;omega) (by have:=SL.out;omega);cases hrec:fW x d st f si kid (depth+1) fa ta with
       |none=>rw[hrec]at hE;cases hE
       |some rs=>
        obtain⟨s1,b1,e1⟩:=rs;rw[hrec]at hE;simp only at hE;have hb1:m s1<=Nm:=by
         refine Nat.le_trans ?_ HN.out;split at hE
         ·cases hE;exact Nat.le_refl _
         ·exact kQ (fun s k f' t s' r hh=>oG HM.out x d f s k (depth+1) f' t s' r hh) _ _ _ _ _ _ _ _ hE
        have KI:Hid (∀u,Sep B w0 u (TL C x dc Pc (U si::ax q8 (.cells #[.string fr,.string tt] 112)::ax Cv (.cells #[.bool n.leaf,.slice ae n.es.length ce,.slice (some ⟨r,ro,none⟩) n.ks.length ck,.slice az n.ss.length cz] 184)::ax L9 (.cells #[.string fa,.string ta] 112)::l))->Calls Tryz.prog 91 #[ptr C.tq,.int .i64 kid,.int .i64 (depth+1),.agg #[.string fa,.string ta],.func (.func fy) #[] cy] u (W7 B w0 C x d Pc (U s1) (ax q8 (.cells #[.string fr,.string tt] 112)::ax Cv (.cells #[.bool n.leaf,.slice ae n.es.length ce,.slice (some ⟨r,ro,none⟩) n.ks.length ck,.slice az n.ss.length cz] 184)::ax L9 (.cells #[.string fa,.string ta] 112)::l) b1 e1)):=fun u hu=>IH.out u dc Pc _ si s1 kid (depth+1) fa ta b1 e1 YW.out (by have:=SL.out;omega) HD.out hrec hb1 hu;have FD:Hid (_=some (s',(b,er))):=hE;clear hE hrec hb1 wV
        go_wp2_with fail
        refine bf 15 (Y5 B w0 C x d dc Pc (U si) (U s1) l b1 e1 q8 Cv L9 r ro n.ks.length ck ii kid depth fa ta fr tt #[.bool n.leaf,.slice ae n.es.length ce,.slice (some ⟨r,ro,none⟩) n.ks.length ck,.slice az n.ss.length cz] fy cy) (by kernel_rfl) (by kernel_rfl) (by kernel_rfl) (fun _ k=>k rfl ⟨fun _=>Sep.drew S9.out,(fun h=>by cases h)⟩ ar ar ar ar ar ar ar ar ar ar ar ar ar ar ar) ?_ ?_ ?_
        ·intro i w' hne f0 f1 f2 f3 f4 f5 f6 f7 f8 f9 f10 f11 f12 f13 f14 f15 x20 j8 AP x80 x81 x82 x83 x84 x85 x86 x87 x88 x89 x90 x91 W9 e15 hB h0 h1 h2 h3 h4 h5 h6 h7 h8 h9 h10 h11 h12 dI fJ hi;obtain⟨hlt,hun,_⟩:=aP hi;have hlt':i<16:=hlt;clear hlt;rcases(by omega:i=0∨i=1∨i=2∨i=3∨i=4∨i=5∨i=6∨i=7∨i=8∨i=9∨i=10∨i=11∨i=12∨i=13∨i=14)with rfl|rfl|rfl|rfl|rfl|rfl|rfl|rfl|rfl|rfl|rfl|rfl|rfl|rfl|rfl
         ·refine ai rfl fun K HK=>?_;go_simp;exact HK.out _ _ fun _ k=>by apply k<;>first|assumption|exact hidR|(repeat' first|apply Exists.intro|assumption|rfl|apply And.intro|exact fun _=>rfl)
         ·refine ai rfl fun K HK=>?_;go_simp;exact HK.out _ _ fun _ k=>by apply k<;>first|assumption|exact hidR|(repeat' first|apply Exists.intro|assumption|rfl|apply And.intro|exact fun _=>rfl)
         ·have un:f2=false:=hun;cases h1 (ah 1 hi (by kernel_rfl));have n10:f10=false:=by
           cases hf:f10
           ·rfl
           ·exact absurd (h10.out hf).1 (by rw[un];simp)
          obtain⟨_,⟨y0,y1,y2,y3⟩,_⟩:=Sep.c4 (Sep.cR (hB.1 n10));refine ai rfl fun K HK=>?_;go_simp;exact HK.out _ _ fun _ k=>k e15 hB h0 h1 hidR h3 (fun d=>by have e:=(h4.out d).1;rw[un]at e;cases e) h5 h6 h7 h8 h9 (fun d=>by have e:=(h10.out d).1;rw[un]at e;cases e) h11 h12 dI fJ
         ·refine ai rfl fun K HK=>?_;go_simp;exact HK.out _ _ fun _ k=>by apply k<;>first|assumption|exact hidR|(repeat' first|apply Exists.intro|assumption|rfl|apply And.intro|exact fun _=>rfl)
         ·have un:f4=false:=hun;have d2:f2=true:=ah 2 hi (by kernel_rfl);cases h2 d2;cases h3 (ah 3 hi (by kernel_rfl));have hil:(ii:Int)< (n.ks.length:Int):=by have:=VZ.out;omega
          refine ai rfl fun K HK=>?_;go_simp;exact HK.out _ _ fun _ k=>k e15 hB h0 h1 h2 h3 (fun _=>⟨d2,rfl⟩) (fun d=>by have e:=(h5.out d).1;rw[un]at e;cases e) h6 h7 h8 h9 h10 h11 h12 dI fJ
         ·have un:f5=false:=hun;have d4:f4=true:=ah 4 hi (by kernel_rfl);obtain⟨_,rfl⟩:=h4.out d4;have n10:f10=false:=by
           cases hf:f10
           ·rfl
           ·exact absurd (h10.out hf).2.1 (by rw[un];simp)
          obtain⟨z1,z2,hz3,hzs,hzc⟩:=NV.kid (p:=(⟨ae,ce,some ⟨r,ro,none⟩,ck,az,cz,n⟩:NV)) (Sep.pool (Sep.A7 (hB.1 n10)) _ MX.out) (i:=ii) VZ.out;cases hz3;simp only at hzc;rw[YX.out]at hzc;refine ai rfl fun K HK=>?_;go_simp;exact HK.out _ _ fun _ k=>k e15 hB h0 h1 h2 h3 h4 (fun _=>⟨d4,rfl⟩) h6 h7 h8 h9 (fun d=>by have e:=(h10.out d).2.1;rw[un]at e;cases e) h11 h12 dI fJ
         ·refine ai rfl fun K HK=>?_;go_simp;exact HK.out _ _ fun _ k=>by apply k<;>first|assumption|exact hidR|(repeat' first|apply Exists.intro|assumption|rfl|apply And.intro|exact fun _=>rfl)
         ·cases h6 (ah 6 hi (by kernel_rfl));have wd:=HWD.out;refine ai rfl fun K HK=>?_;go_simp;exact HK.out _ _ fun _ k=>by apply k<;>first|assumption|exact hidR|(repeat' first|apply Exists.intro|assumption|rfl|apply And.intro|exact fun _=>rfl)
         ·have un:f8=false:=hun;have n10:f10=false:=by
           cases hf:f10
           ·rfl
           ·exact absurd (h10.out hf).2.2.1 (by rw[un];simp)
          obtain⟨_,⟨y0,y1⟩,_⟩:=Sep.c2 (Sep.eN (hB.1 n10));refine ai rfl fun K HK=>?_;go_simp;exact HK.out _ _ fun _ k=>k e15 hB h0 h1 h2 h3 h4 h5 h6 h7 hidR h9 (fun d=>by have e:=(h10.out d).2.2.1;rw[un]at e;cases e) h11 h12 dI fJ
         ·refine ai rfl fun K HK=>?_;go_simp;exact HK.out _ _ fun _ k=>by apply k<;>first|assumption|exact hidR|(repeat' first|apply Exists.intro|assumption|rfl|apply And.intro|exact fun _=>rfl)
         ·have un:f10=false:=hun;cases h0 (ah 0 hi (by kernel_rfl));have d5:f5=true:=ah 5 hi (by kernel_rfl);obtain⟨_,rfl⟩:=h5.out d5;cases h7 (ah 7 hi (by kernel_rfl));have d8:f8=true:=ah 8 hi (by kernel_rfl);cases h8 d8;cases h9 (ah 9 hi (by kernel_rfl));refine ai rfl fun K HK=>?_;go_simp;refine Calls.mono (KI.out _ (hB.1 un)) ?_;rintro e u4 ⟨rfl,s4⟩;exact HK.out _ _ fun _ k=>k e15 ⟨(fun h=>by cases h),fun _=>s4⟩ h0 h1 h2 h3 h4 h5 h6 h7 h8 h9 (fun _=>⟨(h4.out (h5.out d5).1).1,d5,d8,rfl⟩) (fun d=>by have e:=(h11.out d).1;rw[un]at e;cases e) (fun d=>by have e:=(h12.out d).1;rw[un]at e;cases e) (fun d=>by have e:=(dI.out d).1;rw[un]at e;cases e) (fun d=>by have e:=(fJ.out d).1;rw[un]at e;cases e)
         ·have d10:f10=true:=ah 10 hi (by kernel_rfl);obtain⟨u2,u5,u8,rfl⟩:=h10.out d10;refine ai rfl fun K HK=>?_;go_simp;exact HK.out _ _ fun _ k=>k e15 hB h0 h1 h2 h3 h4 h5 h6 h7 h8 h9 h10 (fun _=>⟨d10,rfl⟩) h12 dI fJ
         ·have d11:f11=true:=ah 11 hi (by kernel_rfl);obtain⟨_,rfl⟩:=h11.out d11;have d10:f10=true:=(h11.out d11).1;refine ai rfl fun K HK=>?_;go_simp;exact HK.out _ _ fun _ k=>k e15 hB h0 h1 h2 h3 h4 h5 h6 h7 h8 h9 h10 h11 (fun _=>⟨d10,rfl⟩) dI fJ
         ·have d11:f11=true:=ah 11 hi (by kernel_rfl);obtain⟨_,rfl⟩:=h11.out d11;have d10:f10=true:=(h11.out d11).1;refine ai rfl fun K HK=>?_;go_simp;exact HK.out _ _ fun _ k=>k e15 hB h0 h1 h2 h3 h4 h5 h6 h7 h8 h9 h10 h11 h12 (fun _=>⟨d10,rfl⟩) fJ
         ·have d12:f12=true:=ah 12 hi (by kernel_rfl);obtain⟨_,rfl⟩:=h12.out d12;have d10:f10=true:=(h12.out d12).1;refine ai rfl fun K HK=>?_;go_simp;exact HK.out _ _ fun _ k=>k e15 hB h0 h1 h2 h3 h4 h5 h6 h7 h8 h9 h10 h11 h12 dI (fun _=>⟨d10,rfl⟩)
        ·intro w' f0 f1 f2 f3 f4 f5 f6 f7 f8 f9 f10 f11 f12 f13 f14 f15 x20 j8 AP x80 x81 x82 x83 x84 x85 x86 x87 x88 x89 x90 x91 W9 e15 hB h0 h1 h2 h3 h4 h5 h6 h7 h8 h9 h10 h11 h12 dI fJ hi;have d13:f13=true:=ah 13 hi (by kernel_rfl);obtain⟨_,rfl⟩:=dI.out d13;have d14:f14=true:=ah 14 hi (by kernel_rfl);obtain⟨_,rfl⟩:=fJ.out d14;clear hi;have u10:=(dI.out d13).1;refine ai rfl fun K HK=>?_;go_simp;refine HK.out _ _ ?_;obtain⟨P1,d3,hp1,hd3,s9⟩:=hB.2 u10;have Di:Hid _:=Sep.drop (Sep.eN (s9));have D3:Hid (bI d d3):=hd3;have M3:Hid ((⟨ae,ce,some ⟨r,ro,none⟩,ck,az,cz,n⟩:NV)∈P1∧∀y∈P,y∈P1):=⟨hp1 _ ui.out.1,fun y hy=>hp1 _ (ui.out.2 y hy)⟩;clear s9 hp1 hd3 h0 h1 h2 h3 h4 h5 h6 h7 h8 h9 h10 h11 h12 dI fJ hB u10;have wi:IntKind.i64.wrap ((ii:Int)+1)=((ii+1:Nat):Int):=by rw[bR (by have:=VZ.out;have:=SL.out;omega) (by have:=VZ.out;have:=SL.out;omega)];rfl
         by_cases hq:e1≠0∨b1=false
         ·have hE:=FD.out;rw[if_pos hq]at hE;obtain⟨ha,hb,hc⟩:s1=s'∧false=b∧e1=er:=by
           cases hE;exact⟨rfl,rfl,rfl⟩
          subst ha hb hc;clear hE FD;rcases Classical.em (e1=0)with h00|h00
          ·obtain rfl:b1=false:=by
            rcases hq with h|h
            ·exact absurd h00 h
            ·exact h
           subst h00;go_wp2;go_ret2;exact⟨rfl,P1,d3,M3.out.2,D3.out,Sep.drop (Sep.dS (Sep.drop (Sep.dS (Di.out))))⟩
          ·have hne:(e1 != 0)=true:=bne_iff_ne.2 h00;go_wp2;go_ret2;exact⟨rfl,P1,d3,M3.out.2,D3.out,Sep.drop (Sep.dS (Sep.drop (Sep.dS (Di.out))))⟩
         ·have hE:=FD.out;rw[if_neg hq]at hE;obtain⟨rfl,rfl⟩:e1=0∧b1=true:=by
           refine⟨?_,?_⟩
           ·rcases Classical.em (e1=0)with h|h
            ·exact h
            ·exact absurd (.inl h) hq
           ·cases hb1:b1
            ·exact absurd (.inr hb1) hq
            ·rfl
          have HE4:Hid (ja (fun s id fr tt=>fW x d st f s id (depth+1) fr tt) n fr tt g (ii+1) s1=some (s',(b,er))):=hE;clear hE FD hq;go_wp2
          go_roundg (n.ks.length- (ii+1))
          case measure=>have:=VZ.out;omega
          case rel=>exact⟨ii+1,s1,P1,d3,(by go_num),Nat.le_refl _,(by show _=_;rw[show n.ks.length- (ii+1)=g by have:=HG.out;omega];exact HE4.out),M3.out,D3.out,Di.out⟩
        ·intro _ _;intros;assumption
     ·have Bq:¬(ii:Int)< (n.ks.length:Int):=by omega
      have hE:=HE2.out;rw[show n.ks.length-ii=0 by omega,ja]at hE;obtain⟨ha,hb,hc⟩:si=s'∧true=b∧0=er:=by
       cases hE;exact⟨rfl,rfl,rfl⟩
      subst ha hb hc;obtain⟨_,⟨y0,y1,y2,y3⟩,_⟩:=Sep.c4 (Sep.cR (HS.out));clear hE HE2;go_wp2;go_ret2;exact⟨rfl,Pc,dc,ui.out.2,HD.out,Sep.drop (Sep.dS (Sep.drop (Sep.dS (HS.out))))⟩
end
end
section
section
variable {B:Nat}{w0 w w':World}{l:List aN}{e:TypeId}{k n:Nat}{v v':Value}{cs:List Value}
theorem vr {m:Nat}{news:List Value}(h:Sep B w0 w (RowK e k v n cs::l))(h2:w'.ownsRow 0 e k v' m news)(hg:w.grownBy w' v.ownBlock)(hloc:v'.ownBlock=v.ownBlock∨v'.ownBlock=some w.heap.size):Sep B w0 w' (RowK e k v' m news::l):=by
 refine h.step (fZ _ _ _ _ _) fun X hX=>⟨fun q=>v'.ownBlock=some q,⟨h2,fun q=>Iff.rfl⟩,df.grown hg (fun q hq=>(hX.2 q).2 hq),fun q hq=>?_⟩;rcases hloc with e1|e1
 ·exact .inl ((hX.2 q).2 (e1▸hq))
 ·rw[e1]at hq;exact .inr (Nat.le_of_eq (Option.some.inj hq))
variable {F:Fence}{nF:Nat}{ops:Array Oper}{rest:List Oper}{o:Oper}{a:Act}{Q:Exit->Act->World->Prop}{P:Program}{z:Value}{bytes:Nat}{t:TypeId}{r c m:Nat}{news:List Value}{s x:Operand}
theorem Br {r:Nat}{w:World}{ts:TypeId}{news:List Value}(h:w.heap[r]? =some (.cells news.toArray ts (0,0))):∀j u,news[j]? =some u->w.cell? ((⟨r,0,none⟩:Addr).add j)=some u:=fun j u hj=>by
 rw[Go.WideShapes.add_plain,Nat.zero_add];simp only[World.cell?,h];simpa using hj
theorem Y7 (hgd:o.guard=.none)(ho:o.op=.call {callee:=.builtin .append,args:=#[s,x],argTypes:=#[t,t]})(SQ:(P.info? e).map (fun i=>(i.zero,i.size,i.bytes))=some (some z,k,bytes))(ht:P.underlying t=some (.slice e))(hz:z.cells.size=k)(hk:0<k)(hby:bytes<=1000)
  (v:Value)(hs:a.eval s=v)(h:Sep B w0 w (RowK e k v n cs::l))(hx:a.eval x=.slice (some ⟨r,0,none⟩) 1 c)(hnews:∀j u,news[j]? =some u->w.cell? ((⟨r,0,none⟩:Addr).add j)=some u)(hlen:news.length=k)(h1:∀u∈news,u.oneCell'=true)(hn:n<1000000)
  (hK:∀ao c' w',Sep B w0 w' (RowK e k (.slice ao (n+1) c') (n+1) (cs++news)::l)->wpListIn F nF P ops Q rest (a.put o.dst (.slice ao (n+1) c')) w'):wpListIn F nF P ops Q (o::rest) a w:=by
 obtain⟨i0,hi,hz0,hz1,hz2⟩:=info_parts SQ;refine wpListIn_append_own_at w hgd s x t ho 0 e i0 z k bytes ht hi hz0 hz1 hz2 hz hk v n cs hs h.Je ⟨r,0,none⟩ 1 c news hx (by omega) hnews h1 (by unfold maxLen;omega) ?_ (Nat.zero_le _) ?_
 ·exact Nat.le_trans (Nat.mul_le_mul (show n+1<=1000000 by omega) hby) (by decide)
 ·intro v' w' g1 g2 _ g4;obtain⟨dJ,n',c',rfl⟩:∃ao n c,v'=.slice ao n c:=by
   rcases g1.2 with⟨h,_⟩| ⟨g,cap,cur,h,_⟩
   ·exact⟨_,_,_,h⟩
   ·exact⟨_,_,_,h⟩
  obtain rfl:n'=n+1:=by
   rcases g1.2 with⟨_,h⟩| ⟨g,cap,cur,h,_⟩
   ·omega
   ·cases h;rfl
  exact hK _ _ _ (vr h g1 g2 g4)
theorem SR (hgd:o.guard=.none)(ho:o.op=.call {callee:=.builtin .append,args:=#[s,x],argTypes:=#[t,t]})(SQ:(P.info? e).map (fun i=>(i.zero,i.size,i.bytes))=some (some z,k,bytes))(ht:P.underlying t=some (.slice e))(hz:z.cells.size=k)(hk:0<k)(hby:bytes<=1000)
  (v:Value)(hs:a.eval s=v)(h:Sep B w0 w (RowK e k v n cs::l))(hx:a.eval x=.slice (some ⟨r,0,none⟩) 1 c)(hnews:∀j u,news[j]? =some u->w.cell? ((⟨r,0,none⟩:Addr).add j)=some u)(hlen:news.length=k)(h1:∀u∈news,u.oneCell'=true)(hn:n<1000000)
  (hK:∀ao c' w',Sep B w0 w' (RowK e k (.slice ao (n+1) c') (n+1) (cs++news)::l)->wpList P ops Q rest (a.put o.dst (.slice ao (n+1) c')) w'):wpList P ops Q (o::rest) a w:=by
 obtain⟨i0,hi,hz0,hz1,hz2⟩:=info_parts SQ;refine wpList_append_own_at w hgd s x t ho 0 e i0 z k bytes ht hi hz0 hz1 hz2 hz hk v n cs hs h.Je ⟨r,0,none⟩ 1 c news hx (by omega) hnews h1 (by unfold maxLen;omega) ?_ (Nat.zero_le _) ?_
 ·exact Nat.le_trans (Nat.mul_le_mul (show n+1<=1000000 by omega) hby) (by decide)
 ·intro v' w' g1 g2 _ g4;obtain⟨dJ,n',c',rfl⟩:∃ao n c,v'=.slice ao n c:=by
   rcases g1.2 with⟨h,_⟩| ⟨g,cap,cur,h,_⟩
   ·exact⟨_,_,_,h⟩
   ·exact⟨_,_,_,h⟩
  obtain rfl:n'=n+1:=by
   rcases g1.2 with⟨_,h⟩| ⟨g,cap,cur,h,_⟩
   ·omega
   ·cases h;rfl
  exact hK _ _ _ (vr h g1 g2 g4)
end
section
variable {ops:Array Oper}{o:Oper}{a:Act}{K:Act->World->Prop}{Q:Exit->Act->World->Prop}{E:Prop}{B:Nat}{w0 w:World}{l:List aN}{P:Program}{e t:TypeId}{k n bytes r c:Nat}{z:Value}{cs news:List Value}{s x:Operand}
end
def vt (v:Value)(o:List N.En):aN:=RowK 49 2 v o.length (flatK N.aG 2 o.toArray).toList
theorem nK (v:Value)(o:List N.En):Good (vt v o):=fZ _ _ _ _ _
theorem V0 {B:Nat}{w0 w:World}{l:List aN}{v:Value}{s:List N.En}{y:N.En}(h:Sep B w0 w (RowK 49 2 v (s.length+1) ((flatK N.aG 2 s.toArray).toList++N.aG y)::l)):Sep B w0 w (vt v (s++[y])::l):=by
 unfold vt;rw[List.length_append,List.length_singleton,N.bM N.aG 2 N.cm];exact h
theorem Sep.V1 {B:Nat}{w0 w:World}{l:List aN}{v:Value}{s:List N.En}(h:Sep B w0 w (vt v s::l)):N.Row N.aG 2 w v s:=(N.cj (base:=0) (by decide) h.Je).row
end
section
open N (Nd En)
def TM (pl:Nat)(s:List En):aN:=fun w X=>∃v,Both (ax pl (.cells #[v] 55)) (vt v s) w X
theorem JJ (pl:Nat)(s:List En):Good (TM pl s):=
 ⟨fun w w' X ⟨v,h⟩ hk hs=>⟨v,(aO (aT _ _) (nK _ _)).kept w w' X h hk hs⟩,fun w X ⟨v,h⟩=>(aO (aT _ _) (nK _ _)).lt w X h⟩
def NxU (p1 p2:Nat)(s:Option En):aN:=Both (ax p1 (.cells #[.string (s.getD (⟨#[]⟩,⟨#[]⟩)).1,.string (s.getD (⟨#[]⟩,⟨#[]⟩)).2] 49)) (ax p2 (.cells #[.bool s.isSome] 4))
def SS (s:List En)(y:En):List En×Bool:=(s++[y],true)
def nxS (s:Option En)(y:En):Option En×Bool:=(some y,false)
section
variable {B:Nat}{w0 w:World}{l:List aN}{P:List NV}{C:Cx}{x:TX}{d d1:Dk}{pl p1 p2:Nat}
theorem Sep.Pw (h:Sep B w0 w l):Sep B w0 w (vt (.slice none 0 0) []::l):=by
 unfold vt;simpa[flatK]using Sep.Rn (e:=49) (k:=2) h
theorem Sep.JK {s:List En}(h:Sep B w0 w (TM pl s::l)):∃ao c,Sep B w0 w (ax pl (.cells #[.slice ao s.length c] 55)::vt (.slice ao s.length c) s::l):=by
 obtain⟨hB,hb,Y,⟨gg,X,Z,⟨v,hX⟩,hz,hd,hy⟩,hY⟩:=h;have h0:Hp w (Both (ax pl (.cells #[v] 55)) (vt v s)::l) Y:=⟨aO (aT _ _) (nK _ _),X,Z,hX,hz,hd,hy⟩;have h1:Sep B w0 w (ax pl (.cells #[v] 55)::vt v s::l):=⟨hB,hb,Y,Hp.part (aT _ _) (nK _ _) h0,hY⟩;obtain⟨ao,c,rfl⟩:=Sep.uX (n:=s.length) (Sep.pk [_] h1);exact⟨ao,c,h1⟩
theorem Sep.JM {s:List En}{v:Value}(h:Sep B w0 w (ax pl (.cells #[v] 55)::vt v s::l)):Sep B w0 w (TM pl s::l):=by
 obtain⟨hB,hb,Y,⟨gg,X,Z,hX,hz,hd,hy⟩,hY⟩:=Sep.join h;exact⟨hB,hb,Y,⟨JJ _ _,X,Z,⟨v,hX⟩,hz,hd,hy⟩,hY⟩
theorem JN:W8 B w0 C x 63 #[.pointer (some ⟨pl,0,none⟩)] SS (TM pl) List.length 900000:=by
 intro w d P l s y hb h;unfold SS at hb⊢;simp only[List.length_append,List.length_singleton]at hb;obtain⟨ao,c,ho⟩:=Sep.JK (Sep.pk [_,_,_,_] h);have hn:s.length<1000000:=by omega
 have SB:Hid (Sep B w0 ((w.alloc (.cells #[.string y.1,.string y.2] 49)).alloc (.cells #[.string y.1,.string y.2] 49)) (RowK 49 2 (.slice ao s.length c) s.length (flatK N.aG 2 s.toArray).toList::ax (w.heap.size+1) (.cells #[.string y.1,.string y.2] 49)::ax pl (.cells #[.slice ao s.length c] 55)::Tx C.t C.f x::File C.f C.b d::nc C::Pl P::l)):=
  Sep.pk [_,_] (Sep.aZ (ho.alloc (.cells #[.string y.1,.string y.2] 49)) _ _ (by simp))
 have Px:Hid _:=Br (news:=N.aG y) (Sep.blk (Sep.pk [_] SB.out));obtain⟨ps,p0,_⟩:=Sep.c1 ho;clear h ho hb;go_enter Tryz.func63,Tryz.ntmps63
 go_wp2_with (at_builtin;refine SR rfl rfl N.dY Tryz.underlying55 rfl (by decide) (by decide) _ rfl SB.out rfl Px.out rfl (N.dX y) hn ?_;intro JO c5 w5 s5;have S5:Hid (Sep B w0 w5 (ax pl (.cells #[.slice ao s.length c] 55)::vt (.slice JO (s.length+1) c5) (s++[y])::Tx C.t C.f x::File C.f C.b d::nc C::Pl P::l)):=Sep.pk [_] (V0 (Sep.drop (Sep.pk [_] s5)));clear s5 SB Px;obtain⟨qs,q0,qf⟩:=Sep.c1 S5.out)
 have SF:Hid (Sep B w0 (w5.setCell ⟨pl,0,none⟩ (.slice JO (s.length+1) c5)) (TL C x d P (TM pl (s++[y])::l))):=by
  have h6:=Sep.oD (x:=.slice JO (s.length+1) c5) S5.out 0;exact Sep.pb [_,_,_,_] (Sep.JM h6)
 go_ret;exact⟨rfl,SF.out⟩
end
end
section
open N (Nd En bp bf hidR ar ai Ch aP ah waits)
section
variable {B:Nat}{w0 w:World}{l:List aN}{P:List NV}{C:Cx}{x:TX}{d d1:Dk}
def GEt (B:Nat)(w0:World)(C:Cx)(x:TX)(d:Dk)(P:List NV)(V:aN)(l:List aN)(er:Int)(e:Ending)(w':World):Prop:=
 e=.returned (.int .i64 er)∧∃P' d',(∀y∈P,y∈P')∧bI d d'∧Sep B w0 w' (TL C x d' P' (V::l))
def JTY (B:Nat)(w0:World)(C:Cx)(x:TX)(d d1:Dk)(P:List NV)(U1 U2:aN)(l:List aN)(f7:Bool)(w:World):Prop:=
 (f7=false->Sep B w0 w (TL C x d1 P (U1::l)))∧(f7=true->∃P' d',(∀y∈P,y∈P')∧bI d d'∧Sep B w0 w (TL C x d' P' (U2::l)))
def Y8 (B:Nat)(w0:World)(CC:Cx)(x:TX)(d d1:Dk)(P:List NV)(U1 U2:aN)(l:List aN)(b1:Bool)(e1:Int)(q4:Nat)(root:Int)(fr tt:ByteArray)(fy:Nat)(cy:Array Value){y1 y3 y5 y6 y9 wE sK sL y13 tW pN pO sN y29:Value}(C:List Bool->Act->Prop)(w:World):Prop:=∀{f0 f1 f2 f3 f4 f5 f6 f7 f8 f9 f10 f11 f12:Bool}{x7 x8 yG tX x20 j8 lU kW x24 x25 sO x27 x28:Value},f12=false->JTY B w0 CC x d d1 P U1 U2 (ax q4 (.cells #[.string fr,.string tt] 112)::l) f7 w->Hid (f0=true->tX=ptr CC.tq)->Hid (f1=true->x20=ptr CC.tq)->Hid (f2=true->j8=ptr CC.tq)->Hid (f3=true->lU=.pointer (some ⟨CC.tq,1,none⟩))->Hid (f4=true->kW=.int .i64 root)->Hid (f5=true->x24=.agg #[.string fr,.string tt])->Hid (f6=true->x25=.func (.func fy) #[] cy)->Hid (f7=true->f4=true∧f5=true∧sO=.tuple #[.bool b1,.int .i64 e1])->Hid (f8=true->f7=true∧yG=.tuple #[.bool b1,.int .i64 e1])->Hid (f9=true->f7=true∧x27=.bool b1)->Hid (f10=true->f7=true∧x28=.int .i64 e1)->Hid (f11=true->f7=true∧x7=.bool b1)->C [f0,f1,f2,f3,f4,f5,f6,f7,f8,f9,f10,f11,f12] {tmps:=#[ptr CC.tq,y1,.func (.func fy) #[] cy,y3,.pointer (some ⟨q4,0,none⟩),y5,y6,x7,x8,y9,wE,sK,sL,y13,tW,pN,pO,sN,yG,tX,x20,j8,lU,kW,x24,x25,sO,x27,x28,y29],defers:=[]}
theorem SU {σ:Type} {st:σ->En->σ×Bool} {m:σ->Nat} {Nm:Nat} {U:σ->aN} {fy:Nat} {cy:Array Value} {f:Nat} {s s':σ} {fr tt:ByteArray} {b:Bool} {er:Int} (T:cd B w0) (hr:d.room<=16384) (ok:x.Ok d.room) (hz:x.Sz) (EY:∀args w,(callFunc fy args).run Tryz.prog w=.ok (.enter fy args) w) (hu:W8 B w0 C x fy cy st U m Nm) (hm:∀s e,m s<=m (st s e).1) (h0:C.err=0) (hw:Wf C.root) (hd:bI d d1) (he:fW x d st f s C.root 0 fr tt=some (s',(b,er))) (hN:m s'<=Nm) (h:Sep B w0 w (TL C x d1 P (U s::l))):
  Calls Tryz.prog 62 #[ptr C.tq,.agg #[.string fr,.string tt],.func (.func fy) #[] cy] w (GEt B w0 C x d P (U s') l er):=by
 have S1:Hid (Sep B w0 (w.alloc (.cells #[.string fr,.string tt] 112)) (TL C x d1 P (U s::ax w.heap.size (.cells #[.string fr,.string tt] 112)::l))):=Sep.pb [_,_,_,_,_] (h.aQ _);have KE:Hid (∀u,Sep B w0 u (TL C x d1 P (U s::ax w.heap.size (.cells #[.string fr,.string tt] 112)::l))->Calls Tryz.prog 91 #[ptr C.tq,.int .i64 C.root,.int .i64 0,.agg #[.string fr,.string tt],.func (.func fy) #[] cy] u (W7 B w0 C x d P (U s') (ax w.heap.size (.cells #[.string fr,.string tt] 112)::l) b er)):=fun u hu'=>VQ T hr ok hz EY hu hm f u d1 P _ s s' C.root 0 fr tt b er hw (by omega) hd he hN hu';obtain⟨ts,⟨t0,t1,t2⟩,_⟩:=Sep.zb (Sep.pk [_,_] (h));rw[h0]at t2;have HRT:Hid (C.root=C.root):=rfl;clear h hu hm h0 hw hd he hN T hr ok hz;go_enter Tryz.func62,Tryz.ntmps62
 go_wp2_with fail
 clear t0 t1 t2 ts;generalize w.alloc (.cells #[.string fr,.string tt] 112)=w1 at*;generalize w.heap.size=q4 at*;refine bf 12 (Y8 B w0 C x d d1 P (U s) (U s') l b er q4 C.root fr tt fy cy) (by kernel_rfl) (by kernel_rfl) (by kernel_rfl) (fun _ k=>k rfl ⟨fun _=>Sep.drew S1.out,(fun h=>by cases h)⟩ ar ar ar ar ar ar ar ar ar ar ar ar) ?_ ?_ ?_
 ·intro i w' hne f0 f1 f2 f3 f4 f5 f6 f7 f8 f9 f10 f11 f12 x7 x8 yG tX x20 j8 lU kW x24 x25 sO x27 x28 e12 hB h0 h1 h2 h3 h4 h5 h6 h7 h8 h9 h10 h11 hi;obtain⟨hlt,hun,_⟩:=aP hi;have hlt':i<13:=hlt;clear hlt;rcases(by omega:i=0∨i=1∨i=2∨i=3∨i=4∨i=5∨i=6∨i=7∨i=8∨i=9∨i=10∨i=11)with rfl|rfl|rfl|rfl|rfl|rfl|rfl|rfl|rfl|rfl|rfl|rfl
  ·refine ai rfl fun K HK=>?_;go_simp;exact HK.out _ _ fun _ k=>k e12 hB hidR h1 h2 h3 h4 h5 h6 h7 h8 h9 h10 h11
  ·refine ai rfl fun K HK=>?_;go_simp;exact HK.out _ _ fun _ k=>k e12 hB h0 hidR h2 h3 h4 h5 h6 h7 h8 h9 h10 h11
  ·cases h1 (ah 1 hi (by kernel_rfl));refine ai rfl fun K HK=>?_;go_simp;exact HK.out _ _ fun _ k=>k e12 hB h0 h1 hidR h3 h4 h5 h6 h7 h8 h9 h10 h11
  ·cases h2 (ah 2 hi (by kernel_rfl));refine ai rfl fun K HK=>?_;go_simp;exact HK.out _ _ fun _ k=>k e12 hB h0 h1 h2 hidR h4 h5 h6 h7 h8 h9 h10 h11
  ·have un:f4=false:=hun;cases h3 (ah 3 hi (by kernel_rfl));have n7:f7=false:=by
    cases hf:f7
    ·rfl
    ·exact absurd (h7.out hf).1 (by rw[un];simp)
   obtain⟨_,⟨t0,t1,t2⟩,_⟩:=Sep.zb (Sep.pk [_,_] (hB.1 n7));refine ai rfl fun K HK=>?_;go_simp;exact HK.out _ _ fun _ k=>k e12 hB h0 h1 h2 h3 hidR h5 h6 (fun d=>by have e:=(h7.out d).1;rw[un]at e;cases e) h8 h9 h10 h11
  ·have un:f5=false:=hun;have n7:f7=false:=by
    cases hf:f7
    ·rfl
    ·exact absurd (h7.out hf).2.1 (by rw[un];simp)
   obtain⟨_,⟨y0,y1⟩,_⟩:=Sep.c2 (Sep.pk [_,_,_,_,_] (hB.1 n7));refine ai rfl fun K HK=>?_;go_simp;exact HK.out _ _ fun _ k=>k e12 hB h0 h1 h2 h3 h4 hidR h6 (fun d=>by have e:=(h7.out d).2.1;rw[un]at e;cases e) h8 h9 h10 h11
  ·refine ai rfl fun K HK=>?_;go_simp;exact HK.out _ _ fun _ k=>k e12 hB h0 h1 h2 h3 h4 h5 hidR h7 h8 h9 h10 h11
  ·have un:f7=false:=hun;cases h0 (ah 0 hi (by kernel_rfl));have d4:f4=true:=ah 4 hi (by kernel_rfl);cases h4 d4;have d5:f5=true:=ah 5 hi (by kernel_rfl);cases h5 d5;cases h6 (ah 6 hi (by kernel_rfl));refine ai rfl fun K HK=>?_;go_simp;refine Calls.mono (KE.out _ (hB.1 un)) ?_;rintro e u4 ⟨rfl,s4⟩;exact HK.out _ _ fun _ k=>k e12 ⟨(fun h=>by cases h),fun _=>s4⟩ h0 h1 h2 h3 h4 h5 h6 (fun _=>⟨d4,d5,rfl⟩) (fun d=>by have e:=(h8.out d).1;rw[un]at e;cases e) (fun d=>by have e:=(h9.out d).1;rw[un]at e;cases e) (fun d=>by have e:=(h10.out d).1;rw[un]at e;cases e) (fun d=>by have e:=(h11.out d).1;rw[un]at e;cases e)
  ·have d7:f7=true:=ah 7 hi (by kernel_rfl);obtain⟨u4,u5,rfl⟩:=h7.out d7;refine ai rfl fun K HK=>?_;go_simp;exact HK.out _ _ fun _ k=>k e12 hB h0 h1 h2 h3 h4 h5 h6 h7 (fun _=>⟨d7,rfl⟩) h9 h10 h11
  ·have d8:f8=true:=ah 8 hi (by kernel_rfl);obtain⟨_,rfl⟩:=h8.out d8;have d7:f7=true:=(h8.out d8).1;refine ai rfl fun K HK=>?_;go_simp;exact HK.out _ _ fun _ k=>k e12 hB h0 h1 h2 h3 h4 h5 h6 h7 h8 (fun _=>⟨d7,rfl⟩) h10 h11
  ·have d8:f8=true:=ah 8 hi (by kernel_rfl);obtain⟨_,rfl⟩:=h8.out d8;have d7:f7=true:=(h8.out d8).1;refine ai rfl fun K HK=>?_;go_simp;exact HK.out _ _ fun _ k=>k e12 hB h0 h1 h2 h3 h4 h5 h6 h7 h8 h9 (fun _=>⟨d7,rfl⟩) h11
  ·have d9:f9=true:=ah 9 hi (by kernel_rfl);obtain⟨_,rfl⟩:=h9.out d9;have d7:f7=true:=(h9.out d9).1;refine ai rfl fun K HK=>?_;go_simp;exact HK.out _ _ fun _ k=>k e12 hB h0 h1 h2 h3 h4 h5 h6 h7 h8 h9 h10 (fun _=>⟨d7,rfl⟩)
 ·intro w' f0 f1 f2 f3 f4 f5 f6 f7 f8 f9 f10 f11 f12 x7 x8 yG tX x20 j8 lU kW x24 x25 sO x27 x28 e12 hB h0 h1 h2 h3 h4 h5 h6 h7 h8 h9 h10 h11 hi;have d10:f10=true:=ah 10 hi (by kernel_rfl);obtain⟨_,rfl⟩:=h10.out d10;have d11:f11=true:=ah 11 hi (by kernel_rfl);obtain⟨_,rfl⟩:=h11.out d11;clear hi;have u7:=(h10.out d10).1;refine ai rfl fun K HK=>?_;go_simp;refine HK.out _ _ ?_;obtain⟨P',d',m1,m2,s9⟩:=hB.2 u7;have S9:Hid (Sep B w0 w' (TL C x d' P' (U s'::ax q4 (.cells #[.string fr,.string tt] 112)::l))):=s9;have HMM:Hid ((∀y∈P,y∈P')∧bI d d'):=⟨m1,m2⟩;clear s9 m1 m2 h0 h1 h2 h3 h4 h5 h6 h7 h8 h9 h10 h11 hB;go_wp2;go_ret;exact⟨rfl,P',d',HMM.out.1,HMM.out.2,Sep.drop (Sep.pk [_,_,_,_,_] (S9.out))⟩
 ·intro _ _;intros;assumption
theorem kK:∀args w,(callFunc 63 args).run Tryz.prog w=.ok (.enter 63 args) w:=fun _ _=>rfl
def GSc (B:Nat)(w0:World)(C:Cx)(x:TX)(d:Dk)(P:List NV)(l:List aN)(o:List En)(er:Int)(e:Ending)(w':World):Prop:=
 ∃v,e=.returned (.tuple #[v,.int .i64 er])∧(er=0->∃ao c,v=.slice ao o.length c)∧(er≠0->v=.slice none 0 0∧o=[])∧∃P' d',(∀y∈P,y∈P')∧bI d d'∧Sep B w0 w' (TL C x d' P' (vt v o::l))
theorem SV {f:Nat}{s' o:List En}{fr tt:ByteArray}{b:Bool}{er:Int}(T:cd B w0)(hr:d.room<=16384)(ok:x.Ok d.room)(hz:x.Sz)(h0:C.err=0)(hw:Wf C.root)(hd:bI d d1)
  (he:fW x d SS f [] C.root 0 fr tt=some (s',(b,er)))(hN:s'.length<=900000)(ho1:er=0->o=s')(ho2:er≠0->o=[])(h:Sep B w0 w (TL C x d1 P l)):
  Calls Tryz.prog 27 #[ptr C.tq,.string fr,.string tt] w (GSc B w0 C x d P l o er):=by
 have S1:Hid (Sep B w0 (w.alloc (.cells #[.slice none 0 0] 55)) (TL C x d1 P (TM w.heap.size []::l))):=Sep.pb [_,_,_,_] (Sep.JM (v:=.slice none 0 0) (Sep.pk [_] (Sep.Pw (h.aQ (.cells #[.slice none 0 0] 55)))));have KG:Hid _:=kU (w.alloc (.cells #[.slice none 0 0] 55)) C.tq;have KE:Hid _:=SU T hr ok hz kK (JN (B:=B) (w0:=w0) (C:=C) (x:=x) (pl:=w.heap.size)) (fun s e=>by unfold SS;simp) h0 hw hd he hN S1.out;have HOO:Hid ((er=0->o=s')∧(er≠0->o=[])):=⟨ho1,ho2⟩;clear h h0 hw hd he hN T hr ok hz ho1 ho2;go_enter Tryz.func27,Tryz.ntmps27
 go_wp2_with fail
 refine Calls.mono KG.out ?_;rintro e w1 ⟨rfl,rfl⟩;clear KG
 go_wp2_with fail
 clear S1;generalize w.alloc (.cells #[.slice none 0 0] 55)=w1 at*;generalize w.heap.size=pl at*;refine Calls.mono KE.out ?_;rintro e w2 ⟨rfl,P',d',m1,m2,s2⟩;obtain⟨ao,c,ho⟩:=Sep.JK (Sep.pk [_,_,_,_] (s2));have HO:Hid _:=ho;have HM:Hid ((∀y∈P,y∈P')∧bI d d'):=⟨m1,m2⟩;obtain⟨ps,p0,_⟩:=Sep.c1 ho;clear KE s2 m1 m2 ho;by_cases he0:er=0
 ·subst he0;obtain rfl:=HOO.out.1 rfl;go_wp2;go_ret2;exact⟨_,rfl,fun _=>⟨ao,c,rfl⟩,fun h=>absurd rfl h,P',d',HM.out.1,HM.out.2,Sep.pb [_,_,_,_] (Sep.drop HO.out)⟩
 ·obtain rfl:=HOO.out.2 he0;have hne:(er != 0)=true:=bne_iff_ne.2 he0;go_wp2;go_ret2;exact⟨_,rfl,fun h=>absurd h he0,fun _=>⟨rfl,rfl⟩,P',d',HM.out.1,HM.out.2,Sep.pb [_,_,_,_] (Sep.Pw (Sep.drop (Sep.drop HO.out)))⟩
def GNx (B:Nat)(w0:World)(C:Cx)(x:TX)(d:Dk)(P:List NV)(l:List aN)(o:Option En)(er:Int)(e:Ending)(w':World):Prop:=
 e=.returned (.tuple #[.agg #[.string (o.getD (⟨#[]⟩,⟨#[]⟩)).1,.string (o.getD (⟨#[]⟩,⟨#[]⟩)).2],.bool o.isSome,.int .i64 er])∧∃P' d',(∀y∈P,y∈P')∧bI d d'∧Sep B w0 w' (TL C x d' P' l)
end
end
end Go.Proofs.YtdcpfbidcpfboaaGreatDoor
namespace Go.Proofs.YtdcpfbidcpfboaaGreatDoor
namespace P
open N
section
variable {σ:Type}{st:σ->En->σ×Bool}{fr tt:ByteArray}{h:Nat}
theorem JP:∀(l m:List En) (s:σ),lZ st (l++m) s=if(lZ st l s).2=false then lZ st l s else lZ st m (lZ st l s).1
 |[],m,s=>rfl
 |e::l,m,s=>by
  rw[List.cons_append,lZ,lZ];by_cases hb:(st s e).2=false
  ·rw[if_pos hb,if_pos hb];simp
  ·rw[if_neg hb,if_neg hb];exact JP l m _
theorem DK (l m:List En):gf fr tt (l++m)=gf fr tt l++gf fr tt m:=List.filter_append ..
theorem DM {l:List En}(h:∀e∈l,bp e.1 fr=true∨bF tt e.1=false):gf fr tt l=[]:=by
 unfold gf;rw[List.filter_eq_nil_iff];intro e he hc;simp only[Bool.and_eq_true,Bool.not_eq_true']at hc;rcases h e he with h1|h1
 ·rw[hc.1]at h1;cases h1
 ·rw[hc.2]at h1;cases h1
theorem JQ {fr' Py:ByteArray}{l:List En}(h:∀e∈l,bp e.1 fr'=bp e.1 fr∧bF Py e.1=bF tt e.1):gf fr' Py l=gf fr tt l:=by
 unfold gf;refine List.filter_congr fun e he=>?_;rw[(h e he).1,(h e he).2]
theorem qX {k:ByteArray}:bF tt k=true↔tt=⟨#[]⟩∨bp k tt=true:=by simp[bF]
theorem Bt {k:ByteArray}:bF tt k=false↔tt≠⟨#[]⟩∧bp k tt=false:=by simp[bF]
theorem SX {k k':ByteArray}(h:bF tt k'=true)(hk:bp k k'=true):bF tt k=true:=by
 rcases qX.1 h with h|h
 ·exact qX.2 (.inl h)
 ·exact qX.2 (.inr (cQ hk h))
theorem JR {k k':ByteArray}(h:bF tt k=false)(hk:bp k' k=false):bF tt k'=false:=by
 obtain⟨h1,h2⟩:=Bt.1 h;refine Bt.2 ⟨h1,?_⟩;cases hc:bp k' tt with
 |false=>rfl
 |true=>
  have:=gK h2 hc;rw[hk]at this;cases this
theorem Pz:∀(l:List En) (s:σ),l.Pairwise (fun x y=>bp x.1 y.1=true)->
  (wX st tt l s).1=(lZ st (l.filter fun e=>bF tt e.1) s).1∧((wX st tt l s).2=none->(lZ st (l.filter fun e=>bF tt e.1) s).2=true)∧∀b,(wX st tt l s).2=some b->(lZ st (l.filter fun e=>bF tt e.1) s).2=b
 |[],s,_=>⟨rfl,fun _=>rfl,fun b hb=>by cases hb⟩
 |e::l,s,hp=>by
  obtain⟨p1,p2⟩:=List.pairwise_cons.1 hp;rw[wX];by_cases hh:bF tt e.1=false
  ·rw[if_pos hh];have:(e::l).filter (fun e=>bF tt e.1)=[]:=by
    rw[List.filter_eq_nil_iff];intro x hx hc;rcases List.mem_cons.1 hx with rfl|hx
    ·rw[hh]at hc;cases hc
    ·rw[JR hh (gR (p1 x hx))]at hc;cases hc
   rw[this];exact⟨rfl,fun hc=>by simp at hc,fun b hb=>by cases hb;rfl⟩
  ·rw[if_neg hh];have ht:bF tt e.1=true:=by simpa using hh
   have:(e::l).filter (fun e=>bF tt e.1)=e::l.filter (fun e=>bF tt e.1):=by rw[List.filter_cons_of_pos (by simpa using ht)]
   rw[this,lZ];by_cases hb:(st s e).2=false
   ·rw[if_pos hb,if_pos hb];exact⟨rfl,fun hc=>by simp at hc,fun b hb'=>by simp at hb';rw[<-hb']⟩
   ·rw[if_neg hb,if_neg hb];exact Pz l _ p2
theorem zJ {l:List En}(hp:l.Pairwise (fun x y=>bp x.1 y.1=true)):l.drop (jh l fr)=l.filter fun e=>!bp e.1 fr:=by
 induction l with
 |nil=>rfl
 |cons e l ih=>
  obtain⟨p1,p2⟩:=List.pairwise_cons.1 hp;have ih:=ih p2;unfold jh at ih⊢;by_cases he:bp e.1 fr=true
  ·rw[List.countP_cons_of_pos (by simpa using he),List.drop_succ_cons,ih,List.filter_cons_of_neg (by simp[he])]
  ·have hall:∀x∈e::l,bp x.1 fr=false:=fun x hx=>by
    rcases List.mem_cons.1 hx with rfl|hx
    ·simpa using he
    ·cases hc:bp x.1 fr with
     |false=>rfl
     |true=>exact absurd (cQ (p1 x hx) hc) he
   rw[List.countP_eq_zero.2 (fun x hx=>by simp[hall x hx]),List.drop_zero];exact(List.filter_eq_self.2 fun x hx=>by simp[hall x hx]).symm
theorem SY (l:List En):gf fr tt l=(l.filter fun e=>!bp e.1 fr).filter fun e=>bF tt e.1:=by
 unfold gf;rw[List.filter_filter];exact List.filter_congr fun e _=>Bool.and_comm _ _
theorem JS {A B:List (KT h)}{u:KT h}{sA sB:List ByteArray}{s:ByteArray}(hA:A.length=sA.length)(ho:bS (dm (A++u::B) (sA++sB)))(hs:s∈sA){x:En}(hx:x∈bO (u::B)):bp x.1 s=false:=by
 have e1:dm (A++u::B) (sA++sB)=dm A sA++dm (u::B) sB:=by
  unfold dm;rw[List.map_append,nG _ _ (by simpa using hA)]
 rw[e1]at ho;have h1:(true,s)∈dm A sA:=by
  have:=(il (A.map fun u=>cx h u.2) sA (by simp;omega)).subset (List.mem_map_of_mem (f:=fun s=>((true,s):It)) hs);exact this
 have h2:(false,x.1)∈dm (u::B) sB:=tv hx _ (fun _ h=>h) sB;have:=(List.pairwise_append.1 ho.up).2.2 _ h1 _ h2;simpa[RI]using this
theorem Ta {A B:List (KT h)}{u:KT h}{sA sB:List ByteArray}{s:ByteArray}(hA:A.length=sA.length)(ho:bS (dm (A++u::B) (sA++s::sB)))(hB:B≠[]){x:En}(hx:x∈dW h u.2):bp x.1 s=true:=by
 rw[fg hA]at ho;obtain⟨v,B,rfl⟩:∃v B',B=v::B':=by
  cases B with
  |nil=>exact absurd rfl hB
  |cons v B=>exact⟨v,B,rfl⟩
 rw[List.map_cons,jd]at ho;have h1:=(List.pairwise_append.1 (List.pairwise_append.1 ho.up).2.1).2.2 _ (jg h u.2 x hx) (true,s) (by simp);simpa[RI]using h1
theorem ahead:∀(A:List (KT h)) (sA:List ByteArray),A.length=sA.length->bS (dm A sA)->∀x∈bO A,∃s∈sA,bp x.1 s=true
 |[],_,_,_,x,hx=>by cases hx
 |u::A,[],hl,_,_,_=>by simp at hl
 |u::A,s::sA,hl,ho,x,hx=>by
  have e1:dm (u::A) (s::sA)=cx h u.2++(true,s)::dm A sA:=rfl;rw[e1]at ho;rw[bX]at hx;rcases List.mem_append.1 hx with hx|hx
  ·have h1:=(List.pairwise_append.1 ho.up).2.2 _ (jg h u.2 x hx) (true,s) (by simp);exact⟨s,by simp,by simpa[RI]using h1⟩
  ·obtain⟨s1,h1,h2⟩:=ahead A sA (by simpa using hl) (ho.sub (List.Sublist.trans (List.sublist_cons_self _ _) (List.sublist_append_right _ _))) x hx;exact⟨s1,by simp[h1],h2⟩
theorem zK (sA:List ByteArray)(s:ByteArray)(sB:List ByteArray):(sA++s::sB).getD sA.length ⟨#[]⟩=s:=by simp[List.getD_eq_getElem?_getD]
theorem Fo {A B:List (KT h)}{u:KT h}:((A++u::B).map Prod.fst).getD A.length (0:Int)=u.1:=by simp[List.getD_eq_getElem?_getD]
theorem DO {rec:σ->Int->ByteArray->ByteArray->Option (σ×(Bool×Int))}:∀(B A:List (KT h)) (sA sB:List ByteArray) (s:σ),A.length=sA.length->sB.length+1=B.length->bS (dm (A++B) (sA++sB))->(∀s∈sB,bp fr s=true)->
  (∀u∈B,∀s fr' Py,rec s u.1 fr' Py=some ((lZ st (gf fr' Py (dW h u.2)) s).1,((lZ st (gf fr' Py (dW h u.2)) s).2,0)))->
  ja rec (aV (h+1) (bJ (A++B) (sA++sB))) fr tt B.length A.length s=some ((lZ st (gf fr tt (bO B)) s).1,((lZ st (gf fr tt (bO B)) s).2,0))
 |[],_,_,_,_,_,hl,_,_,_=>by simp at hl
 |u::B,A,sA,sB,s,hA,hl,ho,hfr,hrec=>by
  have hlB:sB.length=B.length:=by simpa using hl
  rw[List.length_cons,ja,bV];simp only;rw[if_neg (by simp;omega),Fo];have V2:∀x∈bO (u::B),bp x.1 (km (sA++sB) A.length fr)=bp x.1 fr:=fun x hx=>by
   unfold km;split
   ·rename_i hc
    have hm:(sA++sB).getD (A.length-1) ⟨#[]⟩∈sA:=by
     rw[hA,List.getD_eq_getElem?_getD,List.getElem?_append_left (by omega),List.getElem?_eq_getElem (by omega)];exact List.getElem_mem _
    rw[JS hA ho hm hx];cases hx2:bp x.1 fr with
    |false=>rfl
    |true=>have:=cQ hx2 hc.2;rw[JS hA ho hm hx]at this;cases this
   ·rfl
  have key:(bF (ik (sA++sB) A.length tt) (km (sA++sB) A.length fr)=false->gf fr tt (bO (u::B))=[])∧∀x∈dW h u.2,bF (ik (sA++sB) A.length tt) x.1=bF tt x.1:=by
   have plain:ik (sA++sB) A.length tt=tt->(bF (ik (sA++sB) A.length tt) (km (sA++sB) A.length fr)=false->gf fr tt (bO (u::B))=[])∧∀x∈dW h u.2,bF (ik (sA++sB) A.length tt) x.1=bF tt x.1:=fun e=>by
    rw[e];refine⟨fun hc=>DM fun x hx=>?_,fun _ _=>rfl⟩;cases h1:bp x.1 fr with
    |true=>exact .inl rfl
    |false=>exact .inr (JR hc (by rw[V2 x hx,h1]))
   cases sB with
   |nil=>
    apply plain;unfold ik;rw[if_neg (by simp;omega)]
   |cons s1 sB=>
    by_cases hs:bF tt s1=true
    ·have e:ik (sA++s1::sB) A.length tt=s1:=by
      unfold ik;rw[hA,zK,if_pos ⟨by simp,hs⟩]
     have Y9:B≠[]:=by intro e;rw[e]at hlB;simp at hlB
     rw[e];refine⟨fun hc=>?_,fun x hx=>?_⟩
     ·exfalso;have h1:bp (km (sA++s1::sB) A.length fr) s1=true:=by
       unfold km;split
       ·rename_i hc2
        have hp:=kT (h:=h) (K:=A++u::B) (ss:=sA++s1::sB) (by simp at hl⊢;omega) ho;have h2:sA.length-1<sA.length:=by omega
        rw[hA,List.getD_eq_getElem?_getD,List.getElem?_append_left (by omega),List.getElem?_eq_getElem h2];exact(List.pairwise_append.1 hp).2.2 _ (List.getElem_mem h2) s1 (by simp)
       ·exact hfr s1 (by simp)
      rw[Bt]at hc;rw[h1]at hc;cases hc.2
     ·have h1:=Ta hA ho Y9 hx;rw[SX hs h1];exact qX.2 (.inr h1)
    ·apply plain;unfold ik;rw[hA,zK,if_neg (fun hc=>hs hc.2)]
  by_cases hh:bF (ik (sA++sB) A.length tt) (km (sA++sB) A.length fr)=false
  ·rw[if_pos hh,key.1 hh];rfl
  ·rw[if_neg hh,hrec u (by simp)];have e1:gf (km (sA++sB) A.length fr) (ik (sA++sB) A.length tt) (dW h u.2)=gf fr tt (dW h u.2):=JQ fun x hx=>⟨V2 x (by rw[bX];exact List.mem_append_left _ hx),key.2 x hx⟩;rw[e1,bX,DK,JP];simp only;cases hb:(lZ st (gf fr tt (dW h u.2)) s).2 with
   |false=>
    rw[if_pos (.inr rfl),if_pos rfl,hb]
   |true=>
    rw[if_neg (by simp),if_neg (by simp)];cases sB with
    |nil=>
     have:B=[]:=List.length_eq_zero_iff.1 (by simpa using hlB.symm);subst this;rw[show([]:List (KT h)).length=0 from rfl,ja];rfl
    |cons s1 sB=>
     have:=DO B (A++[u]) (sA++[s1]) sB (lZ st (gf fr tt (dW h u.2)) s).1 (by simp;omega) (by simpa using hlB) (by simpa using ho) (fun s hs=>hfr s (by simp[hs])) (fun v hv=>hrec v (by simp[hv]));rw[bV]at this;simpa using this
variable {room:Nat}{d:Dk}{S:Dr}{x:TX}
theorem vu {id depth:Int}{f:Nat}{s:σ}{l:List En}(hrd:dL x d id depth=(⟨true,l,[],[]⟩,0))(hsm:cB ⟨true,l,[],[]⟩=true)(hrt:dx ⟨true,l,[],[]⟩=true)(hdp:depth<=1000)(hp:l.Pairwise (fun x y=>bp x.1 y.1=true)):
  fW x d st (f+1) s id depth fr tt=some ((lZ st (gf fr tt l) s).1,((lZ st (gf fr tt l) s).2,0)):=by
 rw[fW,hrd,if_neg (by simp),if_neg (by rw[hsm,hrt];simp;omega)];obtain⟨a1,a2,a3⟩:=Pz (st:=st) (tt:=tt) (l.filter fun e=>!bp e.1 fr) s (hp.sublist (List.filter_sublist ..));simp only;rw[SY,zJ hp];cases hc:(wX st tt (l.filter fun e=>!bp e.1 fr) s).2 with
 |none=>
  have:=a2 hc;simp only;rw[<-a1];simp only[List.length_nil,Nat.zero_sub];rw[ja,this]
 |some b=>
  simp only;rw[a3 b hc,<-a1]
theorem DR (hr:room<=16384):∀(h:Nat) (u:KT h) (depth:Int) (f:Nat) (fr tt:ByteArray) (s:σ),Gb room d (fh x) h u.2->(fh x).vw d u.1=(aV h u.2,0)->depth+h<24->h<f->
  fW x d st f s u.1 depth fr tt=some ((lZ st (gf fr tt (dW h u.2)) s).1,((lZ st (gf fr tt (dW h u.2)) s).2,0))
 |h,_,_,0,_,_,_,_,_,_,hf=>absurd hf (by omega)
 |0,u,depth,f+1,fr,tt,s,G,rd,hd,hf=>by
  have hrd:dL x d u.1 depth=(aV 0 u.2,0):=by
   have h1:=(fh x).gO d u.1 depth (by omega);rw[rd]at h1;rw[<-h1];unfold Dr.read;rw[if_neg (by simp[fh])];rfl
  exact vu (l:=u.2) hrd (G.sm hr) (Dv hr G.sd _ G.wl G.us G.od G.vl) (by omega) (bS.leaf G.od G.vl:Rg (show List En from u.2)).1
 |h+1,u,depth,f+1,fr,tt,s,G,rd,hd,hf=>by
  obtain⟨p,b⟩:=u;obtain⟨K,ss,rfl⟩:=fG b;have hrd:dL x d p depth=(aV (h+1) (bJ K ss),0):=by
   have h1:=(fh x).gO d p depth (by omega);rw[rd]at h1;rw[<-h1];unfold Dr.read;rw[if_neg (by simp[fh])];rfl
  have R0:=G.rw;have hl:ss.length+1=K.length:=G.wl.1;obtain⟨sA,sB,rfl,hch,k1,k2⟩:=xo (key:=fr) (kT (by omega) R0.od);obtain⟨A,B,rfl,hA⟩:∃A B,K=A++B∧A.length=sA.length:=⟨K.take sA.length,K.drop sA.length,(List.take_append_drop _ _).symm,by rw[List.length_take];simp at hl;omega⟩;have hB:sB.length+1=B.length:=by simp at hl;omega
  rw[fW,hrd,if_neg (by simp),if_neg (by rw[G.sm hr,Dv hr G.sd _ G.wl G.us G.od G.vl];simp;omega)];have e1:(aV (h+1) (bJ (A++B) (sA++sB))).es=[]:=rfl;have e2:(aV (h+1) (bJ (A++B) (sA++sB))).ks.length=A.length+B.length:=by rw[bV];simp
  have e3:(aV (h+1) (bJ (A++B) (sA++sB))).ss=sA++sB:=rfl;simp only[e1,e2,e3,hch,List.drop_nil,wX];rw[<-hA,Nat.add_sub_cancel_left];have:=DO (st:=st) (fr:=fr) (tt:=tt) (rec:=fun s id fr tt=>fW x d st f s id (depth+1) fr tt) B A sA sB s hA hB R0.od k2 fun v hv s' fr' Py=>by
   obtain⟨B1,B2,rfl⟩:=List.append_of_mem hv;have hwz:=R0.wl v (by simp);have hsub:(bu h v.2).Sublist (aW (A++(B1++v::B2))):=by
    rw[bj,bj,bG,cC];exact List.Sublist.trans (List.sublist_cons_self _ _) (List.Sublist.trans (List.sublist_append_left _ _) (List.Sublist.trans (List.sublist_append_right _ _) (List.sublist_append_right _ _)))
   have Za:bS (cx h v.2):=by
    have:(cx h v.2).Sublist (dm (A++(B1++v::B2)) (sA++sB)):=by
     exact List.Sublist.trans (List.sublist_flatten_of_mem (List.mem_map_of_mem (f:=fun u:KT h=>cx h u.2) (by simp))) (qU _ _)
    exact R0.od.sub this
   have Gw:Gb room d (fh x) h v.2:=⟨G.sd,hwz.1,hwz.2,fun p hp=>R0.us p (hsub.subset hp),R0.nd.sublist hsub,fun y hy=>R0.is y (by rw[cW,cW,dG];simp[oH,hy]),Za,fun y hy=>R0.vl y (by rw[cA,cA,bX];simp[hy])⟩;exact DR hr h v (depth+1) f fr' Py s' Gw (R0.is (v.1,aV h v.2) (by rw[cW,cW,dG];simp[oH])) (by omega) (by omega)
  rw[this,pA,cA,DK];have eA:gf fr tt (bO A)=[]:=by
   refine DM fun y hy=>.inl ?_;have hoA:bS (dm A sA):=by
    have:=R0.od;unfold dm at this⊢;rw[List.map_append,nG _ _ (by simpa using hA)]at this;exact this.sub (List.sublist_append_left _ _)
   obtain⟨s1,h1,h2⟩:=ahead A sA hA hoA y hy;exact gK (k1 s1 h1) h2
  rw[eA,List.nil_append]
end
end P
namespace P
open N
def FI:(h:Nat)->Int->KT h->List Pg
 |0,dp,u=>[(u.1,dp,aV 0 u.2)]
 |h+1,dp,u=>(u.1,dp,aV (h+1) u.2)::((show List (KT h)from u.2.1).map (FI h (dp+1))).flatten
theorem zL {h:Nat}(dp p:Int)(K:List (KT h))(ss:List ByteArray):FI (h+1) dp (p,bJ K ss)=(p,dp,⟨false,[],K.map Prod.fst,ss⟩)::(K.map (FI h (dp+1))).flatten:=rfl
theorem xw:∀(h:Nat) (dp:Int) (u:KT h),(FI h dp u).map Prod.fst=dO u
 |0,dp,u=>rfl
 |h+1,dp,(p,b)=>by
  obtain⟨K,ss,rfl⟩:=fG b;have e:∀K:List (KT h),((K.map (FI h (dp+1))).flatten).map Prod.fst=aW K:=fun K=>by
   induction K with
   |nil=>rfl
   |cons v K ih=>rw[List.map_cons,List.flatten_cons,List.map_append,ih,xw h (dp+1) v,bG]
  rw[zL,List.map_cons,e K];rfl
section
variable {room:Nat}{d:Dk}{x:TX}
theorem Oh (h:Nat)(dp:Int)(u:KT h):(FI h dp u).length=(dO u).length:=by rw[<-xw h dp u,List.length_map]
theorem JT {h:Nat}{rec:List Pg->Int->Option (List Pg×Int)}{dp:Int}:∀(K:List (KT h)) (s:List Pg),(aW K).Nodup->(∀k∈aW K,∀p∈s,p.1≠k)->s.length+(aW K).length<=100000->
  (∀u∈K,∀s:List Pg,(∀k∈dO u,∀p∈s,p.1≠k)->s.length+(dO u).length<=100000->rec s u.1=some (s++FI h dp u,0))->
  Ff rec (K.map Prod.fst) s=some (s++(K.map (FI h dp)).flatten,0)
 |[],s,_,_,_,_=>by simp[Ff]
 |u::K,s,nd,hn,hl,hrec=>by
  rw[bG]at nd hn hl;obtain⟨n1,n2,n3⟩:=List.nodup_append.1 nd;rw[List.length_append]at hl;have r1:=hrec u (by simp) s (fun k hk=>hn k (List.mem_append_left _ hk)) (by omega);have q1:=JT (dp:=dp) K (s++FI h dp u) n2 (fun k hk p hp=>by
   rcases List.mem_append.1 hp with hp|hp
   ·exact hn k (List.mem_append_right _ hk) p hp
   ·have h1:p.1∈dO u:=by rw[<-xw h dp u];exact List.mem_map_of_mem hp
    exact fun e=>n3 p.1 h1 k hk e) (by rw[List.length_append,Oh];omega) (fun v hv=>hrec v (by simp[hv]))
  rw[List.map_cons,Ff,r1];simp only;rw[if_neg (by simp),q1];simp
theorem DT (hr:room<=16384):∀(h:Nat) (u:KT h) (depth:Int) (f:Nat) (s:List Pg),Gb room d (fh x) h u.2->(fh x).vw d u.1=(aV h u.2,0)->(dO u).Nodup->(∀k∈dO u,∀p∈s,p.1≠k)->s.length+(dO u).length<=100000->0<=depth->depth+h<24->h<f->
  l7 x d f s u.1 depth=some (s++FI h depth u,0)
 |h,_,_,0,_,_,_,_,_,_,_,_,hf=>absurd hf (by omega)
 |0,u,depth,f+1,s,G,rd,nd,hn,hl,h0,hd,hf=>by
  have hrd:dL x d u.1 depth=(aV 0 u.2,0):=by
   have h1:=(fh x).gO d u.1 depth (by omega);rw[rd]at h1;rw[<-h1];unfold Dr.read;rw[if_neg (by simp[fh])];rfl
  have e0:dO u=[u.1]:=rfl;have h1:(s.any fun p=>decide (p.1=u.1))=false:=by
   rw[List.any_eq_false];intro p hp;simpa using hn u.1 (by rw[e0];simp) p hp
  rw[l7,hrd,if_neg (by simp),if_neg (by rw[G.sm hr,h1];simp;omega)];rfl
 |h+1,(p,b),depth,f+1,s,G,rd,nd,hn,hl,h0,hd,hf=>by
  obtain⟨K,ss,rfl⟩:=fG b;have hrd:dL x d p depth=(aV (h+1) (bJ K ss),0):=by
   have h1:=(fh x).gO d p depth (by omega);rw[rd]at h1;rw[<-h1];unfold Dr.read;rw[if_neg (by simp[fh])];rfl
  have R0:=G.rw;have e0:dO ((p,bJ K ss):KT (h+1))=p::aW K:=rfl;rw[e0]at nd hn hl;obtain⟨n1,n2⟩:=List.nodup_cons.1 nd;have h1:(s.any fun q=>decide (q.1=p))=false:=by
   rw[List.any_eq_false];intro q hq;simpa using hn p (by simp) q hq
  rw[List.length_cons]at hl;rw[l7,hrd,if_neg (by simp),if_neg (by rw[G.sm hr,h1];simp;omega)];have:=JT (h:=h) (rec:=fun s k=>l7 x d f s k (depth+1)) (dp:=depth+1) K (s++[(p,depth,aV (h+1) (bJ K ss))]) n2 (fun k hk q hq=>by
   rcases List.mem_append.1 hq with hq|hq
   ·exact hn k (List.mem_cons_of_mem _ hk) q hq
   ·rw[List.mem_singleton.1 hq];exact fun e=>n1 (by rw[show p=k from e];exact hk)) (by rw[List.length_append,List.length_singleton];omega) (fun v hv s' hs' hl'=>by
   obtain⟨B1,B2,rfl⟩:=List.append_of_mem hv
   have hwz:=R0.wl v (by simp)
   have hsub:(bu h v.2).Sublist (aW (B1++v::B2)):=by
    rw[bj,bG,cC]
    exact List.Sublist.trans (List.sublist_cons_self _ _) (List.Sublist.trans (List.sublist_append_left _ _) (List.sublist_append_right _ _))
   have Za:bS (cx h v.2):=R0.od.sub (List.Sublist.trans (List.sublist_flatten_of_mem (List.mem_map_of_mem (f:=fun u:KT h=>cx h u.2) (by simp))) (qU _ _))
   have Gw:Gb room d (fh x) h v.2:=⟨G.sd,hwz.1,hwz.2,fun p hp=>R0.us p (hsub.subset hp),R0.nd.sublist hsub,fun y hy=>R0.is y (by rw[cW,dG];simp[oH,hy]),Za,fun y hy=>R0.vl y (by rw[cA,bX];simp[hy])⟩
   exact DT hr h v (depth+1) f s' Gw (R0.is (v.1,aV h v.2) (by rw[cW,dG];simp[oH])) (R0.nd.sublist (by rw[bj,bG];exact List.Sublist.trans (List.sublist_append_left _ _) (List.sublist_append_right _ _))) hs' hl' (by omega) (by omega) (by omega))
  rw[zL];show Ff (fun s k=>l7 x d f s k (depth+1)) (K.map Prod.fst) _=_;rw[this];simp[bV]
end
end P
namespace P
open N
def vx (sA:List ByteArray)(lo:ByteArray):ByteArray:=sA.getLast?.getD lo
def DU (sB:List ByteArray)(hi:ByteArray):ByteArray:=sB.head?.getD hi
def Bnd (lo hi:ByteArray)(l:List It):Prop:=∀x∈l,bp x.2 lo=false∧(hi=⟨#[]⟩∨bp x.2 hi=true)
def WB:(h:Nat)->BT h->ByteArray->ByteArray->Prop
 |0,l,lo,hi=>dx (aV 0 l)=true∧cB (aV 0 l)=true∧dZ (aV 0 l)<=240∧(show List En from l)≠[]∧∀x∈(show List En from l),bp x.1 lo=false∧(hi=⟨#[]⟩∨bp x.1 hi=true)
 |h+1,t,lo,hi=>dx (aV (h+1) t)=true∧cB (aV (h+1) t)=true∧dZ (aV (h+1) t)<=240∧t.2.length+1=t.1.length∧∀(A:List (KT h)) (u:KT h) (B:List (KT h)) (sA sB:List ByteArray),t.1=A++u::B->t.2=sA++sB->A.length=sA.length->
   bp (vx sA lo) lo=false∧(hi=⟨#[]⟩∨bp hi (DU sB hi)=false)∧WB h u.2 (vx sA lo) (DU sB hi)
theorem JU (k:ByteArray):bp k ⟨#[]⟩=false:=by
 unfold bp;rw[show(⟨#[]⟩:ByteArray).toList=[]from by simp];cases k.toList<;>rfl
section
variable {room:Nat}{d:Dk}{S:Dr}
theorem PB (hr:room<=16384):∀(h:Nat) (b:BT h) (lo hi:ByteArray),Gb room d S h b->Bnd lo hi (cx h b)->WB h b lo hi
 |0,b,lo,hi,G,bd=>by
  refine⟨kR b G.od G.vl,G.sm hr,G.sz,G.wl,fun x hx=>?_⟩;exact bd (false,x.1) (List.mem_map_of_mem (f:=fun(x:En)=>((false,x.1):It)) hx)
 |h+1,b,lo,hi,G,bd=>by
  obtain⟨K,ss,rfl⟩:=fG b;have R0:=G.rw;refine⟨Dv hr G.sd _ G.wl G.us G.od G.vl,G.sm hr,G.sz,G.wl.1,fun A u B sA sB e1 e2 hA=>?_⟩;have e1:K=A++u::B:=e1;have e2:ss=sA++sB:=e2;subst e1 e2;have hl:(sA++sB).length+1=(A++u::B).length:=G.wl.1;have hB:B.length=sB.length:=by simp at hl;omega
  have hwz:=R0.wl u (by simp);have bd:Bnd lo hi (dm (A++u::B) (sA++sB)):=bd;have od:bS (dm (A++u::B) (sA++sB)):=R0.od;rw[fg hA]at bd od;have hsub:(bu h u.2).Sublist (aW (A++u::B)):=by
   rw[bj,bG,cC];exact List.Sublist.trans (List.sublist_cons_self _ _) (List.Sublist.trans (List.sublist_append_left _ _) (List.sublist_append_right _ _))
  have Gw:Gb room d S h u.2:=⟨G.sd,hwz.1,hwz.2,fun p hp=>R0.us p (hsub.subset hp),R0.nd.sublist hsub,fun y hy=>R0.is y (by rw[cW,dG];simp[oH,hy]),od.sub (List.Sublist.trans (List.sublist_append_left _ _) (List.sublist_append_right _ _)),fun y hy=>R0.vl y (by rw[cA,bX];simp[hy])⟩;have V3:∀s∈sA,(true,s)∈dm A sA:=fun s hs=>by
   have:=(il (A.map fun(u:KT h)=>cx h u.2) sA (by simp;omega)).subset (List.mem_map_of_mem (f:=fun s=>((true,s):It)) hs);exact this
  have hlast:vx sA lo=lo∨vx sA lo∈sA:=by
   unfold vx;cases hs:sA.getLast? with
   |none=>exact .inl rfl
   |some s=>exact .inr (List.mem_of_getLast? hs)
  have hhead:(sB=[]∧DU sB hi=hi)∨∃s jb,sB=s::jb∧DU sB hi=s:=by
   cases sB with
   |nil=>exact .inl ⟨rfl,rfl⟩
   |cons s jb=>exact .inr ⟨s,jb,rfl,rfl⟩
  have inH:∀s jb,sB=s::jb->(true,s)∈jM (B.map fun u=>cx h u.2) sB:=fun s jb e=>by
   subst e;cases B with
   |nil=>simp at hB
   |cons v B=>rw[List.map_cons,jd];simp
  obtain⟨p1,p2,p3⟩:=List.pairwise_append.1 od.up;obtain⟨p4,p5,p6⟩:=List.pairwise_append.1 p2;refine⟨?_,?_,PB hr h u.2 _ _ Gw fun x hx=>⟨?_,?_⟩⟩
  ·rcases hlast with e|hm
   ·rw[e];exact dh _
   ·exact(bd _ (List.mem_append_left _ (V3 _ hm))).1
  ·rcases hhead with⟨_,e⟩| ⟨s,jb,es,e⟩
   ·rw[e];exact .inr (dh _)
   ·rw[e];rcases(bd _ (List.mem_append_right _ (List.mem_append_right _ (inH s jb es)))).2 with h1|h1
    ·exact .inl h1
    ·exact .inr (gR h1)
  ·rcases hlast with e|hm
   ·rw[e];exact(bd x (List.mem_append_right _ (List.mem_append_left _ hx))).1
   ·have h1:=p3 _ (V3 _ hm) x (List.mem_append_left _ hx);by_cases hb:x.1=true
    ·have h2:bp (vx sA lo) x.2=true:=by simpa[RI,hb]using h1
     exact gR h2
    ·simpa[RI,hb]using h1
  ·rcases hhead with⟨_,e⟩| ⟨s,jb,es,e⟩
   ·rw[e];exact(bd x (List.mem_append_right _ (List.mem_append_left _ hx))).2
   ·rw[e];have h1:=p6 x hx (true,s) (inH s jb es);exact .inr (by simpa[RI]using h1)
theorem Oi (hr:room<=16384){h:Nat}{b:BT h}(G:Gb room d S h b):WB h b ⟨#[]⟩ ⟨#[]⟩:=PB hr h b _ _ G fun x _=>⟨JU _,.inl rfl⟩
end
end P
namespace P
open N
section
variable {x:TX}{d:Dk}{key:ByteArray}
variable {σ:Type}{st:σ->En->σ×Bool}{fr tt:ByteArray}
end
end P
namespace P
open N
section
variable {room:Nat}{d:Dk}{S:Dr}{x:TX}{root:Int}{E:List En}{X:List Int}{H:Nat}
theorem TS.low (T:TS room d S root E X H)(hE:E.length<=200):H<=7:=by
 rcases T.cnt.2 with h|h
 ·omega
 ·rcases Nat.lt_or_ge 7 H with h7|h7
  ·have:2^8<=2^H:=Nat.pow_le_pow_right (by omega) h7;omega
  ·exact h7
def Cap (room:Nat)(d:Dk)(E:List En):Prop:=∀(S:Dr) (root:Int) (X:List Int) (H:Nat),TS room d S root E X H->(X.length:Int)+4*H+4< (room:Int)-2
theorem Xa (hE:E.length<=200)(hr:400<=room):Cap room d E:=fun S root X H T=>by
 have h1:=T.cnt.1;have h2:=T.low hE;omega
theorem TS.flat (T:TS room d S root E X H)(hE:E.length<=3)(hz:cP E<80):H=0∧X.length<=1:=by
 rcases T with⟨a,b,c,e,f⟩| ⟨h,u,a,G,tb,e,rfl,rfl⟩
 ·subst c;exact⟨f,by simp⟩
 ·have T':TS room d S root E (dO u) h:=.inr ⟨h,u,a,G,tb,e,rfl,rfl⟩
  match h,u,G,tb,e,T' with
  |0,u,G,tb,e,T'=>exact⟨rfl,by simp[cC,bu,l8]⟩
  |1,u,G,tb,e,T'=>
   exfalso;obtain⟨p,b⟩:=u;obtain⟨K,ss,rfl⟩:=fG b;have hl:ss.length+1=K.length:=G.g.wl.1;have h1:K.length≠1:=tb;have kp:∀i,KP K ss i:=G.g.wl.2.1
   match K,ss,hl,h1,kp,e with
   |[],ss,hl,h1,kp,e=>simp at hl
   |[u],ss,hl,h1,kp,e=>exact h1 rfl
   |u::v::K,[],hl,h1,kp,e=>simp at hl
   |u::v::K,s::ss,hl,h1,kp,e=>
    have k0:=(kp 0 [] u v K [] s ss rfl rfl rfl).1 rfl;have e1:(show List En from u.2)++((show List En from v.2)++bO K)=E:=by rw[<-e];rfl
    have hz2:cP (show List En from u.2)+(cP (show List En from v.2)+cP (bO K))<80:=by rw[<-js,<-js,e1];exact hz
    have h3:bT 0 u.2=cP (show List En from u.2):=rfl;have h4:bT 0 v.2=cP (show List En from v.2):=rfl;have h5:=k0 (by rw[h3];omega);rw[oI,h3,h4,if_pos rfl]at h5;omega
  |h+2,u,G,tb,e,T'=>
   exfalso;rcases T'.cnt.2 with h0|h0
   ·omega
   ·have:2^2<=2^(h+2):=Nat.pow_le_pow_right (by omega) (by omega);omega
theorem V4 (hE:E.length<=3)(hz:cP E<80)(hr:8<=room):Cap room d E:=fun S root X H T=>by
 obtain⟨h1,h2⟩:=T.flat hE hz;omega
theorem Oj {σ:Type}{st:σ->En->σ×Bool}{fr tt:ByteArray}{s:σ}(hr:room<=16384)(T:TS room d (fh x) root E X H)(hH:H+1<24):∃b,fW x d st 25 s root 0 fr tt=some ((lZ st (gf fr tt E) s).1,(b,0)):=by
 rcases T with⟨rfl,rfl,rfl,sd,rfl⟩| ⟨h,u,rfl,G,tb,rfl,rfl,rfl⟩
 ·have hrd:dL x d 0 0=(⟨true,[],[],[]⟩,0):=by unfold dL;rw[if_pos rfl];rfl
  exact⟨_,vu (l:=[]) hrd (by decide) (by decide) (by omega) List.Pairwise.nil⟩
 ·exact⟨_,DR hr h u 0 25 fr tt s G.g G.rd (by omega) (by omega)⟩
def WhP (s:List Pg)(root:Int)(E:List En)(X:List Int)(H:Nat):Prop:=
 (root=0∧s=[]∧E=[]∧X=[]∧H=0)∨(root≠0∧∃h,∃u:KT h,u.1=root∧s=FI h 0 u∧WB h u.2 ⟨#[]⟩ ⟨#[]⟩∧dW h u.2=E∧dO u=X∧X.Nodup∧h=H∧Rg E)
theorem Xb (hr:room<=16384)(T:TS room d (fh x) root E X H)(hH:H+1<24)(hX:X.length<=100000):∃s,WhP s root E X H∧(root≠0->l7 x d 25 [] root 0=some (s,0)):=by
 have hrg:=T.rg;rcases T with⟨rfl,rfl,rfl,sd,rfl⟩| ⟨h,u,rfl,G,tb,rfl,rfl,rfl⟩
 ·exact⟨[],.inl ⟨rfl,rfl,rfl,rfl,rfl⟩,fun h=>absurd rfl h⟩
 ·have h0:u.1≠0:=by have:=G.us.lo;omega
  refine⟨FI h 0 u,.inr ⟨h0,h,u,rfl,rfl,Oi hr G.g,rfl,rfl,G.Jw.2.1,rfl,hrg⟩,fun _=>?_⟩;have:=DT hr h u 0 25 [] G.g G.rd G.Jw.2.1 (fun _ _ _ hp=>by cases hp) (by simpa using hX) (by omega) (by omega) (by omega);simpa using this
theorem PC:∀(l s:List En),lZ (fun(s:List En) y=>(s++[y],true)) l s=(s++l,true)
 |[],s=>by simp[lZ]
 |y::l,s=>by
  rw[lZ,if_neg (by simp)];show lZ _ l (s++[y])=_;rw[PC l (s++[y])];simp
theorem aaa:∀(l:List En),(lZ (fun(s:Option En) y=>(some y,false)) l none).1=l.head?
 |[]=>rfl
 |y::l=>by rw[lZ,if_pos rfl];rfl
end
end P
end Go.Proofs.YtdcpfbidcpfboaaGreatDoor
namespace Go.Proofs.YtdcpfbidcpfboaaGreatDoor
open Go.Shelf Go.RowKit Go.Lib Go.Sort
namespace P
open N (Nd nd0 cE dx dZ cP bW ji gp Sm dy En Ai yb ll pU fX cM ia jK iF lG gL iM Rg bp aY gD k8)
def aJ (B:Nat)(w0:World)(d:Dk)(C:Cx)(E:List En)(k:Nat)(l:List aN)(w:World):Prop:=
 ∃r x d1 P X H,Sep B w0 w (TL (C.eI r) x d1 P l)∧bI d d1∧Tx d.room d x r E X H∧Mn d.room x X∧x.cnt<=1000*k
section
variable {B:Nat}{w0 w w':World}{C:Cx}{d:Dk}{l:List aN}{key val fr tt:ByteArray}{E:List En}{k:Nat}
theorem aJ.of (h:aJ B w0 d C E k l w){l':List aN}(f:∀r x d1 P,Sep B w0 w (TL (C.eI r) x d1 P l)->Sep B w0 w' (TL (C.eI r) x d1 P l')):aJ B w0 d C E k l' w':=by
 obtain⟨r,x,d1,P,X,H,s,r1⟩:=h;exact⟨r,x,d1,P,X,H,f _ _ _ _ s,r1⟩
theorem aJ.rg (h:aJ B w0 d C E k l w):Rg E:=by
 obtain⟨r,x,d1,P,X,H,_,_,t,_⟩:=h;exact t.ts.rg
theorem aJ.xx {root:Int}{x:TX}{X:List Int}{H:Nat}(T:Tx d.room d x root E X H)(hE:E.length<=1000):H<=9∧X.length<=1800:=by
 have h1:=T.ts.cnt.1;rcases T.ts.cnt.2 with h|h
 ·omega
 ·rcases Nat.lt_or_ge 9 H with h7|h7
  ·have:2^10<=2^H:=Nat.pow_le_pow_right (by omega) h7;omega
  ·omega
theorem JV {X:List Int}{H:Nat}{x:TX}{r er:Int}{P:List NV}{d1:Dk}{E':List En}(cap:Cap d.room d E)(hd:bI d d1)(T:Tx d.room d x r E X H)(M:Mn d.room x X)(hE:E.length<=200)(hE':E'.length<=201)(hk:x.cnt<=1000*k)(g:GX B w0 (C.eI r) x d P l X H E' er w):er=0∧aJ B w0 d C E' (k+1) l w:=by
 obtain⟨P',d',m1,m2,m3⟩:=g;rcases m3 with⟨_,hc,_⟩| ⟨he,x',r',X',H',T',M',hcnt,s⟩
 ·have h1:=hc M;have h2:=M.cap;have h3:=cap _ _ _ _ T.ts;omega
 ·refine⟨he,r',x',d',P',X',H',s,m2,T',M' M,?_⟩;have h1:=T.ts.low hE;have h2:=T.ts.cnt.1;have h4:=T'.ts.cnt.1;have h5:H'<=7:=by
   rcases T'.ts.cnt.2 with h|h
   ·omega
   ·rcases Nat.lt_or_ge 7 H' with h7|h7
    ·have:2^8<=2^H':=Nat.pow_le_pow_right (by omega) h7;omega
    ·exact h7
  omega
theorem DV (T:cd B w0)(hr:d.room<=16384)(h0:C.err=0)(hm:cM key val=true)(cap:Cap d.room d E)(hE:E.length<=200)(hk:k<=700)(h:aJ B w0 d C E k l w):
  Calls Tryz.prog 25 #[ptr C.tq,.string key,.string val] w fun e w'=>e=.returned (.int .i64 0)∧aJ B w0 d C (jK E key val) (k+1) l w':=by
 obtain⟨r,x,d1,P,X,H,s,hd,TT,M,hc⟩:=h;have hh:=aJ.xx TT (by omega);refine(SD (key:=key) (val:=val) T hr hd s h0 hm TT (by omega) (by omega) (by omega)).mono fun e w' ⟨er,he,g⟩=>?_;obtain⟨h1,h2⟩:=JV cap hd TT M hE (by
  have:=DG key val E
  have e1:(Pp key val E).length=(jK E key val).length:=by unfold Pp;rw[if_pos (by rw[hm,gD TT.ts.rg];rfl)]
  omega) hc g
 rw[h1]at he;exact⟨he,h2⟩
theorem DW (T:cd B w0)(hr:d.room<=16384)(h0:C.err=0)(cap:Cap d.room d E)(hE:E.length<=200)(hk:k<=700)(h:aJ B w0 d C E k l w):
  Calls Tryz.prog 47 #[ptr C.tq,.string key] w fun e w'=>e=.returned (.tuple #[.bool (gL E key),.int .i64 0])∧aJ B w0 d C (iF E key) (k+1) l w':=by
 obtain⟨r,x,d1,P,X,H,s,hd,TT,M,hc⟩:=h;have hh:=aJ.xx TT (by omega);refine(SG (key:=key) T hr hd s h0 TT (by omega) (by omega) (by omega)).mono fun e w' ⟨er,he,g⟩=>?_;obtain⟨h1,h2⟩:=JV cap hd TT M hE (by
  have:=List.length_filter_le (fun x:En=>!decide (x.1=key)) E
  show(List.filter _ _).length<=_
  omega) hc g
 rw[h1]at he;exact⟨by rw[he];simp,h2⟩
theorem Zb (h0:C.err=0)(h1:fX key val≠0)(h:aJ B w0 d C E k l w):
  Calls Tryz.prog 25 #[ptr C.tq,.string key,.string val] w fun e w'=>e=.returned (.int .i64 (fX key val))∧aJ B w0 d C E k l w':=by
 obtain⟨r,x,d1,P,X,H,s,hd,TT,M,hc⟩:=h;exact(Od (C:=C.eI r) s h0 h1).mono fun e w' ⟨he,s'⟩=>⟨he,r,x,d1,P,X,H,s',hd,TT,M,hc⟩
theorem Ol (T:cd B w0)(hr:d.room<=16384)(h0:C.err=0)(hE:E.length<=1000)(h:aJ B w0 d C E k l w):
  Calls Tryz.prog 73 #[ptr C.tq,.string key] w fun e w'=>e=.returned (.tuple #[.string (iM E key),.bool (gL E key),.int .i64 0])∧aJ B w0 d C E k l w':=by
 obtain⟨r,x,d1,P,X,H,s,hd,TT,M,hc⟩:=h;have hh:=aJ.xx TT (by omega);refine(SK (key:=key) T hr hd s h0 TT (by omega)).mono fun e w' ⟨he,P',d',m1,m2,s'⟩=>⟨he,r,x,d',P',X,H,s',m2,TT,M,hc⟩
theorem JW (T:cd B w0)(hr:d.room<=16384)(h0:C.err=0)(hE:E.length<=1000)(h:aJ B w0 d C E k l w):
  Calls Tryz.prog 27 #[ptr C.tq,.string fr,.string tt] w fun e w'=>∃ao c,e=.returned (.tuple #[.slice ao (gf fr tt E).length c,.int .i64 0])∧aJ B w0 d C E k (vt (.slice ao (gf fr tt E).length c) (gf fr tt E)::l) w':=by
 obtain⟨r,x,d1,P,X,H,s,hd,TT,M,hc⟩:=h;have hh:=aJ.xx TT (by omega);obtain⟨b,hb⟩:=Oj (st:=SS) (fr:=fr) (tt:=tt) (s:=[]) hr TT.ts (by omega);have e1:(lZ SS (gf fr tt E) []).1=gf fr tt E:=by
  have:=PC (gf fr tt E) [];rw[show lZ SS (gf fr tt E) []=_ from this];rfl
 rw[e1]at hb;have hl:(gf fr tt E).length<=900000:=by
  have:=List.length_filter_le (fun e:En=>!bp e.1 fr&&bF tt e.1) E;unfold gf;omega
 refine(SV (C:=C.eI r) T hr TT.ts.sd.x TT.ts.sd.bz h0 (TT.ts.wf hr) hd hb hl (fun _=>rfl) (fun h=>absurd rfl h) s).mono fun e w' ⟨v,he,h2,_,P',d',m1,m2,s'⟩=>?_;obtain⟨ao,c,rfl⟩:=h2 rfl;exact⟨ao,c,he,r,x,d',P',X,H,s',m2,TT,M,hc⟩
theorem Xc (h:aJ B w0 d C E k l w)(h0:C.err=0):Calls Tryz.prog 67 #[ptr C.tq] w fun e w'=>e=.returned (.int .i64 0)∧w=w':=by
 obtain⟨r,x,d1,P,X,H,s,hd,TT,M,hc⟩:=h;have:=VN s;rw[show(C.eI r).err=0 from h0]at this;exact this
end
end P
namespace P
open N (Nd En fX cM jK iF gL iM Rg bp cP)
section
variable {B:Nat}{w0 w w':World}{C:Cx}{d:Dk}{l:List aN}
theorem zM {n:Int}(h2:2<=n)(h:n<=16384):(Dk.new n).room=n.toNat:=by
 unfold Dk.room Dk.new;simp only[List.length_replicate];omega
theorem JX {tq t f b room:Nat}(hr:d.room=room)(h2:2<=room)(s:Sep B w0 w (TL ⟨0,tq,t,f,b,0,0⟩ (TX.new [] 2 room) d [] l)):aJ B w0 d ⟨0,tq,t,f,b,0,0⟩ [] 0 l w:=by
 subst hr;have ok:=TX.Al [] 2 h2;have hfr:∀p,(TX.new [] 2 d.room).fresh p=none:=fun _=>rfl;refine⟨0,TX.new [] 2 d.room,d,[],[],0,s,bI.refl d,⟨.inl ⟨rfl,rfl,rfl,sd0 ok (fun q c hc=>by rw[hfr q]at hc;cases hc),rfl⟩,fun p hp=>by rw[hfr p]at hp;cases hp⟩,⟨fun _ hp=>(by cases hp),?_⟩,?_⟩
 ·have hp:(TX.new [] 2 d.room).pages=2:=by
   show cO 2 d.room=2;unfold cO;omega
  have hf:(TX.new [] 2 d.room).free=[]:=by
   show uF [] [(2,(cO 2 d.room:Int)-1)]=[];have hc:=om [] [(2,(cO 2 d.room:Int)-1)];have hi:=oo [] [(2,(cO 2 d.room:Int)-1)];generalize uF [] [(2,(cO 2 d.room:Int)-1)]=m at*;cases m with
   |nil=>rfl
   |cons r s=>
    obtain⟨⟨a1,a2,a3⟩,_⟩:=bD.1 hc;have h1:=((hi r.1).1 ⟨a1,by omega,r,by simp,by omega,a2⟩).1;obtain⟨_,_,q,hq,_⟩:=h1;cases hq
  unfold TX.cap;rw[hp,hf];show(jx []:Int)+_+_=_;rw[qg];simp
 ·exact Nat.zero_le _
end
end P
namespace P
open N (bf hidR ar ai Ch aP ah waits En bp Rg cM aY jK iF gL iM)
theorem JY (k1 k2:ByteArray)(w:World):(Instr.index 87 (.agg #[.string k1,.string k2]) (.int .i64 0)).run Tryz.prog w=.ok (.string k1) w:=by kernel_rfl
theorem Tb (k1 k2:ByteArray)(w:World):(Instr.index 87 (.agg #[.string k1,.string k2]) (.int .i64 1)).run Tryz.prog w=.ok (.string k2) w:=by kernel_rfl
theorem Bu {u v:Int}(h:dR u v=0):dR (cf u v).1 (cf u v).2=0:=by
 obtain⟨a,b,c⟩:=eG.1 h;unfold cf;rw[if_pos ⟨by rw[a,b];rfl,c⟩];rcases(by omega:u<=v∨v<=u)with e|e
 ·rw[Int.min_eq_left e,Int.max_eq_right e];exact h
 ·rw[Int.min_eq_right e,Int.max_eq_left e];exact vR h
section
variable {B:Nat}{w0 w w':World}{C:Cx}{d:Dk}{l:List aN}{E:List En}{k q n:Nat}
theorem aJ.blk (h:aJ B w0 d C E k l w)(o:Obj):aJ B w0 d C E k (ax w.heap.size o::l) (w.alloc o):=h.of fun _ _ _ _ s=>Sep.pb [_,_,_,_] (s.aQ o)
theorem aJ.sep (h:aJ B w0 d C E k l w):Sep B w0 w l:=by
 obtain⟨r,x,d1,P,X,H,s,_⟩:=h;exact Sep.drop (Sep.drop (Sep.drop (Sep.drop s)))
theorem aJ.below (h:aJ B w0 d C E k l w)(hb:Below w.heap.size w w'):aJ B w0 d C E k l w':=by
 obtain⟨r,x,d1,P,X,H,s,r1⟩:=h;exact⟨r,x,d1,P,X,H,s.below hb,r1⟩
def cI (q:Nat)(C:Cx):aN:=ax q (.cells #[ptr C.tq] 139)
theorem aJ.aj (h:aJ B w0 d C E k (cI q C::l) w):w.cell? ⟨q,0,none⟩=some (ptr C.tq)∧q<w.heap.size:=by
 obtain⟨a,b,_⟩:=Sep.c1 h.sep;exact⟨b,a⟩
theorem anew (h:aJ B w0 d C E k l w):Calls Tryz.prog 39 #[ptr C.tq] w fun e w'=>∃q,e=.returned (ptr q)∧aJ B w0 d C E k (cI q C::l) w':=by
 have S1:Hid (aJ B w0 d C E k (cI w.heap.size C::l) (w.alloc (.cells #[ptr C.tq] 139))):=h.blk _;clear h;unfold ptr at*;go_enter Tryz.func39,Tryz.ntmps39;go_wp2;go_ret;exact⟨_,rfl,S1.out⟩
theorem DX (h:aJ B w0 d C E k (cI q C::l) w):Calls Tryz.prog 42 #[ptr q] w fun e w'=>e=.returned (ptr C.tq)∧w=w':=by
 obtain⟨c0,hq⟩:=h.aj;clear h;unfold ptr at*;go_enter Tryz.func42,Tryz.ntmps42;go_wp2;go_ret;exact⟨rfl,rfl⟩
end
def JBo (W:World)(qa qb:Nat)(u v:Int)(k1 k2:ByteArray)(C:List Bool->Act->Prop)(w:World):Prop:=∀{f0 f1 f2 f3 f4 f5 f6 f7 f8 f9 f10 f11:Bool}{x3 x4 x5 x6 x7 x8 x9 ov tF qu tG:Value},f11=false->Below W.heap.size W w->Hid (f0=true->x3=.pointer (some ⟨qa,0,none⟩))->Hid (f1=true->x4=.int .i64 u)->Hid (f2=true->x5=.pointer (some ⟨qa,1,none⟩))->Hid (f3=true->x6=.int .i64 v)->Hid (f4=true->x7=.string k1)->Hid (f5=true->x8=.pointer (some ⟨qa,1,none⟩))->Hid (f6=true->x9=.int .i64 v)->Hid (f7=true->ov=.pointer (some ⟨qa,0,none⟩))->Hid (f8=true->tF=.int .i64 u)->Hid (f9=true->qu=.string k2)->Hid (f10=true->tG=.agg #[.string k1,.string k2])->C [f0,f1,f2,f3,f4,f5,f6,f7,f8,f9,f10,f11] {tmps:=#[.agg #[.int .i64 u,.int .i64 v],.pointer (some ⟨qa,0,none⟩),.pointer (some ⟨qb,0,none⟩),x3,x4,x5,x6,x7,x8,x9,ov,tF,qu,tG],defers:=[]}
theorem JZ (u v:Int)(w:World):Calls Tryz.prog 43 #[.agg #[.int .i64 u,.int .i64 v]] w fun e w'=>e=.returned (.agg #[.string (bQ u v),.string (bQ v u)])∧Below w.heap.size w w':=by
 have K1:Hid (∀w,Calls Tryz.prog 20 #[.int .i64 u,.int .i64 v] w fun e w'=>e=.returned (.string (bQ u v))∧Below w.heap.size w w'):=jV u v;have K2:Hid (∀w,Calls Tryz.prog 20 #[.int .i64 v,.int .i64 u] w fun e w'=>e=.returned (.string (bQ v u))∧Below w.heap.size w w'):=jV v u;generalize bQ u v=k1 at*;generalize bQ v u=k2 at*;have HC0:∀W,W=((w.alloc (.cells #[.int .i64 u,.int .i64 v] 35)).alloc (.cells #[.string ⟨#[]⟩,.string ⟨#[]⟩] 87))->(∀w',Below W.heap.size W w'->w'.cell? ⟨w.heap.size,0,none⟩=some (.int .i64 u)∧w'.cell? ⟨w.heap.size,1,none⟩=some (.int .i64 v))∧(∀w',Below W.heap.size W w'->Cl w' (w.heap.size+1) #[.string ⟨#[]⟩,.string ⟨#[]⟩] 87)∧((w.heap.size<=W.heap.size∧w.heap.size<=w.heap.size+1)∧Below w.heap.size w W):=by
  intro W hW;have k1:Cl W w.heap.size #[.int .i64 u,.int .i64 v] 35:=by rw[hW];exact(Cl.new w _ _).alloc _
  have k2:Cl W (w.heap.size+1) #[.string ⟨#[]⟩,.string ⟨#[]⟩] 87:=by
   rw[hW];have:=Cl.new (w.alloc (.cells #[.int .i64 u,.int .i64 v] 35)) #[.string ⟨#[]⟩,.string ⟨#[]⟩] 87
   rwa [show(w.alloc (.cells #[.int .i64 u,.int .i64 v] 35)).heap.size=w.heap.size+1 by simp]at this
  refine⟨fun w' h=>(k1.on h).two,fun w' h=>k2.on h,⟨by rw[hW];simp;omega,by omega⟩,?_⟩;rw[hW];exact((Below.refl _ w).alloc (Nat.le_refl _) _).alloc (by simp) _
 obtain⟨hc,hq,hw⟩:=HC0 _ rfl;have HC:Hid _:=hc;have HQ:Hid _:=hq;have HW:Hid _:=hw;clear HC0 hc hq hw;go_enter Tryz.func43,Tryz.ntmps43
 go_wp2_with fail
 generalize(w.alloc (.cells #[.int .i64 u,.int .i64 v] 35)).alloc (.cells #[.string ⟨#[]⟩,.string ⟨#[]⟩] 87)=W at*;generalize w.heap.size+1=qb at*;refine bf 11 (JBo W w.heap.size qb u v k1 k2) (by kernel_rfl) (by kernel_rfl) (by kernel_rfl) (fun _ k=>k rfl ((Below.refl _ _).drew) ar ar ar ar ar ar ar ar ar ar ar) ?_ ?_ ?_
 ·intro i w' hne f0 f1 f2 f3 f4 f5 f6 f7 f8 f9 f10 f11 x3 x4 x5 x6 x7 x8 x9 ov tF qu tG e11 hB h0 h1 h2 h3 h4 h5 h6 h7 h8 h9 h10 hi;obtain⟨hlt,hun,_⟩:=aP hi;have hlt':i<12:=hlt;clear hlt;rcases(by omega:i=0∨i=1∨i=2∨i=3∨i=4∨i=5∨i=6∨i=7∨i=8∨i=9∨i=10)with rfl|rfl|rfl|rfl|rfl|rfl|rfl|rfl|rfl|rfl|rfl
  ·refine ai rfl fun K HK=>?_;go_simp;exact HK.out _ _ fun _ k=>k e11 hB hidR h1 h2 h3 h4 h5 h6 h7 h8 h9 h10
  ·cases h0 (ah 0 hi (by kernel_rfl));obtain⟨c0,c1⟩:=HC.out _ hB;refine ai rfl fun K HK=>?_;go_simp;exact HK.out _ _ fun _ k=>k e11 hB h0 hidR h2 h3 h4 h5 h6 h7 h8 h9 h10
  ·refine ai rfl fun K HK=>?_;go_simp;exact HK.out _ _ fun _ k=>k e11 hB h0 h1 hidR h3 h4 h5 h6 h7 h8 h9 h10
  ·cases h2 (ah 2 hi (by kernel_rfl));obtain⟨c0,c1⟩:=HC.out _ hB;refine ai rfl fun K HK=>?_;go_simp;exact HK.out _ _ fun _ k=>k e11 hB h0 h1 h2 hidR h4 h5 h6 h7 h8 h9 h10
  ·cases h1 (ah 1 hi (by kernel_rfl));cases h3 (ah 3 hi (by kernel_rfl));refine ai rfl fun K HK=>?_;go_simp;refine Calls.mono (K1.out _) ?_;rintro e u4 ⟨rfl,b4⟩;exact HK.out _ _ fun _ k=>k e11 (hB.trans (b4.mono hB.size)) h0 h1 h2 h3 hidR h5 h6 h7 h8 h9 h10
  ·refine ai rfl fun K HK=>?_;go_simp;exact HK.out _ _ fun _ k=>k e11 hB h0 h1 h2 h3 h4 hidR h6 h7 h8 h9 h10
  ·cases h5 (ah 5 hi (by kernel_rfl));obtain⟨c0,c1⟩:=HC.out _ hB;refine ai rfl fun K HK=>?_;go_simp;exact HK.out _ _ fun _ k=>k e11 hB h0 h1 h2 h3 h4 h5 hidR h7 h8 h9 h10
  ·refine ai rfl fun K HK=>?_;go_simp;exact HK.out _ _ fun _ k=>k e11 hB h0 h1 h2 h3 h4 h5 h6 hidR h8 h9 h10
  ·cases h7 (ah 7 hi (by kernel_rfl));obtain⟨c0,c1⟩:=HC.out _ hB;refine ai rfl fun K HK=>?_;go_simp;exact HK.out _ _ fun _ k=>k e11 hB h0 h1 h2 h3 h4 h5 h6 h7 hidR h9 h10
  ·cases h4 (ah 4 hi (by kernel_rfl));cases h6 (ah 6 hi (by kernel_rfl));cases h8 (ah 8 hi (by kernel_rfl));refine ai rfl fun K HK=>?_;go_simp;refine Calls.mono (K2.out _) ?_;rintro e u4 ⟨rfl,b4⟩;exact HK.out _ _ fun _ k=>k e11 (hB.trans (b4.mono hB.size)) h0 h1 h2 h3 h4 h5 h6 h7 h8 hidR h10
  ·cases h4 (ah 4 hi (by kernel_rfl));cases h9 (ah 9 hi (by kernel_rfl));refine ai rfl fun K HK=>?_;go_simp;exact HK.out _ _ fun _ k=>k e11 hB h0 h1 h2 h3 h4 h5 h6 h7 h8 h9 hidR
 ·intro w' f0 f1 f2 f3 f4 f5 f6 f7 f8 f9 f10 f11 x3 x4 x5 x6 x7 x8 x9 ov tF qu tG e11 hB h0 h1 h2 h3 h4 h5 h6 h7 h8 h9 h10 hi;have d10:f10=true:=ah 10 hi (by kernel_rfl);cases h10 d10;clear hi;have kq:=HQ.out _ hB;have f0:=kq.frozen 0;have f1:=kq.frozen 1;obtain⟨q0,q1⟩:=kq.two;have ks:=kq.set2 (.string k1) (.string k2);have HB2:Hid (Below w.heap.size w ((w'.setCell ⟨qb,0,none⟩ (.string k1)).setCell ⟨qb,1,none⟩ (.string k2))):=by
   have h1:=HW.out.2.trans (hB.mono HW.out.1.1);exact(h1.setCell HW.out.1.2 _).setCell HW.out.1.2 _
  obtain⟨z0,z1⟩:=ks.two;have Z0:Hid _:=z0;have Z1:Hid _:=z1;clear z0 z1 ks kq;refine ai rfl fun K HK=>?_;go_simp;refine HK.out _ _ ?_;clear q0 q1 f0 f1;generalize(w'.setCell ⟨qb,0,none⟩ (.string k1)).setCell ⟨qb,1,none⟩ (.string k2)=w9 at*;have z0:=Z0.out;have z1:=Z1.out;clear hB h0 h1 h2 h3 h4 h5 h6 h7 h8 h9 h10;go_wp2;refine bodyPost_ret (v:=.agg #[.string k1,.string k2]) ?_ rfl ⟨rfl,HB2.out⟩;rw[bC rfl];go_simp
 ·intro _ _;intros;assumption
section
variable {B:Nat}{w0 w w':World}{C:Cx}{d:Dk}{l:List aN}{E:List En}{k q n:Nat}
theorem PD (u v:Int)(T:cd B w0)(hr:d.room<=16384)(h0:C.err=0)(hE:E.length<=1000)(hm:dR u v=0)(h:aJ B w0 d C E k (cI q C::l) w):
  Calls Tryz.prog 46 #[ptr q,.agg #[.int .i64 u,.int .i64 v]] w fun e w'=>e=.returned (.tuple #[.bool (jG E u v).1,.bool (jG E u v).2,.int .i64 0])∧aJ B w0 d C E k (cI q C::l) w':=by
 have KB:Hid (∀w,Calls Tryz.prog 43 #[.agg #[.int .i64 u,.int .i64 v]] w fun e w'=>e=.returned (.agg #[.string (bQ u v),.string (bQ v u)])∧Below w.heap.size w w'):=JZ u v;have KK:Hid (∀w,aJ B w0 d C E k (cI q C::l) w->Calls Tryz.prog 42 #[ptr q] w fun e w'=>e=.returned (ptr C.tq)∧w=w'):=fun w h=>DX h;have KG:Hid (∀w,aJ B w0 d C E k (cI q C::l) w->Calls Tryz.prog 73 #[ptr C.tq,.string (bQ u v)] w fun e w'=>e=.returned (.tuple #[.string (iM E (bQ u v)),.bool (gL E (bQ u v)),.int .i64 0])∧aJ B w0 d C E k (cI q C::l) w'):=fun w h=>Ol T hr h0 hE h;have KP:Hid (∀w,Calls Tryz.prog 21 #[.agg #[.string (bQ u v),.string (iM E (bQ u v))]] w fun e w'=>e=.returned (.tuple #[.int .i64 (dK (bQ u v,iM E (bQ u v))).1.1,.int .i64 (dK (bQ u v,iM E (bQ u v))).1.2.1,.bool (dK (bQ u v,iM E (bQ u v))).1.2.2,.bool (dK (bQ u v,iM E (bQ u v))).2])∧Below w.heap.size w w'):=fun w=>ju (bQ u v,iM E (bQ u v)) w (by have:=aY.1 (nw hm true);show(bQ u v).size<=_;unfold maxLen;omega);have HS:Hid (∀o,aJ B w0 d C E k (cI q C::l) (w.alloc o)):=fun o=>h.below ((Below.refl _ _).alloc (Nat.le_refl _) _);have Tc:Hid (jG E u v=if gL E (bQ u v)=true then((dK (bQ u v,iM E (bQ u v))).1.2.2,(dK (bQ u v,iM E (bQ u v))).2)else(false,false)):=rfl;clear h T hr h0 hE hm;generalize dK (bQ u v,iM E (bQ u v))=pr at*;obtain⟨⟨p1,p2,p3⟩,p4⟩:=pr;simp only at KP Tc;generalize iM E (bQ u v)=gv at*;generalize jG E u v=ge at*;unfold ptr at*;cases hf:gL E (bQ u v)with
 |true=>
  rw[hf]at KG Tc;have HG:Hid (ge=(p3,p4)):=by have:=Tc.out;rw[if_pos rfl]at this;exact this
  rw[HG.out];clear hf Tc;generalize bQ u v=k1 at*;generalize bQ v u=k2 at*;go_enter Tryz.func46,Tryz.ntmps46
  go_wp2_with fail
  refine Calls.mono (KB.out _) ?_;rintro e w1 ⟨rfl,b1⟩;have S1:Hid (aJ B w0 d C E k (cI q C::l) w1):=(HS.out _).below b1;clear KB b1;have hix:=JY k1 k2
  go_wp2_with fail
  clear hix;refine Calls.mono (KK.out _ S1.out) ?_;rintro e w2 ⟨rfl,rfl⟩;have K3:Hid _:=KG.out _ S1.out;clear KK KG S1
  go_wp2_with fail
  refine Calls.mono K3.out ?_;rintro e w3 ⟨rfl,s3⟩;have S3:Hid _:=s3;clear K3 s3
  go_wp2_with fail
  refine Calls.mono (KP.out _) ?_;rintro e w4 ⟨rfl,b4⟩;have S4:Hid (aJ B w0 d C E k (cI q C::l) w4):=aJ.below S3.out b4;clear KP S3 b4;go_wp2
  go_ret3
  exact⟨rfl,S4.out⟩
 |false=>
  rw[hf]at KG Tc;have HG:Hid (ge=(false,false)):=by have:=Tc.out;rw[if_neg (by simp)]at this;exact this
  rw[HG.out];clear hf Tc KP;generalize bQ u v=k1 at*;generalize bQ v u=k2 at*;go_enter Tryz.func46,Tryz.ntmps46
  go_wp2_with fail
  refine Calls.mono (KB.out _) ?_;rintro e w1 ⟨rfl,b1⟩;have S1:Hid (aJ B w0 d C E k (cI q C::l) w1):=(HS.out _).below b1;clear KB b1;have hix:=JY k1 k2
  go_wp2_with fail
  clear hix;refine Calls.mono (KK.out _ S1.out) ?_;rintro e w2 ⟨rfl,rfl⟩;have K3:Hid _:=KG.out _ S1.out;clear KK KG S1
  go_wp2_with fail
  refine Calls.mono K3.out ?_;rintro e w3 ⟨rfl,s3⟩;have S3:Hid _:=s3;clear K3 s3;go_wp2
  go_ret3
  exact⟨rfl,S3.out⟩
theorem Zc (u v:Int)(T:cd B w0)(hr:d.room<=16384)(h0:C.err=0)(hE:E.length<=1000)(h:aJ B w0 d C E k (cI q C::l) w):
  Calls Tryz.prog 34 #[ptr q,.int .i64 u,.int .i64 v] w fun e w'=>e=.returned (.tuple #[.bool (if dR u v=0 then(jG E (cf u v).1 (cf u v).2).1 else false),.bool (if dR u v=0 then(jG E (cf u v).1 (cf u v).2).2 else false),.int .i64 (dR u v)])∧aJ B w0 d C E k (cI q C::l) w':=by
 have KM:Hid _:=mM u v w;have HS:Hid (aJ B w0 d C E k (cI q C::l) w):=h;by_cases hm:dR u v=0
 ·have hp:=Bu hm;have KG:Hid (∀w,aJ B w0 d C E k (cI q C::l) w->Calls Tryz.prog 46 #[ptr q,.agg #[.int .i64 (cf u v).1,.int .i64 (cf u v).2]] w fun e w'=>e=.returned (.tuple #[.bool (jG E (cf u v).1 (cf u v).2).1,.bool (jG E (cf u v).1 (cf u v).2).2,.int .i64 0])∧aJ B w0 d C E k (cI q C::l) w'):=fun w h=>PD _ _ T hr h0 hE hp h;rw[if_pos hm,if_pos hm,hm];rw[hm]at KM;clear h T hr h0 hE hm hp;generalize jG E (cf u v).1 (cf u v).2=ge at*;generalize cf u v=p at*;obtain⟨p1,p2⟩:=p;obtain⟨g1,g2⟩:=ge;simp only at KM KG;unfold ptr at*;go_enter Tryz.func34,Tryz.ntmps34
  go_wp2_with fail
  refine Calls.mono KM.out ?_;rintro e w1 ⟨rfl,b1⟩;have S1:Hid (∀o,aJ B w0 d C E k (cI q C::l) (w1.alloc o)):=fun o=>(HS.out.below b1).below ((Below.refl _ _).alloc (Nat.le_refl _) _);clear KM HS b1
  go_wp2_with fail
  refine Calls.mono (KG.out _ (S1.out _)) ?_;rintro e w2 ⟨rfl,s2⟩;have S2:Hid _:=s2;clear KG S1 s2;go_wp2
  go_ret3
  exact⟨rfl,S2.out⟩
 ·have hb:(dR u v != 0)=true:=bne_iff_ne.2 hm;rw[if_neg hm,if_neg hm];clear h T hr h0 hE hm;generalize dR u v=er at*;generalize cf u v=p at*;obtain⟨p1,p2⟩:=p;simp only at KM;unfold ptr at*;go_enter Tryz.func34,Tryz.ntmps34
  go_wp2_with fail
  refine Calls.mono KM.out ?_;rintro e w1 ⟨rfl,b1⟩;have S1:Hid (∀o,aJ B w0 d C E k (cI q C::l) (w1.alloc o)):=fun o=>(HS.out.below b1).below ((Below.refl _ _).alloc (Nat.le_refl _) _);clear KM HS b1;go_wp2
  go_ret3
  exact⟨rfl,S1.out _⟩
end
end P
namespace P
open N (En bp Rg cM aY jK iF gL iM)
section
variable {B:Nat}{w0 w w':World}{C:Cx}{d:Dk}{l:List aN}{E:List En}{k q n:Nat}
theorem qY {E:List En}{key val:ByteArray}:(jK E key val).length<=E.length+1:=by
 unfold jK;rw[xu];have:=List.length_filter_le (fun x:En=>!decide (x.1=key)) E;unfold iF;omega
theorem qZ {E:List En}{key:ByteArray}:(iF E key).length<=E.length:=List.length_filter_le (fun x:En=>!decide (x.1=key)) E
theorem Xd {E:List En}{u v:Int}{b:Bool}:(uj E u v b).length<=E.length+2:=by
 have h1:=qY (E:=jK E (bQ u v) (tN b)) (key:=bQ v u) (val:=tN b);have h2:=qY (E:=E) (key:=bQ u v) (val:=tN b);unfold uj;omega
theorem Xe {E:List En}{u v:Int}:(Bg E u v).length<=E.length:=Nat.le_trans qZ qZ
theorem Td (u v:Int)(b:Bool)(T:cd B w0)(hr:d.room<=16384)(h0:C.err=0)(HC:∀E',E'.length<=n->Cap d.room d E')(hE:E.length+2<=n)(hn:n<=200)(hk:k+1<=700)(h:aJ B w0 d C E k (cI q C::l) w):
  Calls Tryz.prog 12 #[ptr q,.int .i64 u,.int .i64 v,.bool b] w fun e w'=>e=.returned (.int .i64 (dR u v))∧(dR u v≠0->aJ B w0 d C E k (cI q C::l) w')∧(dR u v=0->aJ B w0 d C (uj E (cf u v).1 (cf u v).2 b) (k+2) (cI q C::l) w'):=by
 have KM:Hid _:=mM u v w;have HS:Hid (aJ B w0 d C E k (cI q C::l) w):=h;by_cases hm:dR u v=0
 ·have hp:=Bu hm;have KB:Hid (∀w,Calls Tryz.prog 43 #[.agg #[.int .i64 (cf u v).1,.int .i64 (cf u v).2]] w fun e w'=>e=.returned (.agg #[.string (bQ (cf u v).1 (cf u v).2),.string (bQ (cf u v).2 (cf u v).1)])∧Below w.heap.size w w'):=JZ _ _;have KK:Hid (∀w,aJ B w0 d C E k (cI q C::l) w->Calls Tryz.prog 42 #[ptr q] w fun e w'=>e=.returned (ptr C.tq)∧w=w'):=fun w h=>DX h;have P1:Hid (∀w,aJ B w0 d C E k (cI q C::l) w->Calls Tryz.prog 25 #[ptr C.tq,.string (bQ (cf u v).1 (cf u v).2),.string (tN b)] w fun e w'=>e=.returned (.int .i64 0)∧aJ B w0 d C (jK E (bQ (cf u v).1 (cf u v).2) (tN b)) (k+1) (cI q C::l) w'):=fun w h=>DV T hr h0 (nw hp b) (HC _ (by omega)) (by omega) (by omega) h;have P2:Hid (∀w,aJ B w0 d C (jK E (bQ (cf u v).1 (cf u v).2) (tN b)) (k+1) (cI q C::l) w->Calls Tryz.prog 25 #[ptr C.tq,.string (bQ (cf u v).2 (cf u v).1),.string (tN b)] w fun e w'=>e=.returned (.int .i64 0)∧aJ B w0 d C (uj E (cf u v).1 (cf u v).2 b) (k+2) (cI q C::l) w'):=fun w h=>DV T hr h0 (nw (vR hp) b) (HC _ (by have:=qY (E:=E) (key:=bQ (cf u v).1 (cf u v).2) (val:=tN b);omega)) (by have:=qY (E:=E) (key:=bQ (cf u v).1 (cf u v).2) (val:=tN b);omega) (by omega) h;rw[hm];rw[hm]at KM;clear h T hr h0 hE hp hn hk HC;generalize uj E (cf u v).1 (cf u v).2 b=E2 at*;generalize jK E (bQ (cf u v).1 (cf u v).2) (tN b)=E1 at*;generalize bQ (cf u v).1 (cf u v).2=k1 at*;generalize bQ (cf u v).2 (cf u v).1=k2 at*;generalize cf u v=p at*;obtain⟨p1,p2⟩:=p;simp only at KM KB;unfold ptr at*;have HTT:Hid (tN true=⟨#[116]⟩∧tN false=⟨#[110]⟩):=⟨rfl,rfl⟩;cases b
  all_goals
   go_enter Tryz.func12,Tryz.ntmps12
   go_wp2_with fail
   refine Calls.mono KM.out ?_;rintro e w1 ⟨rfl,b1⟩;have S1:Hid (∀o,aJ B w0 d C E k (cI q C::l) (w1.alloc o)):=fun o=>(HS.out.below b1).below ((Below.refl _ _).alloc (Nat.le_refl _) _);obtain⟨z0,z1⟩:=(Cl.new w1 #[.int .i64 p1,.int .i64 p2] 35).two;clear KM HS b1
   go_wp2_with fail
  ·rw[HTT.out.2]at P1 P2;generalize(⟨#[110]⟩:ByteArray)=xv at*;refine Calls.mono (KK.out _ (S1.out _)) ?_;rintro e w2 ⟨rfl,rfl⟩;clear KK
   go_wp2_with fail
   refine Calls.mono (KB.out _) ?_;rintro e w3 ⟨rfl,b3⟩;have S3:Hid (aJ B w0 d C E k (cI q C::l) w3):=(S1.out _).below b3;clear KB b3 z0 z1 S1;have hi0:=JY k1 k2;have hi1:=Tb k1 k2;go_wp2
   go_loopg [30] 2 (fun kx Fp wr=>(Fp=.int .i64 0∧2<=kx∧Hid (aJ B w0 d C E k (cI q C::l) wr))∨(Fp=.int .i64 1∧1<=kx∧Hid (aJ B w0 d C E1 (k+1) (cI q C::l) wr))∨(Fp=.int .i64 2∧Hid (aJ B w0 d C E2 (k+2) (cI q C::l) wr)))
   case atStart=>exact .inl ⟨rfl,Nat.le_refl _,S3.out⟩
   case round=>
    clear S3;rcases hrel with⟨rfl,hk,HR⟩| ⟨rfl,hk,HR⟩| ⟨rfl,HR⟩
    ·have KP:Hid _:=P1.out _ HR.out;clear HR
     go_wp2_with fail
     refine Calls.mono KP.out ?_;rintro e w5 ⟨rfl,s5⟩;have S5:Hid (aJ B w0 d C E1 (k+1) (cI q C::l) w5):=s5;clear KP s5;go_wp2
     go_roundg 1
     case measure=>omega
     case rel=>exact .inr (.inl ⟨by go_num,Nat.le_refl _,S5.out⟩)
    ·have KP:Hid _:=P2.out _ HR.out;clear HR
     go_wp2_with fail
     refine Calls.mono KP.out ?_;rintro e w5 ⟨rfl,s5⟩;have S5:Hid (aJ B w0 d C E2 (k+2) (cI q C::l) w5):=s5;clear KP s5;go_wp2
     go_roundg 0
     case measure=>omega
     case rel=>exact .inr (.inr ⟨by go_num,S5.out⟩)
    ·go_wp2;go_ret;exact⟨rfl,fun h=>absurd rfl h,fun _=>HR.out⟩
  ·rw[HTT.out.1]at P1 P2;generalize(⟨#[116]⟩:ByteArray)=xv at*;refine Calls.mono (KK.out _ (S1.out _)) ?_;rintro e w2 ⟨rfl,rfl⟩;clear KK
   go_wp2_with fail
   refine Calls.mono (KB.out _) ?_;rintro e w3 ⟨rfl,b3⟩;have S3:Hid (aJ B w0 d C E k (cI q C::l) w3):=(S1.out _).below b3;clear KB b3 z0 z1 S1;have hi0:=JY k1 k2;have hi1:=Tb k1 k2;go_wp2
   go_loopg [30] 2 (fun kx Fp wr=>(Fp=.int .i64 0∧2<=kx∧Hid (aJ B w0 d C E k (cI q C::l) wr))∨(Fp=.int .i64 1∧1<=kx∧Hid (aJ B w0 d C E1 (k+1) (cI q C::l) wr))∨(Fp=.int .i64 2∧Hid (aJ B w0 d C E2 (k+2) (cI q C::l) wr)))
   case atStart=>exact .inl ⟨rfl,Nat.le_refl _,S3.out⟩
   case round=>
    clear S3;rcases hrel with⟨rfl,hk,HR⟩| ⟨rfl,hk,HR⟩| ⟨rfl,HR⟩
    ·have KP:Hid _:=P1.out _ HR.out;clear HR
     go_wp2_with fail
     refine Calls.mono KP.out ?_;rintro e w5 ⟨rfl,s5⟩;have S5:Hid (aJ B w0 d C E1 (k+1) (cI q C::l) w5):=s5;clear KP s5;go_wp2
     go_roundg 1
     case measure=>omega
     case rel=>exact .inr (.inl ⟨by go_num,Nat.le_refl _,S5.out⟩)
    ·have KP:Hid _:=P2.out _ HR.out;clear HR
     go_wp2_with fail
     refine Calls.mono KP.out ?_;rintro e w5 ⟨rfl,s5⟩;have S5:Hid (aJ B w0 d C E2 (k+2) (cI q C::l) w5):=s5;clear KP s5;go_wp2
     go_roundg 0
     case measure=>omega
     case rel=>exact .inr (.inr ⟨by go_num,S5.out⟩)
    ·go_wp2;go_ret;exact⟨rfl,fun h=>absurd rfl h,fun _=>HR.out⟩
 ·have hb:(dR u v != 0)=true:=bne_iff_ne.2 hm;have HM:Hid (dR u v≠0):=hm;clear h T hr h0 hE hm hn hk HC;generalize dR u v=er at*;generalize(cf u v).1=p1 at*;generalize(cf u v).2=p2 at*;unfold ptr at*;go_enter Tryz.func12,Tryz.ntmps12
  go_wp2_with fail
  refine Calls.mono KM.out ?_;rintro e w1 ⟨rfl,b1⟩;have S1:Hid (∀o,aJ B w0 d C E k (cI q C::l) (w1.alloc o)):=fun o=>(HS.out.below b1).below ((Below.refl _ _).alloc (Nat.le_refl _) _);clear KM HS b1;go_wp2;go_ret;exact⟨rfl,fun _=>S1.out _,fun h=>absurd h HM.out⟩
end
end P
namespace P
open N (En bp Rg cM aY jK iF gL iM)
section
variable {B:Nat}{w0 w w':World}{C:Cx}{d:Dk}{l:List aN}{E:List En}{k q n:Nat}
theorem aJ.swap {a b:aN}(h:aJ B w0 d C E k (a::b::l) w):aJ B w0 d C E k (b::a::l) w:=h.of fun _ _ _ _ s=>Sep.pb [_,_,_,_] (Sep.pk [_,_,_,_,_] s)
theorem aJ.FK {a:aN}(h:aJ B w0 d C E k (a::l) w):aJ B w0 d C E k l w:=h.of fun _ _ _ _ s=>Sep.drop (Sep.pk [_,_,_,_] s)
def Fq (E:List En)(u v:Int):Bool:=decide (dR u v=0)&&(jG E (cf u v).1 (cf u v).2).2
def GCl (B:Nat)(w0:World)(d:Dk)(C:Cx)(k q:Nat)(l:List aN)(b:Bool)(E E2:List En)(w:World):Prop:=(b=false->aJ B w0 d C E k (cI q C::l) w)∧(b=true->aJ B w0 d C E2 (k+2) (cI q C::l) w)
def Om (E:List En)(u v:Int):Int:=if dR u v=0 then(if(jG E (cf u v).1 (cf u v).2).2=true then 0 else 181)else dR u v
theorem Zd (u v:Int)(T:cd B w0)(hr:d.room<=16384)(h0:C.err=0)(HC:∀E',E'.length<=n->Cap d.room d E')(hE:E.length<=n)(hn:n<=200)(hk:k+1<=700)(h:aJ B w0 d C E k (cI q C::l) w):
  Calls Tryz.prog 15 #[ptr q,.int .i64 u,.int .i64 v] w fun e w'=>e=.returned (.int .i64 (Om E u v))∧GCl B w0 d C k q l (Fq E u v) E (Bg E (cf u v).1 (cf u v).2) w':=by
 have KM:Hid _:=mM u v w;have HS:Hid (aJ B w0 d C E k (cI q C::l) w):=h;by_cases hm:dR u v=0
 ·have hp:=Bu hm;have KB:Hid (∀w,Calls Tryz.prog 43 #[.agg #[.int .i64 (cf u v).1,.int .i64 (cf u v).2]] w fun e w'=>e=.returned (.agg #[.string (bQ (cf u v).1 (cf u v).2),.string (bQ (cf u v).2 (cf u v).1)])∧Below w.heap.size w w'):=JZ _ _;have KK:Hid (∀L w,aJ B w0 d C E k (cI q C::L) w->Calls Tryz.prog 42 #[ptr q] w fun e w'=>e=.returned (ptr C.tq)∧w=w'):=fun L w h=>DX h;have KG:Hid (∀L w,aJ B w0 d C E k (cI q C::L) w->Calls Tryz.prog 46 #[ptr q,.agg #[.int .i64 (cf u v).1,.int .i64 (cf u v).2]] w fun e w'=>e=.returned (.tuple #[.bool (jG E (cf u v).1 (cf u v).2).1,.bool (jG E (cf u v).1 (cf u v).2).2,.int .i64 0])∧aJ B w0 d C E k (cI q C::L) w'):=fun L w h=>PD _ _ T hr h0 (by omega) hp h;have P1:Hid (∀w,aJ B w0 d C E k (cI q C::l) w->Calls Tryz.prog 47 #[ptr C.tq,.string (bQ (cf u v).1 (cf u v).2)] w fun e w'=>e=.returned (.tuple #[.bool (gL E (bQ (cf u v).1 (cf u v).2)),.int .i64 0])∧aJ B w0 d C (iF E (bQ (cf u v).1 (cf u v).2)) (k+1) (cI q C::l) w'):=fun w h=>DW T hr h0 (HC _ (by omega)) (by omega) (by omega) h;have P2:Hid (∀w,aJ B w0 d C (iF E (bQ (cf u v).1 (cf u v).2)) (k+1) (cI q C::l) w->Calls Tryz.prog 47 #[ptr C.tq,.string (bQ (cf u v).2 (cf u v).1)] w fun e w'=>e=.returned (.tuple #[.bool (gL (iF E (bQ (cf u v).1 (cf u v).2)) (bQ (cf u v).2 (cf u v).1)),.int .i64 0])∧aJ B w0 d C (Bg E (cf u v).1 (cf u v).2) (k+2) (cI q C::l) w'):=fun w h=>DW T hr h0 (HC _ (by have:=qZ (E:=E) (key:=bQ (cf u v).1 (cf u v).2);omega)) (by have:=qZ (E:=E) (key:=bQ (cf u v).1 (cf u v).2);omega) (by omega) h;have HX:Hid (Om E u v=if(jG E (cf u v).1 (cf u v).2).2=true then 0 else 181):=if_pos hm;have HH:Hid (Fq E u v=(jG E (cf u v).1 (cf u v).2).2):=by show _=_;unfold Fq;rw[decide_eq_true hm,Bool.true_and]
  rw[hm]at KM;rw[HX.out,HH.out];clear h T hr h0 hE hp hn hk HC hm HX HH;generalize Bg E (cf u v).1 (cf u v).2=E2 at*;generalize gL (iF E (bQ (cf u v).1 (cf u v).2)) (bQ (cf u v).2 (cf u v).1)=fb2 at*;generalize iF E (bQ (cf u v).1 (cf u v).2)=E1 at*;generalize gL E (bQ (cf u v).1 (cf u v).2)=fb1 at*;generalize jG E (cf u v).1 (cf u v).2=ge at*;generalize bQ (cf u v).1 (cf u v).2=k1 at*;generalize bQ (cf u v).2 (cf u v).1=k2 at*;generalize cf u v=p at*;obtain⟨p1,p2⟩:=p;obtain⟨g1,g2⟩:=ge;simp only at KM KB KG;unfold ptr at*;cases g2
  ·go_enter Tryz.func15,Tryz.ntmps15
   go_wp2_with fail
   refine Calls.mono KM.out ?_;rintro e w1 ⟨rfl,b1⟩;have S1:Hid (∀o,aJ B w0 d C E k (cI q C::l) (w1.alloc o)):=fun o=>(HS.out.below b1).below ((Below.refl _ _).alloc (Nat.le_refl _) _);obtain⟨z0,z1⟩:=(Cl.new w1 #[.int .i64 p1,.int .i64 p2] 35).two;clear KM HS b1
   go_wp2_with fail
   refine Calls.mono (KG.out _ _ (S1.out _)) ?_;rintro e w2 ⟨rfl,s2⟩;have S2:Hid (aJ B w0 d C E k (cI q C::l) w2):=s2;clear KG s2 S1 z0 z1;go_wp2;go_ret;exact⟨rfl,fun _=>S2.out,fun h=>by cases h⟩
  ·go_enter Tryz.func15,Tryz.ntmps15
   go_wp2_with fail
   refine Calls.mono KM.out ?_;rintro e w1 ⟨rfl,b1⟩;have S1:Hid (∀o,aJ B w0 d C E k (cI q C::l) (w1.alloc o)):=fun o=>(HS.out.below b1).below ((Below.refl _ _).alloc (Nat.le_refl _) _);have SP:Hid (aJ B w0 d C E k (cI q C::ax w1.heap.size (.cells #[.int .i64 p1,.int .i64 p2] 35)::l) (w1.alloc (.cells #[.int .i64 p1,.int .i64 p2] 35))):=((HS.out.below b1).blk _).swap;obtain⟨z0,z1⟩:=(Cl.new w1 #[.int .i64 p1,.int .i64 p2] 35).two;clear KM HS b1 S1
   go_wp2_with fail
   refine Calls.mono (KG.out _ _ SP.out) ?_;rintro e w2 ⟨rfl,s2⟩;have S2:Hid (aJ B w0 d C E k (cI q C::ax w1.heap.size (.cells #[.int .i64 p1,.int .i64 p2] 35)::l) w2):=s2;clear KG s2 SP z0 z1
   go_wp2_with fail
   refine Calls.mono (KK.out _ _ S2.out) ?_;rintro e w3 ⟨rfl,rfl⟩;obtain⟨_,⟨z0,z1⟩,_⟩:=Sep.c2 (Sep.pk [_] S2.out.sep);clear KK
   go_wp2_with fail
   refine Calls.mono (KB.out _) ?_;rintro e w3 ⟨rfl,b3⟩;have S3:Hid (aJ B w0 d C E k (cI q C::l) w3):=aJ.below (aJ.FK (aJ.swap S2.out)) b3;clear KB b3 z0 z1 S2;have hi0:=JY k1 k2;have hi1:=Tb k1 k2;go_wp2
   go_loopg [42] 2 (fun kx Fp wr=>(Fp=.int .i64 0∧2<=kx∧Hid (aJ B w0 d C E k (cI q C::l) wr))∨(Fp=.int .i64 1∧1<=kx∧Hid (aJ B w0 d C E1 (k+1) (cI q C::l) wr))∨(Fp=.int .i64 2∧Hid (aJ B w0 d C E2 (k+2) (cI q C::l) wr)))
   case atStart=>exact .inl ⟨rfl,Nat.le_refl _,S3.out⟩
   case round=>
    clear S3;rcases hrel with⟨rfl,hk,HR⟩| ⟨rfl,hk,HR⟩| ⟨rfl,HR⟩
    ·have KP:Hid _:=P1.out _ HR.out;clear HR
     go_wp2_with fail
     refine Calls.mono KP.out ?_;rintro e w5 ⟨rfl,s5⟩;have S5:Hid (aJ B w0 d C E1 (k+1) (cI q C::l) w5):=s5;clear KP s5;go_wp2
     go_roundg 1
     case measure=>omega
     case rel=>exact .inr (.inl ⟨by go_num,Nat.le_refl _,S5.out⟩)
    ·have KP:Hid _:=P2.out _ HR.out;clear HR
     go_wp2_with fail
     refine Calls.mono KP.out ?_;rintro e w5 ⟨rfl,s5⟩;have S5:Hid (aJ B w0 d C E2 (k+2) (cI q C::l) w5):=s5;clear KP s5;go_wp2
     go_roundg 0
     case measure=>omega
     case rel=>exact .inr (.inr ⟨by go_num,S5.out⟩)
    ·go_wp2;go_ret;exact⟨rfl,(fun h=>by cases h),fun _=>HR.out⟩
 ·have hb:(dR u v != 0)=true:=bne_iff_ne.2 hm;have HX:Hid (Om E u v=dR u v):=if_neg hm;have HH:Hid (Fq E u v=false):=by show _=_;unfold Fq;rw[decide_eq_false hm,Bool.false_and]
  rw[HX.out,HH.out];clear h T hr h0 hE hm hn hk HC HX HH;generalize dR u v=er at*;generalize(cf u v).1=p1 at*;generalize(cf u v).2=p2 at*;unfold ptr at*;go_enter Tryz.func15,Tryz.ntmps15
  go_wp2_with fail
  refine Calls.mono KM.out ?_;rintro e w1 ⟨rfl,b1⟩;have S1:Hid (∀o,aJ B w0 d C E k (cI q C::l) (w1.alloc o)):=fun o=>(HS.out.below b1).below ((Below.refl _ _).alloc (Nat.le_refl _) _);clear KM HS b1;go_wp2;go_ret;exact⟨rfl,fun _=>S1.out _,fun h=>by cases h⟩
end
end P
end Go.Proofs.YtdcpfbidcpfboaaGreatDoor
