/- Walks of the package cowtree and of what it stands on: lemmas, made short. -/
import Derived.Test.YtcenfooehjcddaaGreatDoorR14
import Derived.Test.YtcenfooehjcddaaGreatDoorR10
import Derived.Test.YtcenfooehjcddaaGreatDoorR12
import Derived.Maps.OwnIn
import Derived.Maps.AppendAt
import Derived.Deep.AppendLies
import Derived.Test.YtcenfooehjcddaaGreatDoorR11
import Derived.Deep.QuietTactic
import Derived.BigQuiet
import Derived.Test.YtcenfooehjcddaaGreatDoorR4
import Derived.Test.YtcenfooehjcddaaGreatDoorR13
set_option maxHeartbeats 16000000
set_option maxRecDepth 100000
set_option linter.unusedVariables false
set_option linter.unusedSimpArgs false
namespace Go.Proofs.YtcenfooehjcddaaGreatDoor
open Go.Shelf Go.RowKit Go.Lib Go.Sort
section
open N (Nd bB bc hidR ar ai Ch aP ah waits)
section
variable {B:Nat}{w0 w w':World}{l:List aM}{fr tt k:ByteArray}
def JPr (B:Nat)(w0:World)(LL:List aM)(q1 q2 q3 r o cz ix nss:Nat)(fz tt k9:ByteArray)(hb:Bool){y0 y1 y5 y6 y7 y8 y9 xC tF tG y13 uK qi qj tH xD xI y34 uO uP xJ y38 y39:Value}(C:List Bool->Act->Prop)(w:World):Prop:=∀{f0 f1 f2 f3 f4 f5 f6 f7 f8 f9 f10 f11 f12 f13:Bool}{uL x20 kn mg lz x24 x25 tI x27 x28 x29 x30 x31 x32:Value},f13=false->Sep B w0 w LL->Hid (f0=true->uL=.int .i64 (ix:Int))->Hid (f1=true->x20=.pointer (some ⟨q2,3,none⟩))->Hid (f2=true->f1=true∧kn=.slice (some ⟨r,o,none⟩) nss cz)->Hid (f3=true->f2=true∧mg=.int .i64 (nss:Int))->Hid (f4=true->f0=true∧f3=true∧lz=.bool true)->Hid (f5=true->f4=true∧x24=.bool true)->Hid (f6=true->x25=.agg #[.string fz,.string tt])->Hid (f7=true->tI=.pointer (some ⟨q2,3,none⟩))->Hid (f8=true->f7=true∧x27=.slice (some ⟨r,o,none⟩) nss cz)->Hid (f9=true->x28=.int .i64 (ix:Int))->Hid (f10=true->f8=true∧f9=true∧x29=.pointer (some ⟨r,o+ix,none⟩))->Hid (f11=true->f10=true∧x30=.string k9)->Hid (f12=true->f6=true∧f11=true∧x31=.bool hb)->C [f0,f1,f2,f3,f4,f5,f6,f7,f8,f9,f10,f11,f12,f13] {tmps:=#[y0,y1,.int .i64 (ix:Int),.pointer (some ⟨q1,0,none⟩),.pointer (some ⟨q2,0,none⟩),y5,y6,y7,y8,y9,xC,tF,tG,y13,uK,qi,qj,tH,xD,uL,x20,kn,mg,lz,x24,x25,tI,x27,x28,x29,x30,x31,x32,xI,y34,uO,uP,xJ,y38,y39],defers:=[]}
theorem Lp {P:List NV}{p:NV}{ix:Nat}(h:Sep B w0 w (Pl P::l))(hp:p∈P)(hi:ix<=p.n.ss.length)(hb:p.n.ss.length<=500):Calls Tryz.prog 104 #[.agg #[.string fr,.string tt],.agg #[.bool p.n.leaf,.slice p.ae p.n.es.length p.ce,.slice p.ak p.n.ks.length p.ck,.slice p.az p.n.ss.length p.cz],.int .i64 (ix:Int)] w fun e w'=>e=.returned (.agg #[.string (kB p.n.ss ix fr),.string (iu p.n.ss ix tt)])∧Sep B w0 w' (Pl P::l):=by
 obtain⟨ae,ce,ak,ck,az,cz,n⟩:=p;simp only at hi hb⊢;have HS:Hid (Sep B w0 w (Pl P::l)):=h;have HP:Hid (⟨ae,ce,ak,ck,az,cz,n⟩∈P):=hp;clear h hp;by_cases hi0:0<ix
 ·obtain⟨j,hij⟩:∃j,ix=j+1:=⟨ix-1,by omega⟩;have S3:Hid (Sep B w0 (((w.alloc (.cells #[.string fr,.string tt] 99)).alloc (.cells #[.bool n.leaf,.slice ae n.es.length ce,.slice ak n.ks.length ck,.slice az n.ss.length cz] 170)).alloc (.cells #[.string ⟨#[]⟩,.string ⟨#[]⟩] 99)).drew (Pl P::l)):=(((HS.out.alloc _).alloc _).alloc _).drew;obtain⟨r,o,haz,k1,k2⟩:=NV.key (p:=⟨ae,ce,ak,ck,az,cz,n⟩) (Sep.pool S3.out _ HP.out) (i:=j) (by simp only;omega);simp only at haz k2;subst haz;have wj:IntKind.i64.wrap ((ix:Int)-1)=(j:Int):=by rw[bM (by omega) (by omega)];omega
  have hj:(j:Int)< (n.ss.length:Int):=by omega
  have hj1:(0:Int)< (ix:Int):=by omega
  have SF:Hid (kB n.ss ix fr=if bB fr (n.ss.getD j ⟨#[]⟩)=true then n.ss.getD j ⟨#[]⟩else fr):=by show _=_;rw[hij];simp[kB]
  generalize n.ss.getD j ⟨#[]⟩=kk at*;generalize kB n.ss ix fr=fz at*;have hmx:Builtin.max_ #[9,9] 9 #[.string fr,.string kk]=pure (.string fz):=by rw[SF.out];exact Xh fr kk
  clear SF hij;go_enter Tryz.func104,Tryz.ntmps104
  go_wp2_with fail
  go_region
  clear k2 k1 S3 hmx wj hj
  go_wp2_with fail
  have S4:Hid (Sep B w0 (((w.alloc (.cells #[.string fz,.string tt] 99)).alloc (.cells #[.bool n.leaf,.slice ae n.es.length ce,.slice ak n.ks.length ck,.slice (some ⟨r,o,none⟩) n.ss.length cz] 170)).alloc (.cells #[.string ⟨#[]⟩,.string ⟨#[]⟩] 99)).drew (Pl P::aF w.heap.size (.cells #[.string fz,.string tt] 99)::aF (w.heap.size+1) (.cells #[.bool n.leaf,.slice ae n.es.length ce,.slice ak n.ks.length ck,.slice (some ⟨r,o,none⟩) n.ss.length cz] 170)::aF (w.heap.size+1+1) (.cells #[.string ⟨#[]⟩,.string ⟨#[]⟩] 99)::l)):=by
   have h1:=HS.out.aZ (.cells #[.string fz,.string tt] 99) w.heap.size rfl;have h2:=h1.aZ (.cells #[.bool n.leaf,.slice ae n.es.length ce,.slice ak n.ks.length ck,.slice (some ⟨r,o,none⟩) n.ss.length cz] 170) (w.heap.size+1) (by simp);have h3:=h2.aZ (.cells #[.string ⟨#[]⟩,.string ⟨#[]⟩] 99) (w.heap.size+1+1) (by simp);exact Sep.drew (Sep.Yb (Sep.pb [_,_] (Sep.pb [_,_,_] h3)))
  generalize(((w.alloc (.cells #[.string fz,.string tt] 99)).alloc (.cells #[.bool n.leaf,.slice ae n.es.length ce,.slice ak n.ks.length ck,.slice (some ⟨r,o,none⟩) n.ss.length cz] 170)).alloc (.cells #[.string ⟨#[]⟩,.string ⟨#[]⟩] 99)).drew=u0 at*;generalize hq2:w.heap.size+1=q2 at*;generalize hq3:q2+1=q3 at*;generalize hq1:w.heap.size=q1 at*;clear hq1 hq2 hq3;have T0:Hid (Sep B w0 u0.drew (Pl P::aF q1 (.cells #[.string fz,.string tt] 99)::aF q2 (.cells #[.bool n.leaf,.slice ae n.es.length ce,.slice ak n.ks.length ck,.slice (some ⟨r,o,none⟩) n.ss.length cz] 170)::aF q3 (.cells #[.string ⟨#[]⟩,.string ⟨#[]⟩] 99)::l)):=S4.out.drew;clear S4 HS;have n13:q1≠q3:=Sep.ne (Sep.pk [_,_] (Sep.pk [_,_,_] T0.out));have n31:=n13.symm;by_cases hl:ix<n.ss.length
  ·obtain⟨r2,o2,Lq,k1,k2⟩:=NV.key (p:=⟨ae,ce,ak,ck,some ⟨r,o,none⟩,cz,n⟩) (Sep.pool T0.out _ HP.out) (i:=ix) hl;simp only at Lq k2;obtain⟨rfl,rfl⟩:r=r2∧o=o2:=by cases Lq;exact⟨rfl,rfl⟩
   have hlI:(ix:Int)< (n.ss.length:Int):=by omega
   have hld:decide ((ix:Int)< (n.ss.length:Int))=true:=by simp;omega
   have aag:decide (ix<n.ss.length)=true:=by simp;omega
   have HE:Hid (iu n.ss ix tt=if bG tt (n.ss.getD ix ⟨#[]⟩)=true then n.ss.getD ix ⟨#[]⟩else tt):=by show _=_;simp[iu,hl]
   have KK:Hid (∀u L,Sep B w0 u (Pl P::L)->u.cell? ⟨r,o+ix,none⟩=some (.string (n.ss.getD ix ⟨#[]⟩))):=fun u L hu=>by
    obtain⟨r',o',h1,_,h3⟩:=NV.key (p:=⟨ae,ce,ak,ck,some ⟨r,o,none⟩,cz,n⟩) (Sep.pool hu _ HP.out) (i:=ix) hl;cases h1;exact h3
   generalize n.ss.getD ix ⟨#[]⟩=k9 at*;clear k1 k2;refine mn 13 (JPr B w0 (Pl P::aF q1 (.cells #[.string fz,.string tt] 99)::aF q2 (.cells #[.bool n.leaf,.slice ae n.es.length ce,.slice ak n.ks.length ck,.slice (some ⟨r,o,none⟩) n.ss.length cz] 170)::aF q3 (.cells #[.string ⟨#[]⟩,.string ⟨#[]⟩] 99)::l) q1 q2 q3 r o cz ix n.ss.length fz tt k9 (bG tt k9)) (by kernel_rfl) (by kernel_rfl) (fun _ k=>k rfl T0.out ar ar ar ar ar ar ar ar ar ar ar ar ar) ?_ ?_ ?_ ?_
   ·intro w' f0 f1 f2 f3 f4 f5 f6 f7 f8 f9 f10 f11 f12 f13 uL x20 kn mg lz x24 x25 tI x27 x28 x29 x30 x31 x32 e13 hB h0 h1 h2 h3 h4 h5 h6 h7 h8 h9 h10 h11 h12 hi;have d5:f5=true:=ah 5 hi (by kernel_rfl);have d12:f12=true:=ah 12 hi (by kernel_rfl);obtain⟨d6,d11,_⟩:=h12.out d12;obtain⟨d10,_⟩:=h11.out d11;obtain⟨d8,d9,_⟩:=h10.out d10;obtain⟨d7,_⟩:=h8.out d8;obtain⟨d4,_⟩:=h5.out d5;obtain⟨d0,d3,_⟩:=h4.out d4;obtain⟨d2,_⟩:=h3.out d3;obtain⟨d1,_⟩:=h2.out d2;subst d0 d1 d2 d3 d4 d5 d6 d7 d8 d9 d10 d11 d12;rfl
   ·intro i w' hne f0 f1 f2 f3 f4 f5 f6 f7 f8 f9 f10 f11 f12 f13 uL x20 kn mg lz x24 x25 tI x27 x28 x29 x30 x31 x32 e13 hB h0 h1 h2 h3 h4 h5 h6 h7 h8 h9 h10 h11 h12 hi;obtain⟨hlt,hun,_⟩:=aP hi;have hlt':i<14:=hlt;clear hlt;rcases(by omega:i=0∨i=1∨i=2∨i=3∨i=4∨i=5∨i=6∨i=7∨i=8∨i=9∨i=10∨i=11∨i=12)with rfl|rfl|rfl|rfl|rfl|rfl|rfl|rfl|rfl|rfl|rfl|rfl|rfl
    ·have un:f0=false:=hun;refine ai rfl fun K HK=>?_;go_simp;exact HK.out _ _ fun _ k=>k e13 hB hidR h1 h2 h3 (fun d=>by have e:=(h4.out d).1;rw[un]at e;cases e) h5 h6 h7 h8 h9 h10 h11 h12
    ·have un:f1=false:=hun;refine ai rfl fun K HK=>?_;go_simp;exact HK.out _ _ fun _ k=>k e13 hB h0 hidR (fun d=>by have e:=(h2.out d).1;rw[un]at e;cases e) h3 h4 h5 h6 h7 h8 h9 h10 h11 h12
    ·have un:f2=false:=hun;have d1:f1=true:=ah 1 hi (by kernel_rfl);cases h1 d1;obtain⟨_,⟨y0,y1,y2,y3⟩,_⟩:=Sep.c4 (Sep.pk [_,_] hB);refine ai rfl fun K HK=>?_;go_simp;exact HK.out _ _ fun _ k=>k e13 hB h0 h1 (fun _=>⟨d1,rfl⟩) (fun d=>by have e:=(h3.out d).1;rw[un]at e;cases e) h4 h5 h6 h7 h8 h9 h10 h11 h12
    ·have un:f3=false:=hun;have d2:f2=true:=ah 2 hi (by kernel_rfl);obtain⟨_,rfl⟩:=h2.out d2;refine ai rfl fun K HK=>?_;go_simp;exact HK.out _ _ fun _ k=>k e13 hB h0 h1 h2 (fun _=>⟨d2,rfl⟩) (fun d=>by have e:=(h4.out d).2.1;rw[un]at e;cases e) h5 h6 h7 h8 h9 h10 h11 h12
    ·have un:f4=false:=hun;have d0:f0=true:=ah 0 hi (by kernel_rfl);cases h0 d0;have d3:f3=true:=ah 3 hi (by kernel_rfl);obtain⟨_,rfl⟩:=h3.out d3;refine ai rfl fun K HK=>?_;go_simp;exact HK.out _ _ fun _ k=>k e13 hB h0 h1 h2 h3 (fun _=>⟨d0,d3,rfl⟩) (fun d=>by have e:=(h5.out d).1;rw[un]at e;cases e) h6 h7 h8 h9 h10 h11 h12
    ·have d4:f4=true:=ah 4 hi (by kernel_rfl);obtain⟨_,_,rfl⟩:=h4.out d4;refine ai rfl fun K HK=>?_;go_simp;exact HK.out _ _ fun _ k=>k e13 hB h0 h1 h2 h3 h4 (fun _=>⟨d4,rfl⟩) h6 h7 h8 h9 h10 h11 h12
    ·have un:f6=false:=hun;obtain⟨_,rfl⟩:=h5.out (ah 5 hi (by kernel_rfl));obtain⟨_,⟨y0,y1⟩,_⟩:=Sep.c2 (Sep.ku hB);refine ai rfl fun K HK=>?_;go_simp;exact HK.out _ _ fun _ k=>k e13 hB h0 h1 h2 h3 h4 h5 hidR h7 h8 h9 h10 h11 (fun d=>by have e:=(h12.out d).1;rw[un]at e;cases e)
    ·have un:f7=false:=hun;obtain⟨_,rfl⟩:=h5.out (ah 5 hi (by kernel_rfl));refine ai rfl fun K HK=>?_;go_simp;exact HK.out _ _ fun _ k=>k e13 hB h0 h1 h2 h3 h4 h5 h6 hidR (fun d=>by have e:=(h8.out d).1;rw[un]at e;cases e) h9 h10 h11 h12
    ·have un:f8=false:=hun;obtain⟨_,rfl⟩:=h5.out (ah 5 hi (by kernel_rfl));have d7:f7=true:=ah 7 hi (by kernel_rfl);cases h7 d7;obtain⟨_,⟨y0,y1,y2,y3⟩,_⟩:=Sep.c4 (Sep.pk [_,_] hB);refine ai rfl fun K HK=>?_;go_simp;exact HK.out _ _ fun _ k=>k e13 hB h0 h1 h2 h3 h4 h5 h6 h7 (fun _=>⟨d7,rfl⟩) h9 (fun d=>by have e:=(h10.out d).1;rw[un]at e;cases e) h11 h12
    ·have un:f9=false:=hun;obtain⟨_,rfl⟩:=h5.out (ah 5 hi (by kernel_rfl));refine ai rfl fun K HK=>?_;go_simp;exact HK.out _ _ fun _ k=>k e13 hB h0 h1 h2 h3 h4 h5 h6 h7 h8 hidR (fun d=>by have e:=(h10.out d).2.1;rw[un]at e;cases e) h11 h12
    ·have un:f10=false:=hun;obtain⟨_,rfl⟩:=h5.out (ah 5 hi (by kernel_rfl));have d8:f8=true:=ah 8 hi (by kernel_rfl);obtain⟨_,rfl⟩:=h8.out d8;have d9:f9=true:=ah 9 hi (by kernel_rfl);cases h9 d9;refine ai rfl fun K HK=>?_;go_simp;exact HK.out _ _ fun _ k=>k e13 hB h0 h1 h2 h3 h4 h5 h6 h7 h8 h9 (fun _=>⟨d8,d9,rfl⟩) (fun d=>by have e:=(h11.out d).1;rw[un]at e;cases e) h12
    ·have un:f11=false:=hun;obtain⟨_,rfl⟩:=h5.out (ah 5 hi (by kernel_rfl));have d10:f10=true:=ah 10 hi (by kernel_rfl);obtain⟨_,_,rfl⟩:=h10.out d10;have Yg:=KK.out _ _ hB;refine ai rfl fun K HK=>?_;go_simp;exact HK.out _ _ fun _ k=>k e13 hB h0 h1 h2 h3 h4 h5 h6 h7 h8 h9 h10 (fun _=>⟨d10,rfl⟩) (fun d=>by have e:=(h12.out d).2.1;rw[un]at e;cases e)
    ·obtain⟨_,rfl⟩:=h5.out (ah 5 hi (by kernel_rfl));have d6:f6=true:=ah 6 hi (by kernel_rfl);cases h6 d6;have d11:f11=true:=ah 11 hi (by kernel_rfl);obtain⟨_,rfl⟩:=h11.out d11;refine ai rfl fun K HK=>?_;go_simp;refine Calls.mono (rA hB) ?_;rintro e u4 ⟨rfl,s4⟩;exact HK.out _ _ fun _ k=>k e13 s4 h0 h1 h2 h3 h4 h5 h6 h7 h8 h9 h10 h11 (fun _=>⟨d6,d11,rfl⟩)
   ·intro w' f0 f1 f2 f3 f4 f5 f6 f7 f8 f9 f10 f11 f12 f13 uL x20 kn mg lz x24 x25 tI x27 x28 x29 x30 x31 x32 e13 hB h0 h1 h2 h3 h4 h5 h6 h7 h8 h9 h10 h11 h12 hi;have d5:f5=true:=ah 5 hi (by kernel_rfl);obtain⟨_,rfl⟩:=h5.out d5;have d12:f12=true:=ah 12 hi (by kernel_rfl);obtain⟨u6,u11,rfl⟩:=h12.out d12;clear hi;refine ai rfl fun K HK=>?_;go_simp;refine HK.out _ _ ?_;have T1:Hid (Sep B w0 w' (Pl P::aF q1 (.cells #[.string fz,.string tt] 99)::aF q2 (.cells #[.bool n.leaf,.slice ae n.es.length ce,.slice ak n.ks.length ck,.slice (some ⟨r,o,none⟩) n.ss.length cz] 170)::aF q3 (.cells #[.string ⟨#[]⟩,.string ⟨#[]⟩] 99)::l)):=hB;clear hB h0 h1 h2 h3 h4 h5 h6 h7 h8 h9 h10 h11 h12;obtain⟨_,⟨x0,x1⟩,g0,g1⟩:=Sep.c2 (Sep.ku T1.out);obtain⟨_,⟨y0,y1,y2,y3⟩,_⟩:=Sep.c4 (Sep.pk [_,_] T1.out);obtain⟨_,⟨z0,z1⟩,Xi,f2'⟩:=Sep.c2 (Sep.pk [_,_,_] T1.out);have k2:=KK.out _ _ T1.out;cases hh:bG tt k9
    ·rw[hh]at HE;rw[if_neg Bool.false_ne_true]at HE;have SF:Hid (Sep B w0 ((w'.setCell ⟨q3,0,none⟩ (.string fz)).setCell ⟨q3,1,none⟩ (.string tt)) (Pl P::aF q1 (.cells #[.string fz,.string tt] 99)::aF q2 (.cells #[.bool n.leaf,.slice ae n.es.length ce,.slice ak n.ks.length ck,.slice (some ⟨r,o,none⟩) n.ss.length cz] 170)::aF q3 (.cells #[.string fz,.string tt] 99)::l)):=Sep.pb [_,_,_] (((Sep.pk [_,_,_] T1.out).dA 0 _).dA 1 _);clear hh T1 KK;go_wp2;generalize World.setCell _ _ _=u2 at*;clear x0 x1 g0 g1 y0 y1 y2 y3 z0 z1 Xi f2' k2;obtain⟨_,⟨z0,z1⟩,_⟩:=Sep.c2 (Sep.pk [_,_,_] SF.out);refine bodyPost_ret (v:=.agg #[.string fz,.string tt]) ?_ rfl ⟨by rw[HE.out],Sep.drop (Sep.ku (Sep.drop (Sep.ku (Sep.drop (Sep.ku SF.out)))))⟩;rw[bC rfl];go_simp
    ·rw[hh]at HE;rw[if_pos rfl]at HE;have SF:Hid (Sep B w0 (((w'.setCell ⟨q1,1,none⟩ (.string k9)).setCell ⟨q3,0,none⟩ (.string fz)).setCell ⟨q3,1,none⟩ (.string k9)) (Pl P::aF q1 (.cells #[.string fz,.string k9] 99)::aF q2 (.cells #[.bool n.leaf,.slice ae n.es.length ce,.slice ak n.ks.length ck,.slice (some ⟨r,o,none⟩) n.ss.length cz] 170)::aF q3 (.cells #[.string fz,.string k9] 99)::l)):=Sep.pb [_,_,_] (((Sep.pk [_,_,_] (Sep.Yb ((Sep.ku T1.out).dA 1 (.string k9)))).dA 0 _).dA 1 _);clear hh T1 KK;go_wp2;generalize World.setCell _ _ _=u2 at*;clear x0 x1 g0 g1 y0 y1 y2 y3 z0 z1 Xi f2' k2;obtain⟨_,⟨z0,z1⟩,_⟩:=Sep.c2 (Sep.pk [_,_,_] SF.out);refine bodyPost_ret (v:=.agg #[.string fz,.string k9]) ?_ rfl ⟨by rw[HE.out],Sep.drop (Sep.ku (Sep.drop (Sep.ku (Sep.drop (Sep.ku SF.out)))))⟩;rw[bC rfl];go_simp
   ·intro _ _;intros;assumption
  ·obtain⟨_,⟨x0,x1⟩,g0,g1⟩:=Sep.c2 (Sep.ku T0.out);obtain⟨_,⟨y0,y1,y2,y3⟩,_⟩:=Sep.c4 (Sep.pk [_,_] T0.out);obtain⟨_,⟨z0,z1⟩,f0,f2⟩:=Sep.c2 (Sep.pk [_,_,_] T0.out);have hd:decide ((ix:Int)< (n.ss.length:Int))=false:=by simp;omega
   have hd2:decide (ix<n.ss.length)=false:=by simp;omega
   have HE:Hid (iu n.ss ix tt=tt):=by show _=_;unfold iu;rw[if_neg fun h=>hl h.1]
   have SF:Hid (Sep B w0 ((u0.drew.setCell ⟨q3,0,none⟩ (.string fz)).setCell ⟨q3,1,none⟩ (.string tt)) (Pl P::aF q1 (.cells #[.string fz,.string tt] 99)::aF q2 (.cells #[.bool n.leaf,.slice ae n.es.length ce,.slice ak n.ks.length ck,.slice (some ⟨r,o,none⟩) n.ss.length cz] 170)::aF q3 (.cells #[.string fz,.string tt] 99)::l)):=Sep.pb [_,_,_] (((Sep.pk [_,_,_] T0.out).dA 0 _).dA 1 _);clear T0 hl
   go_region
   generalize u0.drew=u1 at*;go_wp2;generalize(u1.setCell ⟨q3,0,none⟩ (.string fz)).setCell ⟨q3,1,none⟩ (.string tt)=u2 at*;clear x0 x1 g0 g1 y0 y1 y2 y3 z0 z1 f0 f2;obtain⟨_,⟨z0,z1⟩,_⟩:=Sep.c2 (Sep.pk [_,_,_] SF.out);refine bodyPost_ret (v:=.agg #[.string fz,.string tt]) ?_ rfl ⟨by rw[HE.out],Sep.drop (Sep.ku (Sep.drop (Sep.ku (Sep.drop (Sep.ku SF.out)))))⟩;rw[bC rfl];go_simp
 ·have hz:kB n.ss ix fr=fr:=by unfold kB;rw[if_neg fun h=>hi0 h.1]
  rw[hz];have hz2:decide ((0:Int)< (ix:Int))=false:=by simp;omega
  have hz3:decide (0<ix)=false:=by simp;omega
  have hz4:¬(0:Int)< (ix:Int):=by omega
  clear hz;go_enter Tryz.func104,Tryz.ntmps104
  go_wp2_with fail
  have S4:Hid (Sep B w0 (((w.alloc (.cells #[.string fr,.string tt] 99)).alloc (.cells #[.bool n.leaf,.slice ae n.es.length ce,.slice ak n.ks.length ck,.slice az n.ss.length cz] 170)).alloc (.cells #[.string ⟨#[]⟩,.string ⟨#[]⟩] 99)) (Pl P::aF w.heap.size (.cells #[.string fr,.string tt] 99)::aF (w.heap.size+1) (.cells #[.bool n.leaf,.slice ae n.es.length ce,.slice ak n.ks.length ck,.slice az n.ss.length cz] 170)::aF (w.heap.size+1+1) (.cells #[.string ⟨#[]⟩,.string ⟨#[]⟩] 99)::l)):=by
   have h1:=HS.out.aZ (.cells #[.string fr,.string tt] 99) w.heap.size rfl;have h2:=h1.aZ (.cells #[.bool n.leaf,.slice ae n.es.length ce,.slice ak n.ks.length ck,.slice az n.ss.length cz] 170) (w.heap.size+1) (by simp);have h3:=h2.aZ (.cells #[.string ⟨#[]⟩,.string ⟨#[]⟩] 99) (w.heap.size+1+1) (by simp);exact(Sep.Yb (Sep.pb [_,_] (Sep.pb [_,_,_] h3)))
  generalize World.alloc _ _=u0 at*;generalize hq2:w.heap.size+1=q2 at*;generalize hq3:q2+1=q3 at*;generalize hq1:w.heap.size=q1 at*;clear hq1 hq2 hq3;have T0:Hid (Sep B w0 u0.drew (Pl P::aF q1 (.cells #[.string fr,.string tt] 99)::aF q2 (.cells #[.bool n.leaf,.slice ae n.es.length ce,.slice ak n.ks.length ck,.slice az n.ss.length cz] 170)::aF q3 (.cells #[.string ⟨#[]⟩,.string ⟨#[]⟩] 99)::l)):=S4.out.drew;clear S4 HS;have n13:q1≠q3:=Sep.ne (Sep.pk [_,_] (Sep.pk [_,_,_] T0.out));have n31:=n13.symm;by_cases hl:ix<n.ss.length
  ·obtain⟨r2,o2,Lq,k1,k2⟩:=NV.key (p:=⟨ae,ce,ak,ck,az,cz,n⟩) (Sep.pool T0.out _ HP.out) (i:=ix) hl;simp only at Lq k2;subst Lq;have hlI:(ix:Int)< (n.ss.length:Int):=by omega
   have hld:decide ((ix:Int)< (n.ss.length:Int))=true:=by simp;omega
   have aag:decide (ix<n.ss.length)=true:=by simp;omega
   have HE:Hid (iu n.ss ix tt=if bG tt (n.ss.getD ix ⟨#[]⟩)=true then n.ss.getD ix ⟨#[]⟩else tt):=by show _=_;simp[iu,hl]
   have KK:Hid (∀u L,Sep B w0 u (Pl P::L)->u.cell? ⟨r2,o2+ix,none⟩=some (.string (n.ss.getD ix ⟨#[]⟩))):=fun u L hu=>by
    obtain⟨r',o',h1,_,h3⟩:=NV.key (p:=⟨ae,ce,ak,ck,some ⟨r2,o2,none⟩,cz,n⟩) (Sep.pool hu _ HP.out) (i:=ix) hl;cases h1;exact h3
   generalize n.ss.getD ix ⟨#[]⟩=k9 at*;clear k1 k2;refine mn 13 (JPr B w0 (Pl P::aF q1 (.cells #[.string fr,.string tt] 99)::aF q2 (.cells #[.bool n.leaf,.slice ae n.es.length ce,.slice ak n.ks.length ck,.slice (some ⟨r2,o2,none⟩) n.ss.length cz] 170)::aF q3 (.cells #[.string ⟨#[]⟩,.string ⟨#[]⟩] 99)::l) q1 q2 q3 r2 o2 cz ix n.ss.length fr tt k9 (bG tt k9)) (by kernel_rfl) (by kernel_rfl) (fun _ k=>k rfl T0.out ar ar ar ar ar ar ar ar ar ar ar ar ar) ?_ ?_ ?_ ?_
   ·intro w' f0 f1 f2 f3 f4 f5 f6 f7 f8 f9 f10 f11 f12 f13 uL x20 kn mg lz x24 x25 tI x27 x28 x29 x30 x31 x32 e13 hB h0 h1 h2 h3 h4 h5 h6 h7 h8 h9 h10 h11 h12 hi;have d5:f5=true:=ah 5 hi (by kernel_rfl);have d12:f12=true:=ah 12 hi (by kernel_rfl);obtain⟨d6,d11,_⟩:=h12.out d12;obtain⟨d10,_⟩:=h11.out d11;obtain⟨d8,d9,_⟩:=h10.out d10;obtain⟨d7,_⟩:=h8.out d8;obtain⟨d4,_⟩:=h5.out d5;obtain⟨d0,d3,_⟩:=h4.out d4;obtain⟨d2,_⟩:=h3.out d3;obtain⟨d1,_⟩:=h2.out d2;subst d0 d1 d2 d3 d4 d5 d6 d7 d8 d9 d10 d11 d12;rfl
   ·intro i w' hne f0 f1 f2 f3 f4 f5 f6 f7 f8 f9 f10 f11 f12 f13 uL x20 kn mg lz x24 x25 tI x27 x28 x29 x30 x31 x32 e13 hB h0 h1 h2 h3 h4 h5 h6 h7 h8 h9 h10 h11 h12 hi;obtain⟨hlt,hun,_⟩:=aP hi;have hlt':i<14:=hlt;clear hlt;rcases(by omega:i=0∨i=1∨i=2∨i=3∨i=4∨i=5∨i=6∨i=7∨i=8∨i=9∨i=10∨i=11∨i=12)with rfl|rfl|rfl|rfl|rfl|rfl|rfl|rfl|rfl|rfl|rfl|rfl|rfl
    ·have un:f0=false:=hun;refine ai rfl fun K HK=>?_;go_simp;exact HK.out _ _ fun _ k=>k e13 hB hidR h1 h2 h3 (fun d=>by have e:=(h4.out d).1;rw[un]at e;cases e) h5 h6 h7 h8 h9 h10 h11 h12
    ·have un:f1=false:=hun;refine ai rfl fun K HK=>?_;go_simp;exact HK.out _ _ fun _ k=>k e13 hB h0 hidR (fun d=>by have e:=(h2.out d).1;rw[un]at e;cases e) h3 h4 h5 h6 h7 h8 h9 h10 h11 h12
    ·have un:f2=false:=hun;have d1:f1=true:=ah 1 hi (by kernel_rfl);cases h1 d1;obtain⟨_,⟨y0,y1,y2,y3⟩,_⟩:=Sep.c4 (Sep.pk [_,_] hB);refine ai rfl fun K HK=>?_;go_simp;exact HK.out _ _ fun _ k=>k e13 hB h0 h1 (fun _=>⟨d1,rfl⟩) (fun d=>by have e:=(h3.out d).1;rw[un]at e;cases e) h4 h5 h6 h7 h8 h9 h10 h11 h12
    ·have un:f3=false:=hun;have d2:f2=true:=ah 2 hi (by kernel_rfl);obtain⟨_,rfl⟩:=h2.out d2;refine ai rfl fun K HK=>?_;go_simp;exact HK.out _ _ fun _ k=>k e13 hB h0 h1 h2 (fun _=>⟨d2,rfl⟩) (fun d=>by have e:=(h4.out d).2.1;rw[un]at e;cases e) h5 h6 h7 h8 h9 h10 h11 h12
    ·have un:f4=false:=hun;have d0:f0=true:=ah 0 hi (by kernel_rfl);cases h0 d0;have d3:f3=true:=ah 3 hi (by kernel_rfl);obtain⟨_,rfl⟩:=h3.out d3;refine ai rfl fun K HK=>?_;go_simp;exact HK.out _ _ fun _ k=>k e13 hB h0 h1 h2 h3 (fun _=>⟨d0,d3,rfl⟩) (fun d=>by have e:=(h5.out d).1;rw[un]at e;cases e) h6 h7 h8 h9 h10 h11 h12
    ·have d4:f4=true:=ah 4 hi (by kernel_rfl);obtain⟨_,_,rfl⟩:=h4.out d4;refine ai rfl fun K HK=>?_;go_simp;exact HK.out _ _ fun _ k=>k e13 hB h0 h1 h2 h3 h4 (fun _=>⟨d4,rfl⟩) h6 h7 h8 h9 h10 h11 h12
    ·have un:f6=false:=hun;obtain⟨_,rfl⟩:=h5.out (ah 5 hi (by kernel_rfl));obtain⟨_,⟨y0,y1⟩,_⟩:=Sep.c2 (Sep.ku hB);refine ai rfl fun K HK=>?_;go_simp;exact HK.out _ _ fun _ k=>k e13 hB h0 h1 h2 h3 h4 h5 hidR h7 h8 h9 h10 h11 (fun d=>by have e:=(h12.out d).1;rw[un]at e;cases e)
    ·have un:f7=false:=hun;obtain⟨_,rfl⟩:=h5.out (ah 5 hi (by kernel_rfl));refine ai rfl fun K HK=>?_;go_simp;exact HK.out _ _ fun _ k=>k e13 hB h0 h1 h2 h3 h4 h5 h6 hidR (fun d=>by have e:=(h8.out d).1;rw[un]at e;cases e) h9 h10 h11 h12
    ·have un:f8=false:=hun;obtain⟨_,rfl⟩:=h5.out (ah 5 hi (by kernel_rfl));have d7:f7=true:=ah 7 hi (by kernel_rfl);cases h7 d7;obtain⟨_,⟨y0,y1,y2,y3⟩,_⟩:=Sep.c4 (Sep.pk [_,_] hB);refine ai rfl fun K HK=>?_;go_simp;exact HK.out _ _ fun _ k=>k e13 hB h0 h1 h2 h3 h4 h5 h6 h7 (fun _=>⟨d7,rfl⟩) h9 (fun d=>by have e:=(h10.out d).1;rw[un]at e;cases e) h11 h12
    ·have un:f9=false:=hun;obtain⟨_,rfl⟩:=h5.out (ah 5 hi (by kernel_rfl));refine ai rfl fun K HK=>?_;go_simp;exact HK.out _ _ fun _ k=>k e13 hB h0 h1 h2 h3 h4 h5 h6 h7 h8 hidR (fun d=>by have e:=(h10.out d).2.1;rw[un]at e;cases e) h11 h12
    ·have un:f10=false:=hun;obtain⟨_,rfl⟩:=h5.out (ah 5 hi (by kernel_rfl));have d8:f8=true:=ah 8 hi (by kernel_rfl);obtain⟨_,rfl⟩:=h8.out d8;have d9:f9=true:=ah 9 hi (by kernel_rfl);cases h9 d9;refine ai rfl fun K HK=>?_;go_simp;exact HK.out _ _ fun _ k=>k e13 hB h0 h1 h2 h3 h4 h5 h6 h7 h8 h9 (fun _=>⟨d8,d9,rfl⟩) (fun d=>by have e:=(h11.out d).1;rw[un]at e;cases e) h12
    ·have un:f11=false:=hun;obtain⟨_,rfl⟩:=h5.out (ah 5 hi (by kernel_rfl));have d10:f10=true:=ah 10 hi (by kernel_rfl);obtain⟨_,_,rfl⟩:=h10.out d10;have Yg:=KK.out _ _ hB;refine ai rfl fun K HK=>?_;go_simp;exact HK.out _ _ fun _ k=>k e13 hB h0 h1 h2 h3 h4 h5 h6 h7 h8 h9 h10 (fun _=>⟨d10,rfl⟩) (fun d=>by have e:=(h12.out d).2.1;rw[un]at e;cases e)
    ·obtain⟨_,rfl⟩:=h5.out (ah 5 hi (by kernel_rfl));have d6:f6=true:=ah 6 hi (by kernel_rfl);cases h6 d6;have d11:f11=true:=ah 11 hi (by kernel_rfl);obtain⟨_,rfl⟩:=h11.out d11;refine ai rfl fun K HK=>?_;go_simp;refine Calls.mono (rA hB) ?_;rintro e u4 ⟨rfl,s4⟩;exact HK.out _ _ fun _ k=>k e13 s4 h0 h1 h2 h3 h4 h5 h6 h7 h8 h9 h10 h11 (fun _=>⟨d6,d11,rfl⟩)
   ·intro w' f0 f1 f2 f3 f4 f5 f6 f7 f8 f9 f10 f11 f12 f13 uL x20 kn mg lz x24 x25 tI x27 x28 x29 x30 x31 x32 e13 hB h0 h1 h2 h3 h4 h5 h6 h7 h8 h9 h10 h11 h12 hi;have d5:f5=true:=ah 5 hi (by kernel_rfl);obtain⟨_,rfl⟩:=h5.out d5;have d12:f12=true:=ah 12 hi (by kernel_rfl);obtain⟨u6,u11,rfl⟩:=h12.out d12;clear hi;refine ai rfl fun K HK=>?_;go_simp;refine HK.out _ _ ?_;have T1:Hid (Sep B w0 w' (Pl P::aF q1 (.cells #[.string fr,.string tt] 99)::aF q2 (.cells #[.bool n.leaf,.slice ae n.es.length ce,.slice ak n.ks.length ck,.slice (some ⟨r2,o2,none⟩) n.ss.length cz] 170)::aF q3 (.cells #[.string ⟨#[]⟩,.string ⟨#[]⟩] 99)::l)):=hB;clear hB h0 h1 h2 h3 h4 h5 h6 h7 h8 h9 h10 h11 h12;obtain⟨_,⟨x0,x1⟩,g0,g1⟩:=Sep.c2 (Sep.ku T1.out);obtain⟨_,⟨y0,y1,y2,y3⟩,_⟩:=Sep.c4 (Sep.pk [_,_] T1.out);obtain⟨_,⟨z0,z1⟩,Xi,f2'⟩:=Sep.c2 (Sep.pk [_,_,_] T1.out);have k2:=KK.out _ _ T1.out;cases hh:bG tt k9
    ·rw[hh]at HE;rw[if_neg Bool.false_ne_true]at HE;have SF:Hid (Sep B w0 ((w'.setCell ⟨q3,0,none⟩ (.string fr)).setCell ⟨q3,1,none⟩ (.string tt)) (Pl P::aF q1 (.cells #[.string fr,.string tt] 99)::aF q2 (.cells #[.bool n.leaf,.slice ae n.es.length ce,.slice ak n.ks.length ck,.slice (some ⟨r2,o2,none⟩) n.ss.length cz] 170)::aF q3 (.cells #[.string fr,.string tt] 99)::l)):=Sep.pb [_,_,_] (((Sep.pk [_,_,_] T1.out).dA 0 _).dA 1 _);clear hh T1 KK;go_wp2;generalize World.setCell _ _ _=u2 at*;clear x0 x1 g0 g1 y0 y1 y2 y3 z0 z1 Xi f2' k2;obtain⟨_,⟨z0,z1⟩,_⟩:=Sep.c2 (Sep.pk [_,_,_] SF.out);refine bodyPost_ret (v:=.agg #[.string fr,.string tt]) ?_ rfl ⟨by rw[HE.out],Sep.drop (Sep.ku (Sep.drop (Sep.ku (Sep.drop (Sep.ku SF.out)))))⟩;rw[bC rfl];go_simp
    ·rw[hh]at HE;rw[if_pos rfl]at HE;have SF:Hid (Sep B w0 (((w'.setCell ⟨q1,1,none⟩ (.string k9)).setCell ⟨q3,0,none⟩ (.string fr)).setCell ⟨q3,1,none⟩ (.string k9)) (Pl P::aF q1 (.cells #[.string fr,.string k9] 99)::aF q2 (.cells #[.bool n.leaf,.slice ae n.es.length ce,.slice ak n.ks.length ck,.slice (some ⟨r2,o2,none⟩) n.ss.length cz] 170)::aF q3 (.cells #[.string fr,.string k9] 99)::l)):=Sep.pb [_,_,_] (((Sep.pk [_,_,_] (Sep.Yb ((Sep.ku T1.out).dA 1 (.string k9)))).dA 0 _).dA 1 _);clear hh T1 KK;go_wp2;generalize World.setCell _ _ _=u2 at*;clear x0 x1 g0 g1 y0 y1 y2 y3 z0 z1 Xi f2' k2;obtain⟨_,⟨z0,z1⟩,_⟩:=Sep.c2 (Sep.pk [_,_,_] SF.out);refine bodyPost_ret (v:=.agg #[.string fr,.string k9]) ?_ rfl ⟨by rw[HE.out],Sep.drop (Sep.ku (Sep.drop (Sep.ku (Sep.drop (Sep.ku SF.out)))))⟩;rw[bC rfl];go_simp
   ·intro _ _;intros;assumption
  ·obtain⟨_,⟨x0,x1⟩,g0,g1⟩:=Sep.c2 (Sep.ku T0.out);obtain⟨_,⟨y0,y1,y2,y3⟩,_⟩:=Sep.c4 (Sep.pk [_,_] T0.out);obtain⟨_,⟨z0,z1⟩,f0,f2⟩:=Sep.c2 (Sep.pk [_,_,_] T0.out);have hd:decide ((ix:Int)< (n.ss.length:Int))=false:=by simp;omega
   have hd2:decide (ix<n.ss.length)=false:=by simp;omega
   have HE:Hid (iu n.ss ix tt=tt):=by show _=_;unfold iu;rw[if_neg fun h=>hl h.1]
   have SF:Hid (Sep B w0 ((u0.drew.setCell ⟨q3,0,none⟩ (.string fr)).setCell ⟨q3,1,none⟩ (.string tt)) (Pl P::aF q1 (.cells #[.string fr,.string tt] 99)::aF q2 (.cells #[.bool n.leaf,.slice ae n.es.length ce,.slice ak n.ks.length ck,.slice az n.ss.length cz] 170)::aF q3 (.cells #[.string fr,.string tt] 99)::l)):=Sep.pb [_,_,_] (((Sep.pk [_,_,_] T0.out).dA 0 _).dA 1 _);clear T0 hl
   go_region
   generalize u0.drew=u1 at*;go_wp2;generalize World.setCell _ _ _=u2 at*;clear x0 x1 g0 g1 y0 y1 y2 y3 z0 z1 f0 f2;obtain⟨_,⟨z0,z1⟩,_⟩:=Sep.c2 (Sep.pk [_,_,_] SF.out);refine bodyPost_ret (v:=.agg #[.string fr,.string tt]) ?_ rfl ⟨by rw[HE.out],Sep.drop (Sep.ku (Sep.drop (Sep.ku (Sep.drop (Sep.ku SF.out)))))⟩;rw[bC rfl];go_simp
end
end
section
open N (Nd nd0 cF dF dZ jo gG Sm dD jn En bB bc hidR ar ai Ch aP ah waits)
section
variable {B:Nat}{w0 w:World}{l:List aM}{P:List NV}{C:Cx}{x:TX}{d d1:Dk}
def YA (B:Nat)(w0:World)(C:Cx)(x:TX)(d:Dk)(P:List NV)(V:aM)(l:List aM)(b:Bool)(er:Int)(e:Ending)(w':World):Prop:=
 e=.returned (.tuple #[.bool b,.int .i64 er])∧∃P' d',(∀y∈P,y∈P')∧bH d d'∧Sep B w0 w' (TL C x d' P' (V::l))
def YB {σ:Type}(B:Nat)(w0:World)(C:Cx)(x:TX)(fy:Nat)(cy:Array Value)(st:σ->En->σ×Bool)(U:σ->aM)(m:σ->Nat)(Nm:Nat):Prop:=
 ∀(w:World) (d:Dk) (P:List NV) (l:List aM) (s:σ) (y:En),m (st s y).1<=Nm->Sep B w0 w (TL C x d P (U s::l))->
  Calls Tryz.prog fy (#[.agg #[.string y.1,.string y.2]]++cy) w fun e w'=>e=.returned (.bool (st s y).2)∧Sep B w0 w' (TL C x d P (U (st s y).1::l))
def JEY (B:Nat)(w0:World)(C:Cx)(x:TX)(d dc:Dk)(Pc:List NV)(U1 U2:aM)(l:List aM)(f10:Bool)(w:World):Prop:=
 (f10=false->Sep B w0 w (TL C x dc Pc (U1::l)))∧(f10=true->∃P' d',(∀y∈Pc,y∈P')∧bH d d'∧Sep B w0 w (TL C x d' P' (U2::l)))
def aah (B:Nat)(w0:World)(CC:Cx)(x:TX)(d dc:Dk)(Pc:List NV)(U1 U2:aM)(l:List aM)(b1:Bool)(e1:Int)(q8 DO NL r ro Ve ck ii:Nat)(kid dp:Int)(fa ta fb tb:ByteArray)(cs:Array Value)(fy:Nat)(cy:Array Value){y1 y3 y5 y6 y7 y8 y9 xC tF y13 uK qi qj tH y22 y23 y24 y25 zV y27 y28 y29 zW y31 y32 xI y34 uO uP xJ y38 y39 zX zY zZ z6 FV FW FX FY FZ F3 BM BN BO BP BQ BR Jx NT NU NY NZ N0 Te Tf Oc Od Oe Og Oh Oi Oj Ol Om Oo Oq Ot SX SY Ta y93 Jy y95 y96 WH y98 y99:Value}(C:List Bool->Act->Prop)(w:World):Prop:=∀{f0 f1 f2 f3 f4 f5 f6 f7 f8 f9 f10 f11 f12 f13 f14 f15:Bool}{x20 kn BS x80 x81 x82 x83 x84 x85 x86 x87 x88 x89 x90 x91 YC:Value},f15=false->JEY B w0 CC x d dc Pc U1 U2 (aF q8 (.cells #[.string fb,.string tb] 99)::aF DO (.cells cs 170)::aF NL (.cells #[.string fa,.string ta] 99)::l) f10 w->Hid (f0=true->x80=ptr CC.tq)->Hid (f1=true->x81=.pointer (some ⟨DO,2,none⟩))->Hid (f2=true->x82=.slice (some ⟨r,ro,none⟩) Ve ck)->Hid (f3=true->x83=.int .i64 (ii:Int))->Hid (f4=true->f2=true∧x84=.pointer (some ⟨r,ro+ii,none⟩))->Hid (f5=true->f4=true∧x85=.int .i64 kid)->Hid (f6=true->x86=.int .i64 dp)->Hid (f7=true->x87=.int .i64 (dp+1))->Hid (f8=true->x88=.agg #[.string fa,.string ta])->Hid (f9=true->x89=.func (.func fy) #[] cy)->Hid (f10=true->f2=true∧f5=true∧f8=true∧x90=.tuple #[.bool b1,.int .i64 e1])->Hid (f11=true->f10=true∧BS=.tuple #[.bool b1,.int .i64 e1])->Hid (f12=true->f10=true∧x91=.bool b1)->Hid (f13=true->f10=true∧YC=.int .i64 e1)->Hid (f14=true->f10=true∧x20=.bool b1)->C [f0,f1,f2,f3,f4,f5,f6,f7,f8,f9,f10,f11,f12,f13,f14,f15] {tmps:=#[ptr CC.tq,y1,.int .i64 dp,y3,.func (.func fy) #[] cy,y5,y6,y7,y8,y9,xC,tF,.pointer (some ⟨DO,0,none⟩),y13,uK,qi,qj,tH,.int .i64 (ii:Int),.pointer (some ⟨NL,0,none⟩),x20,kn,y22,y23,y24,y25,zV,y27,y28,y29,zW,y31,y32,xI,y34,uO,uP,xJ,y38,y39,zX,zY,zZ,z6,FV,FW,FX,FY,FZ,F3,BM,BN,BO,BP,BQ,BR,Jx,NT,NU,NY,NZ,N0,Te,Tf,Oc,Od,Oe,Og,Oh,Oi,Oj,Ol,Om,Oo,Oq,Ot,SX,SY,Ta,BS,x80,x81,x82,x83,x84,x85,x86,x87,x88,x89,x90,x91,YC,y93,Jy,y95,y96,WH,y98,y99],defers:=[]}
theorem Xj {σ:Type}{st:σ->En->σ×Bool}{m:σ->Nat}{Nm:Nat}{U:σ->aM}{fy:Nat}{cy:Array Value}(T:bW B w0)(hr:d.room<=16384)(ok:x.Ok d.room)(hz:x.Sz)(EY:∀args w,(callFunc fy args).run Tryz.prog w=.ok (.enter fy args) w)(hu:YB B w0 C x fy cy st U m Nm)(hm:∀s e,m s<=m (st s e).1):
  ∀(f:Nat) (w:World) (d1:Dk) (P:List NV) (l:List aM) (s s':σ) (id depth:Int) (fr tt:ByteArray) (b:Bool) (er:Int),Wf id->0<=depth->bH d d1->gu x d st f s id depth fr tt=some (s',(b,er))->m s'<=Nm->Sep B w0 w (TL C x d1 P (U s::l))->
  Calls Tryz.prog 72 #[ptr C.tq,.int .i64 id,.int .i64 depth,.agg #[.string fr,.string tt],.func (.func fy) #[] cy] w (YA B w0 C x d P (U s') l b er):=by
 intro f
 induction f with
 |zero=>intro w d1 P l s s' id depth fr tt b er _ _ _ he;cases he
 |succ f ih=>
 intro w d1 P l s s' id depth fr tt b er hw hd0 hd he hN h;have HU:Hid (YB B w0 C x fy cy st U m Nm):=hu;have HM:Hid (∀s e,m s<=m (st s e).1):=hm;have HN:Hid (m s'<=Nm):=hN;have HD:Hid (bH d d1):=hd;have IH:Hid (∀(w:World) (d1:Dk) (P:List NV) (l:List aM) (s s':σ) (id depth:Int) (fr tt:ByteArray) (b:Bool) (er:Int),Wf id->0<=depth->bH d d1->gu x d st f s id depth fr tt=some (s',(b,er))->m s'<=Nm->Sep B w0 w (TL C x d1 P (U s::l))->Calls Tryz.prog 72 #[ptr C.tq,.int .i64 id,.int .i64 depth,.agg #[.string fr,.string tt],.func (.func fy) #[] cy] w (YA B w0 C x d P (U s') l b er)):=ih;have S1:Hid (Sep B w0 (w.alloc (.cells #[.string fr,.string tt] 99)) _):=Sep.ur (h.aO _);have KR:Hid (∀u L,Sep B w0 u (TL C x d1 P L)->Calls Tryz.prog 101 #[ptr C.tq,.int .i64 id,.int .i64 depth] u (GN B w0 C x d1 P L 2 (dX x d id depth).1 (dX x d id depth).2)):=fun u L hu=>by
  have:=xP (id:=id) (depth:=depth) T hu hw (by rw[hd.room];exact ok) (by rw[hd.room];exact hr) hz
  rwa [hd.dX]at this
 have HD0:Hid (0<=depth):=hd0;rw[gu]at he;clear h hu hm hN hd ih hw hd0 T hr ok hz;generalize dX x d id depth=rr at*;obtain⟨n0,e0⟩:=rr;simp only at KR he;have HE:Hid (_=some (s',(b,er))):=he;clear he;go_enter Tryz.func72,Tryz.ntmps72
 go_wp2_with fail
 generalize World.alloc _ _=v1 at*;generalize w.heap.size=q8 at*;refine Calls.mono (KR.out _ _ S1.out) ?_;rintro e v2 ⟨p,d2,hn0,rfl,hd2,s2⟩;subst hn0;unfold NV.v;have D2:Hid (bH d d2):=HD.out.trans ⟨_,hd2⟩;have S2:Hid (Sep B w0 (v2.alloc (.cells #[.bool p.n.leaf,.slice p.ae p.n.es.length p.ce,.slice p.ak p.n.ks.length p.ck,.slice p.az p.n.ss.length p.cz] 170)) (TL C x d2 (p::P) (U s::aF q8 (.cells #[.string fr,.string tt] 99)::aF v2.heap.size (.cells #[.bool p.n.leaf,.slice p.ae p.n.es.length p.ce,.slice p.ak p.n.ks.length p.ck,.slice p.az p.n.ss.length p.cz] 170)::l))):=Sep.oW (Sep.aZ s2 _ _ rfl);clear KR hd2 s2 S1 HD;by_cases Vi:e0≠0
 ·have hE:=HE.out;rw[if_pos Vi]at hE;obtain⟨ha,hb,hc⟩:s=s'∧false=b∧e0=er:=by
   cases hE;exact⟨rfl,rfl,rfl⟩
  subst ha hb hc;have hne:(e0 != 0)=true:=bne_iff_ne.2 Vi;clear hE Vi HE;go_wp2;go_ret2;exact⟨rfl,p::P,d2,fun y hy=>List.mem_cons_of_mem _ hy,D2.out,Sep.drop (Sep.dS (Sep.drop (Sep.dS (S2.out))))⟩
 ·have hE:=HE.out;rw[if_neg Vi]at hE;have ez:e0=0:=Classical.not_not.1 Vi;subst ez;by_cases hg:(cB p.n&&dF p.n)=false∨1000<depth
  ·rw[if_pos hg]at hE;cases hE
  rw[if_neg hg]at hE;have hg2:cB p.n=true∧dF p.n=true∧depth<=1000:=by
   refine⟨?_,?_,by omega⟩
   ·cases hx:cB p.n
    ·exact absurd (.inl (by rw[hx];rfl)) hg
    ·rfl
   ·cases hx:dF p.n
    ·exact absurd (.inl (by rw[hx,Bool.and_false])) hg
    ·rfl
  obtain⟨hsm,hrt,hdp⟩:=hg2;obtain⟨lF,Xk,Xl,_,hwk⟩:=fe hsm;have hrg:N.Rg p.n.es:=by
   cases hl:p.n.leaf with
   |true=>exact((N.fX hl).1 hrt).2.2
   |false=>rw[((N.fK hl).1 hrt).1];exact⟨List.Pairwise.nil,fun _ h=>by cases h⟩
  have HRG:Hid (N.Rg p.n.es):=hrg;have Eu:Hid (Sm p.n∧∀k∈p.n.ks,Wf k):=⟨lF,hwk⟩;have Lr:Hid (p.n.es.length<=500∧p.n.ks.length<=500∧0<=depth∧depth<=1000):=⟨Xl,Xk,HD0.out,hdp⟩;clear HE Vi hg hsm hrt hdp lF Xk Xl hwk hrg HD0;have Pu:Hid (_=some (s',(b,er))):=hE;clear hE
  go_upto_region 4 with fail
  generalize World.alloc _ _=v3 at*;generalize v2.heap.size=DO at*;obtain⟨ae,ce,ak,ck,az,cz,n⟩:=p;simp only at*;have Uz:Hid ((⟨ae,ce,ak,ck,az,cz,n⟩:NV)∈(⟨ae,ce,ak,ck,az,cz,n⟩:NV)::P∧∀y∈P,y∈(⟨ae,ce,ak,ck,az,cz,n⟩:NV)::P):=⟨List.mem_cons_self ..,fun y hy=>List.mem_cons_of_mem _ hy⟩;generalize hPP:(⟨ae,ce,ak,ck,az,cz,n⟩:NV)::P=PP at*;clear hPP;have KF:Hid _:=N.mX (.slice ae n.es.length ce) n.es fr v3 (Sep.pool (Sep.Ck S2.out) _ Uz.out.1).e (by have:=Lr.out;omega);obtain⟨_,⟨x0,x1⟩,_⟩:=Sep.c2 (Sep.dS (S2.out));obtain⟨_,⟨y0,y1,y2,y3⟩,_⟩:=Sep.c4 (Sep.cX (S2.out))
  go_wp2_with fail
  refine Calls.mono KF.out ?_;rintro e v4 ⟨i0,ff,rfl,hf,b4⟩;have hi1:=(hf.2.2 HRG.out).1;have hi2:=hf.1;have S4:Hid _:=S2.out.below b4;clear S2 b4 x0 x1 y0 y1 y2 y3 KF hf HRG;rw[<-hi1]at Pu;clear hi1;have RS:Hid (∀u,(Instr.slice 49 (.slice ae n.es.length ce) (some (.int .i64 (i0:Int))) none none).run Tryz.prog u=.ok (.slice (if ce=i0 then ae else ae.map (·.add (i0*2))) (n.es.length-i0) (ce-i0)) u):=fun u=>N.wY ae n.es.length ce i0 hi2 u;have RR:Hid (∀u L,Sep B w0 u (TL C x d2 PP L)->Row N.ax 2 u (.slice (if ce=i0 then ae else ae.map (·.add (i0*2))) (n.es.length-i0) (ce-i0)) (n.es.drop i0)):=fun u L hu=>Row.suf (Sep.pool (Sep.Ck hu) _ Uz.out.1).e i0 hi2;rw[show n.es.length-i0=(n.es.drop i0).length by rw[List.length_drop]]at RS RR;have hLl:(n.es.drop i0).length<=500:=by rw[List.length_drop];have:=Lr.out;omega
  generalize n.es.drop i0=L at*;generalize(if ce=i0 then ae else ae.map (·.add (i0*2)))=aS at*;generalize ce-i0=cS at*;have HL5:Hid (L.length<=500):=hLl;have aai:(i0:Int)<=(n.es.length:Int):=by omega
  clear hLl hi2;obtain⟨_,⟨y0,y1,y2,y3⟩,_⟩:=Sep.c4 (Sep.cX (S4.out));have RSv:=RS.out v4;go_wp2;clear y0 y1 y2 y3 RSv RS aai
  go_loopg [45] L.length (fun kx s45 wr=>∃(j:Nat) (sj:σ),s45=.int .i64 (j:Int)∧j<=L.length∧L.length-j<=kx∧Hid (xV st tt L s=xV st tt (L.drop j) sj)∧Hid (Sep B w0 wr (TL C x d2 PP (U sj::aF q8 (.cells #[.string fr,.string tt] 99)::aF DO (.cells #[.bool n.leaf,.slice ae n.es.length ce,.slice ak n.ks.length ck,.slice az n.ss.length cz] 170)::l))))
  case atStart=>exact⟨0,s,rfl,Nat.zero_le _,Nat.le_refl _,(by show _=_;rw[List.drop_zero]),S4.out⟩
  case round=>
   clear S4;obtain⟨j,sj,rfl,hj,hjx,HJ,HS⟩:=hrel;by_cases hlt:j<L.length
   ·have uh:(j:Int)< (L.length:Int):=by omega
    obtain⟨cT,cap',e',_,_,h3⟩:=RR.out _ _ HS.out;obtain⟨rb,Xn,hae,hrb,z0,z1⟩:=N.cW h3 j hlt (Below.refl _ _);have e2:aS=cT:=by injection e'
    subst hae;subst e2;have hJ:=HJ.out;rw[oD hlt,xV]at hJ;have hwj:IntKind.i64.wrap ((j:Int)+1)=((j+1:Nat):Int):=by rw[bM (by omega) (by have:=HL5.out;omega)];rfl
    have HB1:Hid (m (xV st tt L s).1<=Nm):=by
     have h1:=Pu.out;show _<=_;refine Nat.le_trans ?_ HN.out;split at h1
     ·cases h1;exact Nat.le_refl _
     ·exact lh (fun s k f' t s' r hh=>oY HM.out x d f s k (depth+1) f' t s' r hh) _ _ _ _ _ _ _ _ h1
    generalize k7:L[j]! =y at*;clear k7 h3 e' HJ;have S5:Hid (Sep B w0 (wr.alloc (.cells #[.string y.1,.string y.2] 96)) _):=Sep.yD (HS.out.aO _);have HJ2:Hid (_=_):=hJ;clear hJ HS
    go_upto_region 8 with fail
    clear z0 z1 hrb;generalize World.alloc _ _=v5 at*;generalize wr.heap.size=q17 at*;obtain⟨_,⟨x0,x1⟩,_⟩:=Sep.c2 (Sep.dS (S5.out));obtain⟨_,⟨z0,z1⟩,_⟩:=Sep.c2 (Sep.eH (S5.out))
    go_wp2_with fail
    refine Calls.mono (rA S5.out) ?_;rintro e v6 ⟨rfl,s6⟩;have S6:Hid _:=s6;clear x0 x1 z0 z1 s6 S5;by_cases hh:bG tt y.1=false
    ·have hJ:=HJ2.out;rw[if_pos hh]at hJ;have h1:=Pu.out;rw[hJ]at h1;obtain⟨ha,hb,hc⟩:sj=s'∧true=b∧0=er:=by
      cases h1;exact⟨rfl,rfl,rfl⟩
     subst ha hb hc;clear hJ h1 Pu HJ2 HB1;rw[hh];go_wp2;go_ret2;exact⟨rfl,PP,d2,Uz.out.2,D2.out,Sep.drop (Sep.dS (Sep.drop (Sep.dS (Sep.drop (Sep.dS (S6.out))))))⟩
    ·have Xo:bG tt y.1=true:=by simpa using hh
     have hJ:=HJ2.out;rw[if_neg hh]at hJ;have hbd:m (st sj y).1<=Nm:=by
      have h1:=HB1.out;rw[hJ]at h1;refine Nat.le_trans ?_ h1;split
      ·exact Nat.le_refl _
      ·exact ri HM.out tt _ _
     have KU:Hid _:=HU.out v6 d2 PP _ sj y hbd S6.out;obtain⟨_,⟨z0,z1⟩,_⟩:=Sep.c2 (Sep.eH (S6.out));have Xp:Hid (_=_):=hJ;clear hJ HJ2 HB1 hbd S6 hh;rw[Xo];clear Xo;generalize st sj y=sy at*;obtain⟨s2,b2⟩:=sy;simp only at KU Xp
     go_wp2_with fail
     refine Calls.mono KU.out ?_;rintro e v7 ⟨rfl,s7⟩;have S7:Hid _:=s7;clear z0 z1 s7 KU;cases b2 with
     |false=>
      have hJ:=Xp.out;rw[if_pos rfl]at hJ;have h1:=Pu.out;rw[hJ]at h1;obtain⟨ha,hb,hc⟩:s2=s'∧false=b∧0=er:=by
       cases h1;exact⟨rfl,rfl,rfl⟩
      subst ha hb hc;clear hJ h1 Pu Xp;go_wp2;go_ret2;exact⟨rfl,PP,d2,Uz.out.2,D2.out,Sep.drop (Sep.dS (Sep.drop (Sep.dS (Sep.drop (Sep.dS (S7.out))))))⟩
     |true=>
      have hJ:=Xp.out;rw[if_neg (by simp)]at hJ;have HJ4:Hid (xV st tt L s=xV st tt (L.drop (j+1)) s2):=hJ;clear hJ Xp;go_wp2
      go_roundg (L.length- (j+1))
      case measure=>omega
      case rel=>exact⟨j+1,s2,by go_num,by omega,Nat.le_refl _,HJ4.out,Sep.oW (Sep.ur (Sep.dS (Sep.cX (Sep.drop (Sep.eH (S7.out))))))⟩
   ·have uh:¬(j:Int)< (L.length:Int):=by omega
    obtain rfl:j=L.length:=by omega
    have hJ:=HJ.out;rw[List.drop_length,xV]at hJ;have hE:=Pu.out;rw[hJ]at hE;have HE2:Hid (jf (fun s id fr tt=>gu x d st f s id (depth+1) fr tt) n fr tt (n.ks.length-dD n.ss fr) (dD n.ss fr) sj=some (s',(b,er))):=hE;have KC:Hid _:=N.oU n fr (.slice ae n.es.length ce) (.slice ak n.ks.length ck) (.slice az n.ss.length cz) wr (Sep.pool (Sep.Ck HS.out) _ Uz.out.1) Eu.out.1;obtain⟨_,⟨x0,x1⟩,_⟩:=Sep.c2 (Sep.dS (HS.out));obtain⟨_,⟨y0,y1,y2,y3⟩,_⟩:=Sep.c4 (Sep.cX (HS.out));clear hJ hE HJ Pu RR;generalize dD n.ss fr=c0 at*
    go_wp2_with fail
    refine Calls.mono KC.out ?_;rintro e v8 ⟨rfl,b8⟩;have S8:Hid _:=HS.out.below b8;clear KC b8 HS x0 x1 y0 y1 y2 y3;go_wp2
    go_loopg [18] n.ks.length (fun kx YS wr=>∃(ii:Nat) (si:σ) (Pc:List NV) (dc:Dk),YS=.int .i64 (ii:Int)∧n.ks.length-ii<=kx∧Hid (jf (fun s id fr tt=>gu x d st f s id (depth+1) fr tt) n fr tt (n.ks.length-ii) ii si=some (s',(b,er)))∧Hid ((⟨ae,ce,ak,ck,az,cz,n⟩:NV)∈Pc∧∀y∈P,y∈Pc)∧Hid (bH d dc)∧Hid (Sep B w0 wr (TL C x dc Pc (U si::aF q8 (.cells #[.string fr,.string tt] 99)::aF DO (.cells #[.bool n.leaf,.slice ae n.es.length ce,.slice ak n.ks.length ck,.slice az n.ss.length cz] 170)::l))))
    case atStart=>exact⟨c0,sj,PP,d2,rfl,by omega,HE2.out,Uz.out,D2.out,S8.out⟩
    case round=>
     clear S8 HE2 D2 Uz;obtain⟨ii,si,Pc,dc,rfl,hix,HE2,uU,HD,HS⟩:=hrel;by_cases hlt:ii<n.ks.length
     ·have uh:(ii:Int)< (n.ks.length:Int):=by omega
      obtain⟨g,WL⟩:∃g,n.ks.length-ii=g+1:=⟨n.ks.length-ii-1,by omega⟩;have hE:=HE2.out;rw[WL,jf]at hE;by_cases hss:n.ss.length<ii
      ·rw[if_pos hss]at hE;cases hE
      rw[if_neg hss]at hE;have KP:Hid _:=Lp (fr:=fr) (tt:=tt) (ix:=ii) (Sep.Ck HS.out) uU.out.1 (by simp only;omega) (by have:=Eu.out.1.s;omega);obtain⟨r,ro,hak,_,_⟩:=NV.kid (p:=⟨ae,ce,ak,ck,az,cz,n⟩) (Sep.pool (Sep.Ck HS.out) _ uU.out.1) (i:=ii) hlt;simp only at hak;subst hak;have HKW:Hid (Wf (n.ks.getD ii 0)):=by
       refine Eu.out.2 _ ?_;rw[List.getD_eq_getElem?_getD,List.getElem?_eq_getElem hlt];exact List.getElem_mem _
      have Xq:Hid (ii<n.ks.length):=hlt;have HG:Hid (n.ks.length-ii=g+1):=WL;generalize kB n.ss ii fr=fa at*;generalize iu n.ss ii tt=ta at*;obtain⟨_,⟨x0,x1⟩,_⟩:=Sep.c2 (Sep.dS (HS.out));obtain⟨_,⟨y0,y1,y2,y3⟩,_⟩:=Sep.c4 (Sep.cX (HS.out));have AZ:Hid (_=some (s',(b,er))):=hE;clear hE HE2 hss WL hlt HS;simp only at KP
      go_wp2_with fail
      clear x0 x1 y0 y1 y2 y3;refine Calls.mono KP.out ?_;rintro e v8 ⟨rfl,s8⟩;have S8:Hid (Sep B w0 (v8.alloc (.cells #[.string fa,.string ta] 99)) (TL C x dc Pc (U si::aF q8 (.cells #[.string fr,.string tt] 99)::aF DO (.cells #[.bool n.leaf,.slice ae n.es.length ce,.slice (some ⟨r,ro,none⟩) n.ks.length ck,.slice az n.ss.length cz] 170)::aF v8.heap.size (.cells #[.string fa,.string ta] 99)::l))):=Sep.yD (Sep.aZ (Sep.pb3 s8) _ _ rfl);clear s8 KP
      go_upto_region 17 with fail
      generalize World.alloc _ _=v9 at*;generalize v8.heap.size=NL at*;obtain⟨_,⟨x0,x1⟩,_⟩:=Sep.c2 (Sep.eH (S8.out))
      go_wp2_with fail
      refine Calls.mono (rA S8.out) ?_;rintro e v10 ⟨rfl,s9⟩;have S9:Hid _:=s9;clear x0 x1 s9 S8;by_cases hh:bG ta fa=false
      ·have hE:=AZ.out;rw[if_pos hh]at hE;obtain⟨ha,hb,hc⟩:si=s'∧true=b∧0=er:=by
        cases hE;exact⟨rfl,rfl,rfl⟩
       subst ha hb hc;clear hE AZ;rw[hh];go_wp2;go_ret2;exact⟨rfl,Pc,dc,uU.out.2,HD.out,Sep.drop (Sep.dS (Sep.drop (Sep.dS (Sep.drop (Sep.dS (S9.out))))))⟩
      ·have Xo:bG ta fa=true:=by simpa using hh
       have hE:=AZ.out;rw[if_neg hh]at hE;clear AZ hh;rw[Xo];clear Xo;have MX:Hid _:=uU.out.1;generalize xT:n.ks.getD ii 0=kid at*;have HKD:Hid (n.ks.getD ii 0=kid):=xT;have HWD:Hid (IntKind.i64.wrap (depth+1)=depth+1):=bM (by have:=Lr.out;omega) (by have:=Lr.out;omega);cases hrec:gu x d st f si kid (depth+1) fa ta with
       |none=>rw[hrec]at hE;cases hE
       |some rs=>
        obtain⟨s1,b1,e1⟩:=rs;rw[hrec]at hE;simp only at hE;have hb1:m s1<=Nm:=by
         refine Nat.le_trans ?_ HN.out;split at hE
         ·cases hE;exact Nat.le_refl _
         ·exact lh (fun s k f' t s' r hh=>oY HM.out x d f s k (depth+1) f' t s' r hh) _ _ _ _ _ _ _ _ hE
        have KI:Hid (∀u,Sep B w0 u (TL C x dc Pc (U si::aF q8 (.cells #[.string fr,.string tt] 99)::aF DO (.cells #[.bool n.leaf,.slice ae n.es.length ce,.slice (some ⟨r,ro,none⟩) n.ks.length ck,.slice az n.ss.length cz] 170)::aF NL (.cells #[.string fa,.string ta] 99)::l))->Calls Tryz.prog 72 #[ptr C.tq,.int .i64 kid,.int .i64 (depth+1),.agg #[.string fa,.string ta],.func (.func fy) #[] cy] u (YA B w0 C x d Pc (U s1) (aF q8 (.cells #[.string fr,.string tt] 99)::aF DO (.cells #[.bool n.leaf,.slice ae n.es.length ce,.slice (some ⟨r,ro,none⟩) n.ks.length ck,.slice az n.ss.length cz] 170)::aF NL (.cells #[.string fa,.string ta] 99)::l) b1 e1)):=fun u hu=>IH.out u dc Pc _ si s1 kid (depth+1) fa ta b1 e1 HKW.out (by have:=Lr.out;omega) HD.out hrec hb1 hu;have AZ:Hid (_=some (s',(b,er))):=hE;clear hE hrec hb1 xT
        go_wp2_with fail
        refine bc 15 (aah B w0 C x d dc Pc (U si) (U s1) l b1 e1 q8 DO NL r ro n.ks.length ck ii kid depth fa ta fr tt #[.bool n.leaf,.slice ae n.es.length ce,.slice (some ⟨r,ro,none⟩) n.ks.length ck,.slice az n.ss.length cz] fy cy) (by kernel_rfl) (by kernel_rfl) (by kernel_rfl) (fun _ k=>k rfl ⟨fun _=>Sep.drew S9.out,(fun h=>by cases h)⟩ ar ar ar ar ar ar ar ar ar ar ar ar ar ar ar) ?_ ?_ ?_
        ·intro i w' hne f0 f1 f2 f3 f4 f5 f6 f7 f8 f9 f10 f11 f12 f13 f14 f15 x20 kn BS x80 x81 x82 x83 x84 x85 x86 x87 x88 x89 x90 x91 YC e15 hB h0 h1 h2 h3 h4 h5 h6 h7 h8 h9 h10 h11 h12 dN fP hi;obtain⟨hlt,hun,_⟩:=aP hi;have hlt':i<16:=hlt;clear hlt;rcases(by omega:i=0∨i=1∨i=2∨i=3∨i=4∨i=5∨i=6∨i=7∨i=8∨i=9∨i=10∨i=11∨i=12∨i=13∨i=14)with rfl|rfl|rfl|rfl|rfl|rfl|rfl|rfl|rfl|rfl|rfl|rfl|rfl|rfl|rfl
         refine ai rfl fun K HK=>?_;go_simp
         rotate_left
         refine ai rfl fun K HK=>?_;go_simp
         rotate_left
         ·have un:f2=false:=hun;cases h1 (ah 1 hi (by kernel_rfl));have n10:f10=false:=by
           cases hf:f10
           ·rfl
           ·exact absurd (h10.out hf).1 (by rw[un];simp)
          obtain⟨_,⟨y0,y1,y2,y3⟩,_⟩:=Sep.c4 (Sep.cX (hB.1 n10));refine ai rfl fun K HK=>?_;go_simp;exact HK.out _ _ fun _ k=>k e15 hB h0 h1 hidR h3 (fun d=>by have e:=(h4.out d).1;rw[un]at e;cases e) h5 h6 h7 h8 h9 (fun d=>by have e:=(h10.out d).1;rw[un]at e;cases e) h11 h12 dN fP
         refine ai rfl fun K HK=>?_;go_simp
         rotate_left
         ·have un:f4=false:=hun;have d2:f2=true:=ah 2 hi (by kernel_rfl);cases h2 d2;cases h3 (ah 3 hi (by kernel_rfl));have hil:(ii:Int)< (n.ks.length:Int):=by have:=Xq.out;omega
          refine ai rfl fun K HK=>?_;go_simp;exact HK.out _ _ fun _ k=>k e15 hB h0 h1 h2 h3 (fun _=>⟨d2,rfl⟩) (fun d=>by have e:=(h5.out d).1;rw[un]at e;cases e) h6 h7 h8 h9 h10 h11 h12 dN fP
         ·have un:f5=false:=hun;have d4:f4=true:=ah 4 hi (by kernel_rfl);obtain⟨_,rfl⟩:=h4.out d4;have n10:f10=false:=by
           cases hf:f10
           ·rfl
           ·exact absurd (h10.out hf).2.1 (by rw[un];simp)
          obtain⟨z1,z2,hz3,hzs,hzc⟩:=NV.kid (p:=(⟨ae,ce,some ⟨r,ro,none⟩,ck,az,cz,n⟩:NV)) (Sep.pool (Sep.Ck (hB.1 n10)) _ MX.out) (i:=ii) Xq.out;cases hz3;simp only at hzc;rw[HKD.out]at hzc;refine ai rfl fun K HK=>?_;go_simp;exact HK.out _ _ fun _ k=>k e15 hB h0 h1 h2 h3 h4 (fun _=>⟨d4,rfl⟩) h6 h7 h8 h9 (fun d=>by have e:=(h10.out d).2.1;rw[un]at e;cases e) h11 h12 dN fP
         refine ai rfl fun K HK=>?_;go_simp
         rotate_left
         cases h6 (ah 6 hi (by kernel_rfl));have wd:=HWD.out;refine ai rfl fun K HK=>?_;go_simp
         rotate_left
         ·have un:f8=false:=hun;have n10:f10=false:=by
           cases hf:f10
           ·rfl
           ·exact absurd (h10.out hf).2.2.1 (by rw[un];simp)
          obtain⟨_,⟨y0,y1⟩,_⟩:=Sep.c2 (Sep.eH (hB.1 n10));refine ai rfl fun K HK=>?_;go_simp;exact HK.out _ _ fun _ k=>k e15 hB h0 h1 h2 h3 h4 h5 h6 h7 hidR h9 (fun d=>by have e:=(h10.out d).2.2.1;rw[un]at e;cases e) h11 h12 dN fP
         refine ai rfl fun K HK=>?_;go_simp
         rotate_left
         ·have un:f10=false:=hun;cases h0 (ah 0 hi (by kernel_rfl));have d5:f5=true:=ah 5 hi (by kernel_rfl);obtain⟨_,rfl⟩:=h5.out d5;cases h7 (ah 7 hi (by kernel_rfl));have d8:f8=true:=ah 8 hi (by kernel_rfl);cases h8 d8;cases h9 (ah 9 hi (by kernel_rfl));refine ai rfl fun K HK=>?_;go_simp;refine Calls.mono (KI.out _ (hB.1 un)) ?_;rintro e u4 ⟨rfl,s4⟩;exact HK.out _ _ fun _ k=>k e15 ⟨(fun h=>by cases h),fun _=>s4⟩ h0 h1 h2 h3 h4 h5 h6 h7 h8 h9 (fun _=>⟨(h4.out (h5.out d5).1).1,d5,d8,rfl⟩) (fun d=>by have e:=(h11.out d).1;rw[un]at e;cases e) (fun d=>by have e:=(h12.out d).1;rw[un]at e;cases e) (fun d=>by have e:=(dN.out d).1;rw[un]at e;cases e) (fun d=>by have e:=(fP.out d).1;rw[un]at e;cases e)
         ·have d10:f10=true:=ah 10 hi (by kernel_rfl);obtain⟨u2,u5,u8,rfl⟩:=h10.out d10;refine ai rfl fun K HK=>?_;go_simp;exact HK.out _ _ fun _ k=>k e15 hB h0 h1 h2 h3 h4 h5 h6 h7 h8 h9 h10 (fun _=>⟨d10,rfl⟩) h12 dN fP
         ·have d11:f11=true:=ah 11 hi (by kernel_rfl);obtain⟨_,rfl⟩:=h11.out d11;have d10:f10=true:=(h11.out d11).1;refine ai rfl fun K HK=>?_;go_simp;exact HK.out _ _ fun _ k=>k e15 hB h0 h1 h2 h3 h4 h5 h6 h7 h8 h9 h10 h11 (fun _=>⟨d10,rfl⟩) dN fP
         ·have d11:f11=true:=ah 11 hi (by kernel_rfl);obtain⟨_,rfl⟩:=h11.out d11;have d10:f10=true:=(h11.out d11).1;refine ai rfl fun K HK=>?_;go_simp;exact HK.out _ _ fun _ k=>k e15 hB h0 h1 h2 h3 h4 h5 h6 h7 h8 h9 h10 h11 h12 (fun _=>⟨d10,rfl⟩) fP
         ·have d12:f12=true:=ah 12 hi (by kernel_rfl);obtain⟨_,rfl⟩:=h12.out d12;have d10:f10=true:=(h12.out d12).1;refine ai rfl fun K HK=>?_;go_simp;exact HK.out _ _ fun _ k=>k e15 hB h0 h1 h2 h3 h4 h5 h6 h7 h8 h9 h10 h11 h12 dN (fun _=>⟨d10,rfl⟩)
         all_goals exact HK.out _ _ fun _ k=>by apply k<;>first|assumption|exact hidR|(repeat' first|apply Exists.intro|assumption|rfl|apply And.intro|exact fun _=>rfl)
        ·intro w' f0 f1 f2 f3 f4 f5 f6 f7 f8 f9 f10 f11 f12 f13 f14 f15 x20 kn BS x80 x81 x82 x83 x84 x85 x86 x87 x88 x89 x90 x91 YC e15 hB h0 h1 h2 h3 h4 h5 h6 h7 h8 h9 h10 h11 h12 dN fP hi;have d13:f13=true:=ah 13 hi (by kernel_rfl);obtain⟨_,rfl⟩:=dN.out d13;have d14:f14=true:=ah 14 hi (by kernel_rfl);obtain⟨_,rfl⟩:=fP.out d14;clear hi;have u10:=(dN.out d13).1;refine ai rfl fun K HK=>?_;go_simp;refine HK.out _ _ ?_;obtain⟨P1,d3,hp1,hd3,s9⟩:=hB.2 u10;have Ep:Hid _:=Sep.drop (Sep.eH (s9));have D3:Hid (bH d d3):=hd3;have M3:Hid ((⟨ae,ce,some ⟨r,ro,none⟩,ck,az,cz,n⟩:NV)∈P1∧∀y∈P,y∈P1):=⟨hp1 _ uU.out.1,fun y hy=>hp1 _ (uU.out.2 y hy)⟩;clear s9 hp1 hd3 h0 h1 h2 h3 h4 h5 h6 h7 h8 h9 h10 h11 h12 dN fP hB u10;have wi:IntKind.i64.wrap ((ii:Int)+1)=((ii+1:Nat):Int):=by rw[bM (by have:=Xq.out;have:=Lr.out;omega) (by have:=Xq.out;have:=Lr.out;omega)];rfl
         by_cases hq:e1≠0∨b1=false
         ·have hE:=AZ.out;rw[if_pos hq]at hE;obtain⟨ha,hb,hc⟩:s1=s'∧false=b∧e1=er:=by
           cases hE;exact⟨rfl,rfl,rfl⟩
          subst ha hb hc;clear hE AZ;rcases Classical.em (e1=0)with h00|h00
          ·obtain rfl:b1=false:=by
            rcases hq with h|h
            ·exact absurd h00 h
            ·exact h
           subst h00;go_wp2;go_ret2;exact⟨rfl,P1,d3,M3.out.2,D3.out,Sep.drop (Sep.dS (Sep.drop (Sep.dS (Ep.out))))⟩
          ·have hne:(e1 != 0)=true:=bne_iff_ne.2 h00;go_wp2;go_ret2;exact⟨rfl,P1,d3,M3.out.2,D3.out,Sep.drop (Sep.dS (Sep.drop (Sep.dS (Ep.out))))⟩
         ·have hE:=AZ.out;rw[if_neg hq]at hE;obtain⟨rfl,rfl⟩:e1=0∧b1=true:=by
           refine⟨?_,?_⟩
           ·rcases Classical.em (e1=0)with h|h
            ·exact h
            ·exact absurd (.inl h) hq
           ·cases hb1:b1
            ·exact absurd (.inr hb1) hq
            ·rfl
          have HE4:Hid (jf (fun s id fr tt=>gu x d st f s id (depth+1) fr tt) n fr tt g (ii+1) s1=some (s',(b,er))):=hE;clear hE AZ hq;go_wp2
          go_roundg (n.ks.length- (ii+1))
          case measure=>have:=Xq.out;omega
          case rel=>exact⟨ii+1,s1,P1,d3,(by go_num),Nat.le_refl _,(by show _=_;rw[show n.ks.length- (ii+1)=g by have:=HG.out;omega];exact HE4.out),M3.out,D3.out,Ep.out⟩
        ·intro _ _;intros;assumption
     ·have uh:¬(ii:Int)< (n.ks.length:Int):=by omega
      have hE:=HE2.out;rw[show n.ks.length-ii=0 by omega,jf]at hE;obtain⟨ha,hb,hc⟩:si=s'∧true=b∧0=er:=by
       cases hE;exact⟨rfl,rfl,rfl⟩
      subst ha hb hc;obtain⟨_,⟨y0,y1,y2,y3⟩,_⟩:=Sep.c4 (Sep.cX (HS.out));clear hE HE2;go_wp2;go_ret2;exact⟨rfl,Pc,dc,uU.out.2,HD.out,Sep.drop (Sep.dS (Sep.drop (Sep.dS (HS.out))))⟩
end
end
section
section
variable {B:Nat}{w0 w w':World}{l:List aM}{e:TypeId}{k n:Nat}{v v':Value}{cs:List Value}
theorem GS {m:Nat}{news:List Value}(h:Sep B w0 w (RowK e k v n cs::l))(h2:w'.ownsRow 0 e k v' m news)(hg:w.grownBy w' v.ownBlock)(hloc:v'.ownBlock=v.ownBlock∨v'.ownBlock=some w.heap.size):Sep B w0 w' (RowK e k v' m news::l):=by
 refine h.step (gB _ _ _ _ _) fun X hX=>⟨fun q=>v'.ownBlock=some q,⟨h2,fun q=>Iff.rfl⟩,dw.grown hg (fun q hq=>(hX.2 q).2 hq),fun q hq=>?_⟩;rcases hloc with e1|e1
 ·exact .inl ((hX.2 q).2 (e1▸hq))
 ·rw[e1]at hq;exact .inr (Nat.le_of_eq (Option.some.inj hq))
variable {F:Fence}{nF:Nat}{ops:Array Oper}{rest:List Oper}{o:Oper}{a:Act}{Q:Exit->Act->World->Prop}{P:Program}{z:Value}{bytes:Nat}{t:TypeId}{r c m:Nat}{news:List Value}{s x:Operand}
theorem CQ {r:Nat}{w:World}{ts:TypeId}{news:List Value}(h:w.heap[r]? =some (.cells news.toArray ts (0,0))):∀j u,news[j]? =some u->w.cell? ((⟨r,0,none⟩:Addr).add j)=some u:=fun j u hj=>by
 rw[Go.WideShapes.add_plain,Nat.zero_add];simp only[World.cell?,h];simpa using hj
theorem UA (hgd:o.guard=.none)(ho:o.op=.call {callee:=.builtin .append,args:=#[s,x],argTypes:=#[t,t]})(aaj:(P.info? e).map (fun i=>(i.zero,i.size,i.bytes))=some (some z,k,bytes))(ht:P.underlying t=some (.slice e))(hz:z.cells.size=k)(hk:0<k)(hby:bytes<=1000)
  (v:Value)(hs:a.eval s=v)(h:Sep B w0 w (RowK e k v n cs::l))(hx:a.eval x=.slice (some ⟨r,0,none⟩) 1 c)(hnews:∀j u,news[j]? =some u->w.cell? ((⟨r,0,none⟩:Addr).add j)=some u)(hlen:news.length=k)(h1:∀u∈news,u.oneCell'=true)(hn:n<1000000)
  (hK:∀ao c' w',Sep B w0 w' (RowK e k (.slice ao (n+1) c') (n+1) (cs++news)::l)->wpList P ops Q rest (a.put o.dst (.slice ao (n+1) c')) w'):wpList P ops Q (o::rest) a w:=by
 obtain⟨i0,hi,hz0,hz1,hz2⟩:=info_parts aaj;refine wpList_append_own_at w hgd s x t ho 0 e i0 z k bytes ht hi hz0 hz1 hz2 hz hk v n cs hs h.Kr ⟨r,0,none⟩ 1 c news hx (by omega) hnews h1 (by unfold maxLen;omega) ?_ (Nat.zero_le _) ?_
 ·exact Nat.le_trans (Nat.mul_le_mul (show n+1<=1000000 by omega) hby) (by decide)
 ·intro v' w' g1 g2 _ g4;obtain⟨cT,n',c',rfl⟩:∃ao n c,v'=.slice ao n c:=by
   rcases g1.2 with⟨h,_⟩| ⟨g,cap,cur,h,_⟩
   ·exact⟨_,_,_,h⟩
   ·exact⟨_,_,_,h⟩
  obtain rfl:n'=n+1:=by
   rcases g1.2 with⟨_,h⟩| ⟨g,cap,cur,h,_⟩
   ·omega
   ·cases h;rfl
  exact hK _ _ _ (GS h g1 g2 g4)
end
section
variable {ops:Array Oper}{o:Oper}{a:Act}{K:Act->World->Prop}{Q:Exit->Act->World->Prop}{E:Prop}{B:Nat}{w0 w:World}{l:List aM}{P:Program}{e t:TypeId}{k n bytes r c:Nat}{z:Value}{cs news:List Value}{s x:Operand}
end
def wo (v:Value)(o:List N.En):aM:=RowK 96 2 v o.length (flatK N.ax 2 o.toArray).toList
theorem oh (v:Value)(o:List N.En):Good (wo v o):=gB _ _ _ _ _
theorem Xr {B:Nat}{w0 w:World}{l:List aM}{v:Value}{s:List N.En}{y:N.En}(h:Sep B w0 w (RowK 96 2 v (s.length+1) ((flatK N.ax 2 s.toArray).toList++N.ax y)::l)):Sep B w0 w (wo v (s++[y])::l):=by
 unfold wo;rw[List.length_append,List.length_singleton,cE N.ax 2 N.cD];exact h
theorem Sep.Xs {B:Nat}{w0 w:World}{l:List aM}{v:Value}{s:List N.En}(h:Sep B w0 w (wo v s::l)):Row N.ax 2 w v s:=(bI (base:=0) (by decide) h.Kr).row
end
section
open N (Nd En)
def Vj (pl:Nat)(s:List En):aM:=fun w X=>∃v,Both (aF pl (.cells #[v] 49)) (wo v s) w X
theorem Ls (pl:Nat)(s:List En):Good (Vj pl s):=
 ⟨fun w w' X ⟨v,h⟩ hk hs=>⟨v,(aQ (aU _ _) (oh _ _)).kept w w' X h hk hs⟩,fun w X ⟨v,h⟩=>(aQ (aU _ _) (oh _ _)).lt w X h⟩
def UB (s:List En)(y:En):List En×Bool:=(s++[y],true)
section
variable {B:Nat}{w0 w:World}{l:List aM}{P:List NV}{C:Cx}{x:TX}{d d1:Dk}{pl p1 p2:Nat}
theorem Sep.QT (h:Sep B w0 w l):Sep B w0 w (wo (.slice none 0 0) []::l):=by
 unfold wo;simpa[flatK]using Sep.TI (e:=96) (k:=2) h
theorem Sep.Lt {s:List En}(h:Sep B w0 w (Vj pl s::l)):∃ao c,Sep B w0 w (aF pl (.cells #[.slice ao s.length c] 49)::wo (.slice ao s.length c) s::l):=by
 obtain⟨hB,hb,Y,⟨gg,X,Z,⟨v,hX⟩,hz,hd,hy⟩,hY⟩:=h;have h0:Hp w (Both (aF pl (.cells #[v] 49)) (wo v s)::l) Y:=⟨aQ (aU _ _) (oh _ _),X,Z,hX,hz,hd,hy⟩;have h1:Sep B w0 w (aF pl (.cells #[v] 49)::wo v s::l):=⟨hB,hb,Y,Hp.part (aU _ _) (oh _ _) h0,hY⟩;obtain⟨ao,c,rfl⟩:=Sep.vT (n:=s.length) (Sep.pk [_] h1);exact⟨ao,c,h1⟩
theorem Sep.Lu {s:List En}{v:Value}(h:Sep B w0 w (aF pl (.cells #[v] 49)::wo v s::l)):Sep B w0 w (Vj pl s::l):=by
 obtain⟨hB,hb,Y,⟨gg,X,Z,hX,hz,hd,hy⟩,hY⟩:=Sep.join h;exact⟨hB,hb,Y,⟨Ls _ _,X,Z,⟨v,hX⟩,hz,hd,hy⟩,hY⟩
theorem Lv:YB B w0 C x 50 #[.pointer (some ⟨pl,0,none⟩)] UB (Vj pl) List.length 900000:=by
 intro w d P l s y hb h;unfold UB at hb⊢;simp only[List.length_append,List.length_singleton]at hb;obtain⟨ao,c,ho⟩:=Sep.Lt (Sep.pk [_,_,_,_] h);have hn:s.length<1000000:=by omega
 have SB:Hid (Sep B w0 ((w.alloc (.cells #[.string y.1,.string y.2] 96)).alloc (.cells #[.string y.1,.string y.2] 96)) (RowK 96 2 (.slice ao s.length c) s.length (flatK N.ax 2 s.toArray).toList::aF (w.heap.size+1) (.cells #[.string y.1,.string y.2] 96)::aF pl (.cells #[.slice ao s.length c] 49)::Tx C.t C.f x::File C.f C.b d::nM C::Pl P::l)):=
  Sep.pk [_,_] (Sep.aZ (ho.alloc (.cells #[.string y.1,.string y.2] 96)) _ _ (by simp))
 have QU:Hid _:=CQ (news:=N.ax y) (Sep.blk (Sep.pk [_] SB.out));obtain⟨ps,p0,_⟩:=Sep.c1 ho;clear h ho hb;go_enter Tryz.func50,Tryz.ntmps50
 go_wp2_with (at_builtin;refine UA rfl rfl N.fV Tryz.underlying49 rfl (by decide) (by decide) _ rfl SB.out rfl QU.out rfl (N.fh y) hn ?_;intro Lx c5 w5 s5;have S5:Hid (Sep B w0 w5 (aF pl (.cells #[.slice ao s.length c] 49)::wo (.slice Lx (s.length+1) c5) (s++[y])::Tx C.t C.f x::File C.f C.b d::nM C::Pl P::l)):=Sep.pk [_] (Xr (Sep.drop (Sep.pk [_] s5)));clear s5 SB QU;obtain⟨qs,q0,qf⟩:=Sep.c1 S5.out)
 have SF:Hid (Sep B w0 (w5.setCell ⟨pl,0,none⟩ (.slice Lx (s.length+1) c5)) (TL C x d P (Vj pl (s++[y])::l))):=by
  have h6:=Sep.ml (x:=.slice Lx (s.length+1) c5) S5.out 0;exact Sep.pb [_,_,_,_] (Sep.Lu h6)
 go_ret;exact⟨rfl,SF.out⟩
end
end
section
open N (Nd En bB bc hidR ar ai Ch aP ah waits)
section
variable {B:Nat}{w0 w:World}{l:List aM}{P:List NV}{C:Cx}{x:TX}{d d1:Dk}
def GEt (B:Nat)(w0:World)(C:Cx)(x:TX)(d:Dk)(P:List NV)(V:aM)(l:List aM)(er:Int)(e:Ending)(w':World):Prop:=
 e=.returned (.int .i64 er)∧∃P' d',(∀y∈P,y∈P')∧bH d d'∧Sep B w0 w' (TL C x d' P' (V::l))
def JTY (B:Nat)(w0:World)(C:Cx)(x:TX)(d d1:Dk)(P:List NV)(U1 U2:aM)(l:List aM)(f7:Bool)(w:World):Prop:=
 (f7=false->Sep B w0 w (TL C x d1 P (U1::l)))∧(f7=true->∃P' d',(∀y∈P,y∈P')∧bH d d'∧Sep B w0 w (TL C x d' P' (U2::l)))
def aak (B:Nat)(w0:World)(CC:Cx)(x:TX)(d d1:Dk)(P:List NV)(U1 U2:aM)(l:List aM)(b1:Bool)(e1:Int)(q4:Nat)(root:Int)(fr tt:ByteArray)(fy:Nat)(cy:Array Value){y1 y3 y5 y6 y9 xC tF tG y13 uK qi qj tH y29:Value}(C:List Bool->Act->Prop)(w:World):Prop:=∀{f0 f1 f2 f3 f4 f5 f6 f7 f8 f9 f10 f11 f12:Bool}{x7 x8 zS uL x20 kn mg lz x24 x25 tI x27 x28:Value},f12=false->JTY B w0 CC x d d1 P U1 U2 (aF q4 (.cells #[.string fr,.string tt] 99)::l) f7 w->Hid (f0=true->uL=ptr CC.tq)->Hid (f1=true->x20=ptr CC.tq)->Hid (f2=true->kn=ptr CC.tq)->Hid (f3=true->mg=.pointer (some ⟨CC.tq,1,none⟩))->Hid (f4=true->lz=.int .i64 root)->Hid (f5=true->x24=.agg #[.string fr,.string tt])->Hid (f6=true->x25=.func (.func fy) #[] cy)->Hid (f7=true->f4=true∧f5=true∧tI=.tuple #[.bool b1,.int .i64 e1])->Hid (f8=true->f7=true∧zS=.tuple #[.bool b1,.int .i64 e1])->Hid (f9=true->f7=true∧x27=.bool b1)->Hid (f10=true->f7=true∧x28=.int .i64 e1)->Hid (f11=true->f7=true∧x7=.bool b1)->C [f0,f1,f2,f3,f4,f5,f6,f7,f8,f9,f10,f11,f12] {tmps:=#[ptr CC.tq,y1,.func (.func fy) #[] cy,y3,.pointer (some ⟨q4,0,none⟩),y5,y6,x7,x8,y9,xC,tF,tG,y13,uK,qi,qj,tH,zS,uL,x20,kn,mg,lz,x24,x25,tI,x27,x28,y29],defers:=[]}
theorem UC {σ:Type} {st:σ->En->σ×Bool} {m:σ->Nat} {Nm:Nat} {U:σ->aM} {fy:Nat} {cy:Array Value} {f:Nat} {s s':σ} {fr tt:ByteArray} {b:Bool} {er:Int} (T:bW B w0) (hr:d.room<=16384) (ok:x.Ok d.room) (hz:x.Sz) (EY:∀args w,(callFunc fy args).run Tryz.prog w=.ok (.enter fy args) w) (hu:YB B w0 C x fy cy st U m Nm) (hm:∀s e,m s<=m (st s e).1) (h0:C.err=0) (hw:Wf C.root) (hd:bH d d1) (he:gu x d st f s C.root 0 fr tt=some (s',(b,er))) (hN:m s'<=Nm) (h:Sep B w0 w (TL C x d1 P (U s::l))):
  Calls Tryz.prog 49 #[ptr C.tq,.agg #[.string fr,.string tt],.func (.func fy) #[] cy] w (GEt B w0 C x d P (U s') l er):=by
 have S1:Hid (Sep B w0 (w.alloc (.cells #[.string fr,.string tt] 99)) (TL C x d1 P (U s::aF w.heap.size (.cells #[.string fr,.string tt] 99)::l))):=Sep.pb [_,_,_,_,_] (h.aO _);have KE:Hid (∀u,Sep B w0 u (TL C x d1 P (U s::aF w.heap.size (.cells #[.string fr,.string tt] 99)::l))->Calls Tryz.prog 72 #[ptr C.tq,.int .i64 C.root,.int .i64 0,.agg #[.string fr,.string tt],.func (.func fy) #[] cy] u (YA B w0 C x d P (U s') (aF w.heap.size (.cells #[.string fr,.string tt] 99)::l) b er)):=fun u hu'=>Xj T hr ok hz EY hu hm f u d1 P _ s s' C.root 0 fr tt b er hw (by omega) hd he hN hu';obtain⟨ts,⟨t0,t1,t2⟩,_⟩:=Sep.Co (Sep.pk [_,_] (h));rw[h0]at t2;have HRT:Hid (C.root=C.root):=rfl;clear h hu hm h0 hw hd he hN T hr ok hz;go_enter Tryz.func49,Tryz.ntmps49
 go_wp2_with fail
 clear t0 t1 t2 ts;generalize w.alloc (.cells #[.string fr,.string tt] 99)=w1 at*;generalize w.heap.size=q4 at*;refine bc 12 (aak B w0 C x d d1 P (U s) (U s') l b er q4 C.root fr tt fy cy) (by kernel_rfl) (by kernel_rfl) (by kernel_rfl) (fun _ k=>k rfl ⟨fun _=>Sep.drew S1.out,(fun h=>by cases h)⟩ ar ar ar ar ar ar ar ar ar ar ar ar) ?_ ?_ ?_
 ·intro i w' hne f0 f1 f2 f3 f4 f5 f6 f7 f8 f9 f10 f11 f12 x7 x8 zS uL x20 kn mg lz x24 x25 tI x27 x28 e12 hB h0 h1 h2 h3 h4 h5 h6 h7 h8 h9 h10 h11 hi;obtain⟨hlt,hun,_⟩:=aP hi;have hlt':i<13:=hlt;clear hlt;rcases(by omega:i=0∨i=1∨i=2∨i=3∨i=4∨i=5∨i=6∨i=7∨i=8∨i=9∨i=10∨i=11)with rfl|rfl|rfl|rfl|rfl|rfl|rfl|rfl|rfl|rfl|rfl|rfl
  ·refine ai rfl fun K HK=>?_;go_simp;exact HK.out _ _ fun _ k=>k e12 hB hidR h1 h2 h3 h4 h5 h6 h7 h8 h9 h10 h11
  ·refine ai rfl fun K HK=>?_;go_simp;exact HK.out _ _ fun _ k=>k e12 hB h0 hidR h2 h3 h4 h5 h6 h7 h8 h9 h10 h11
  ·cases h1 (ah 1 hi (by kernel_rfl));refine ai rfl fun K HK=>?_;go_simp;exact HK.out _ _ fun _ k=>k e12 hB h0 h1 hidR h3 h4 h5 h6 h7 h8 h9 h10 h11
  ·cases h2 (ah 2 hi (by kernel_rfl));refine ai rfl fun K HK=>?_;go_simp;exact HK.out _ _ fun _ k=>k e12 hB h0 h1 h2 hidR h4 h5 h6 h7 h8 h9 h10 h11
  ·have un:f4=false:=hun;cases h3 (ah 3 hi (by kernel_rfl));have n7:f7=false:=by
    cases hf:f7
    ·rfl
    ·exact absurd (h7.out hf).1 (by rw[un];simp)
   obtain⟨_,⟨t0,t1,t2⟩,_⟩:=Sep.Co (Sep.pk [_,_] (hB.1 n7));refine ai rfl fun K HK=>?_;go_simp;exact HK.out _ _ fun _ k=>k e12 hB h0 h1 h2 h3 hidR h5 h6 (fun d=>by have e:=(h7.out d).1;rw[un]at e;cases e) h8 h9 h10 h11
  ·have un:f5=false:=hun;have n7:f7=false:=by
    cases hf:f7
    ·rfl
    ·exact absurd (h7.out hf).2.1 (by rw[un];simp)
   obtain⟨_,⟨y0,y1⟩,_⟩:=Sep.c2 (Sep.pk [_,_,_,_,_] (hB.1 n7));refine ai rfl fun K HK=>?_;go_simp;exact HK.out _ _ fun _ k=>k e12 hB h0 h1 h2 h3 h4 hidR h6 (fun d=>by have e:=(h7.out d).2.1;rw[un]at e;cases e) h8 h9 h10 h11
  ·refine ai rfl fun K HK=>?_;go_simp;exact HK.out _ _ fun _ k=>k e12 hB h0 h1 h2 h3 h4 h5 hidR h7 h8 h9 h10 h11
  ·have un:f7=false:=hun;cases h0 (ah 0 hi (by kernel_rfl));have d4:f4=true:=ah 4 hi (by kernel_rfl);cases h4 d4;have d5:f5=true:=ah 5 hi (by kernel_rfl);cases h5 d5;cases h6 (ah 6 hi (by kernel_rfl));refine ai rfl fun K HK=>?_;go_simp;refine Calls.mono (KE.out _ (hB.1 un)) ?_;rintro e u4 ⟨rfl,s4⟩;exact HK.out _ _ fun _ k=>k e12 ⟨(fun h=>by cases h),fun _=>s4⟩ h0 h1 h2 h3 h4 h5 h6 (fun _=>⟨d4,d5,rfl⟩) (fun d=>by have e:=(h8.out d).1;rw[un]at e;cases e) (fun d=>by have e:=(h9.out d).1;rw[un]at e;cases e) (fun d=>by have e:=(h10.out d).1;rw[un]at e;cases e) (fun d=>by have e:=(h11.out d).1;rw[un]at e;cases e)
  ·have d7:f7=true:=ah 7 hi (by kernel_rfl);obtain⟨u4,u5,rfl⟩:=h7.out d7;refine ai rfl fun K HK=>?_;go_simp;exact HK.out _ _ fun _ k=>k e12 hB h0 h1 h2 h3 h4 h5 h6 h7 (fun _=>⟨d7,rfl⟩) h9 h10 h11
  ·have d8:f8=true:=ah 8 hi (by kernel_rfl);obtain⟨_,rfl⟩:=h8.out d8;have d7:f7=true:=(h8.out d8).1;refine ai rfl fun K HK=>?_;go_simp;exact HK.out _ _ fun _ k=>k e12 hB h0 h1 h2 h3 h4 h5 h6 h7 h8 (fun _=>⟨d7,rfl⟩) h10 h11
  ·have d8:f8=true:=ah 8 hi (by kernel_rfl);obtain⟨_,rfl⟩:=h8.out d8;have d7:f7=true:=(h8.out d8).1;refine ai rfl fun K HK=>?_;go_simp;exact HK.out _ _ fun _ k=>k e12 hB h0 h1 h2 h3 h4 h5 h6 h7 h8 h9 (fun _=>⟨d7,rfl⟩) h11
  ·have d9:f9=true:=ah 9 hi (by kernel_rfl);obtain⟨_,rfl⟩:=h9.out d9;have d7:f7=true:=(h9.out d9).1;refine ai rfl fun K HK=>?_;go_simp;exact HK.out _ _ fun _ k=>k e12 hB h0 h1 h2 h3 h4 h5 h6 h7 h8 h9 h10 (fun _=>⟨d7,rfl⟩)
 ·intro w' f0 f1 f2 f3 f4 f5 f6 f7 f8 f9 f10 f11 f12 x7 x8 zS uL x20 kn mg lz x24 x25 tI x27 x28 e12 hB h0 h1 h2 h3 h4 h5 h6 h7 h8 h9 h10 h11 hi;have d10:f10=true:=ah 10 hi (by kernel_rfl);obtain⟨_,rfl⟩:=h10.out d10;have d11:f11=true:=ah 11 hi (by kernel_rfl);obtain⟨_,rfl⟩:=h11.out d11;clear hi;have u7:=(h10.out d10).1;refine ai rfl fun K HK=>?_;go_simp;refine HK.out _ _ ?_;obtain⟨P',d',m1,m2,s9⟩:=hB.2 u7;have S9:Hid (Sep B w0 w' (TL C x d' P' (U s'::aF q4 (.cells #[.string fr,.string tt] 99)::l))):=s9;have HMM:Hid ((∀y∈P,y∈P')∧bH d d'):=⟨m1,m2⟩;clear s9 m1 m2 h0 h1 h2 h3 h4 h5 h6 h7 h8 h9 h10 h11 hB;go_wp2;go_ret;exact⟨rfl,P',d',HMM.out.1,HMM.out.2,Sep.drop (Sep.pk [_,_,_,_,_] (S9.out))⟩
 ·intro _ _;intros;assumption
theorem kX:∀args w,(callFunc 50 args).run Tryz.prog w=.ok (.enter 50 args) w:=fun _ _=>rfl
def GSc (B:Nat)(w0:World)(C:Cx)(x:TX)(d:Dk)(P:List NV)(l:List aM)(o:List En)(er:Int)(e:Ending)(w':World):Prop:=
 ∃v,e=.returned (.tuple #[v,.int .i64 er])∧(er=0->∃ao c,v=.slice ao o.length c)∧(er≠0->v=.slice none 0 0∧o=[])∧∃P' d',(∀y∈P,y∈P')∧bH d d'∧Sep B w0 w' (TL C x d' P' (wo v o::l))
theorem UD {f:Nat}{s' o:List En}{fr tt:ByteArray}{b:Bool}{er:Int}(T:bW B w0)(hr:d.room<=16384)(ok:x.Ok d.room)(hz:x.Sz)(h0:C.err=0)(hw:Wf C.root)(hd:bH d d1)
  (he:gu x d UB f [] C.root 0 fr tt=some (s',(b,er)))(hN:s'.length<=900000)(ho1:er=0->o=s')(ho2:er≠0->o=[])(h:Sep B w0 w (TL C x d1 P l)):
  Calls Tryz.prog 20 #[ptr C.tq,.string fr,.string tt] w (GSc B w0 C x d P l o er):=by
 have S1:Hid (Sep B w0 (w.alloc (.cells #[.slice none 0 0] 49)) (TL C x d1 P (Vj w.heap.size []::l))):=Sep.pb [_,_,_,_] (Sep.Lu (v:=.slice none 0 0) (Sep.pk [_] (Sep.QT (h.aO (.cells #[.slice none 0 0] 49)))));have KG:Hid _:=rz (w.alloc (.cells #[.slice none 0 0] 49)) C.tq;have KE:Hid _:=UC T hr ok hz kX (Lv (B:=B) (w0:=w0) (C:=C) (x:=x) (pl:=w.heap.size)) (fun s e=>by unfold UB;simp) h0 hw hd he hN S1.out;have HOO:Hid ((er=0->o=s')∧(er≠0->o=[])):=⟨ho1,ho2⟩;clear h h0 hw hd he hN T hr ok hz ho1 ho2;go_enter Tryz.func20,Tryz.ntmps20
 go_wp2_with fail
 refine Calls.mono KG.out ?_;rintro e w1 ⟨rfl,rfl⟩;clear KG
 go_wp2_with fail
 clear S1;generalize w.alloc (.cells #[.slice none 0 0] 49)=w1 at*;generalize w.heap.size=pl at*;refine Calls.mono KE.out ?_;rintro e w2 ⟨rfl,P',d',m1,m2,s2⟩;obtain⟨ao,c,ho⟩:=Sep.Lt (Sep.pk [_,_,_,_] (s2));have HO:Hid _:=ho;have HM:Hid ((∀y∈P,y∈P')∧bH d d'):=⟨m1,m2⟩;obtain⟨ps,p0,_⟩:=Sep.c1 ho;clear KE s2 m1 m2 ho;by_cases he0:er=0
 ·subst he0;obtain rfl:=HOO.out.1 rfl;go_wp2;go_ret2;exact⟨_,rfl,fun _=>⟨ao,c,rfl⟩,fun h=>absurd rfl h,P',d',HM.out.1,HM.out.2,Sep.pb [_,_,_,_] (Sep.drop HO.out)⟩
 ·obtain rfl:=HOO.out.2 he0;have hne:(er != 0)=true:=bne_iff_ne.2 he0;go_wp2;go_ret2;exact⟨_,rfl,fun h=>absurd h he0,fun _=>⟨rfl,rfl⟩,P',d',HM.out.1,HM.out.2,Sep.pb [_,_,_,_] (Sep.QT (Sep.drop (Sep.drop HO.out)))⟩
end
end
end Go.Proofs.YtcenfooehjcddaaGreatDoor
namespace Go.Proofs.YtcenfooehjcddaaGreatDoor
namespace P
open N
section
variable {σ:Type}{st:σ->En->σ×Bool}{fr tt:ByteArray}{h:Nat}
theorem Lz:∀(l m:List En) (s:σ),nS st (l++m) s=if(nS st l s).2=false then nS st l s else nS st m (nS st l s).1
 |[],m,s=>rfl
 |e::l,m,s=>by
  rw[List.cons_append,nS,nS];by_cases hb:(st s e).2=false
  ·rw[if_pos hb,if_pos hb];simp
  ·rw[if_neg hb,if_neg hb];exact Lz l m _
theorem ET (l m:List En):gj fr tt (l++m)=gj fr tt l++gj fr tt m:=List.filter_append ..
theorem EU {l:List En}(h:∀e∈l,bB e.1 fr=true∨bG tt e.1=false):gj fr tt l=[]:=by
 unfold gj;rw[List.filter_eq_nil_iff];intro e he hc;simp only[Bool.and_eq_true,Bool.not_eq_true']at hc;rcases h e he with h1|h1
 ·rw[hc.1]at h1;cases h1
 ·rw[hc.2]at h1;cases h1
theorem LA {fr' QV:ByteArray}{l:List En}(h:∀e∈l,bB e.1 fr'=bB e.1 fr∧bG QV e.1=bG tt e.1):gj fr' QV l=gj fr tt l:=by
 unfold gj;refine List.filter_congr fun e he=>?_;rw[(h e he).1,(h e he).2]
theorem rB {k:ByteArray}:bG tt k=true↔tt=⟨#[]⟩∨bB k tt=true:=by simp[bG]
theorem CU {k:ByteArray}:bG tt k=false↔tt≠⟨#[]⟩∧bB k tt=false:=by simp[bG]
theorem UE {k k':ByteArray}(h:bG tt k'=true)(hk:bB k k'=true):bG tt k=true:=by
 rcases rB.1 h with h|h
 ·exact rB.2 (.inl h)
 ·exact rB.2 (.inr (cU hk h))
theorem LB {k k':ByteArray}(h:bG tt k=false)(hk:bB k' k=false):bG tt k'=false:=by
 obtain⟨h1,h2⟩:=CU.1 h;refine CU.2 ⟨h1,?_⟩;cases hc:bB k' tt with
 |false=>rfl
 |true=>
  have:=gX h2 hc;rw[hk]at this;cases this
theorem QW:∀(l:List En) (s:σ),l.Pairwise (fun x y=>bB x.1 y.1=true)->
  (xV st tt l s).1=(nS st (l.filter fun e=>bG tt e.1) s).1∧((xV st tt l s).2=none->(nS st (l.filter fun e=>bG tt e.1) s).2=true)∧∀b,(xV st tt l s).2=some b->(nS st (l.filter fun e=>bG tt e.1) s).2=b
 |[],s,_=>⟨rfl,fun _=>rfl,fun b hb=>by cases hb⟩
 |e::l,s,hp=>by
  obtain⟨p1,p2⟩:=List.pairwise_cons.1 hp;rw[xV];by_cases hh:bG tt e.1=false
  ·rw[if_pos hh];have:(e::l).filter (fun e=>bG tt e.1)=[]:=by
    rw[List.filter_eq_nil_iff];intro x hx hc;rcases List.mem_cons.1 hx with rfl|hx
    ·rw[hh]at hc;cases hc
    ·rw[LB hh (kO (p1 x hx))]at hc;cases hc
   rw[this];exact⟨rfl,fun hc=>by simp at hc,fun b hb=>by cases hb;rfl⟩
  ·rw[if_neg hh];have ht:bG tt e.1=true:=by simpa using hh
   have:(e::l).filter (fun e=>bG tt e.1)=e::l.filter (fun e=>bG tt e.1):=by rw[List.filter_cons_of_pos (by simpa using ht)]
   rw[this,nS];by_cases hb:(st s e).2=false
   ·rw[if_pos hb,if_pos hb];exact⟨rfl,fun hc=>by simp at hc,fun b hb'=>by simp at hb';rw[<-hb']⟩
   ·rw[if_neg hb,if_neg hb];exact QW l _ p2
theorem AK {l:List En}(hp:l.Pairwise (fun x y=>bB x.1 y.1=true)):l.drop (jn l fr)=l.filter fun e=>!bB e.1 fr:=by
 induction l with
 |nil=>rfl
 |cons e l ih=>
  obtain⟨p1,p2⟩:=List.pairwise_cons.1 hp;have ih:=ih p2;unfold jn at ih⊢;by_cases he:bB e.1 fr=true
  ·rw[List.countP_cons_of_pos (by simpa using he),List.drop_succ_cons,ih,List.filter_cons_of_neg (by simp[he])]
  ·have hall:∀x∈e::l,bB x.1 fr=false:=fun x hx=>by
    rcases List.mem_cons.1 hx with rfl|hx
    ·simpa using he
    ·cases hc:bB x.1 fr with
     |false=>rfl
     |true=>exact absurd (cU (p1 x hx) hc) he
   rw[List.countP_eq_zero.2 (fun x hx=>by simp[hall x hx]),List.drop_zero];exact(List.filter_eq_self.2 fun x hx=>by simp[hall x hx]).symm
theorem UF (l:List En):gj fr tt l=(l.filter fun e=>!bB e.1 fr).filter fun e=>bG tt e.1:=by
 unfold gj;rw[List.filter_filter];exact List.filter_congr fun e _=>Bool.and_comm _ _
theorem LC {A B:List (KT h)}{u:KT h}{sA sB:List ByteArray}{s:ByteArray}(hA:A.length=sA.length)(ho:bS (dE (A++u::B) (sA++sB)))(hs:s∈sA){x:En}(hx:x∈bO (u::B)):bB x.1 s=false:=by
 have e1:dE (A++u::B) (sA++sB)=dE A sA++dE (u::B) sB:=by
  unfold dE;rw[List.map_append,nX _ _ (by simpa using hA)]
 rw[e1]at ho;have h1:(true,s)∈dE A sA:=by
  have:=(jh (A.map fun u=>cC h u.2) sA (by simp;omega)).subset (List.mem_map_of_mem (f:=fun s=>((true,s):It)) hs);exact this
 have h2:(false,x.1)∈dE (u::B) sB:=ub hx _ (fun _ h=>h) sB;have:=(List.pairwise_append.1 ho.up).2.2 _ h1 _ h2;simpa[RI]using this
theorem UG {A B:List (KT h)}{u:KT h}{sA sB:List ByteArray}{s:ByteArray}(hA:A.length=sA.length)(ho:bS (dE (A++u::B) (sA++s::sB)))(hB:B≠[]){x:En}(hx:x∈dW h u.2):bB x.1 s=true:=by
 rw[fG hA]at ho;obtain⟨v,B,rfl⟩:∃v B',B=v::B':=by
  cases B with
  |nil=>exact absurd rfl hB
  |cons v B=>exact⟨v,B,rfl⟩
 rw[List.map_cons,kH]at ho;have h1:=(List.pairwise_append.1 (List.pairwise_append.1 ho.up).2.1).2.2 _ (jl h u.2 x hx) (true,s) (by simp);simpa[RI]using h1
theorem ahead:∀(A:List (KT h)) (sA:List ByteArray),A.length=sA.length->bS (dE A sA)->∀x∈bO A,∃s∈sA,bB x.1 s=true
 |[],_,_,_,x,hx=>by cases hx
 |u::A,[],hl,_,_,_=>by simp at hl
 |u::A,s::sA,hl,ho,x,hx=>by
  have e1:dE (u::A) (s::sA)=cC h u.2++(true,s)::dE A sA:=rfl;rw[e1]at ho;rw[cG]at hx;rcases List.mem_append.1 hx with hx|hx
  ·have h1:=(List.pairwise_append.1 ho.up).2.2 _ (jl h u.2 x hx) (true,s) (by simp);exact⟨s,by simp,by simpa[RI]using h1⟩
  ·obtain⟨s1,h1,h2⟩:=ahead A sA (by simpa using hl) (ho.sub (List.Sublist.trans (List.sublist_cons_self _ _) (List.sublist_append_right _ _))) x hx;exact⟨s1,by simp[h1],h2⟩
theorem AL (sA:List ByteArray)(s:ByteArray)(sB:List ByteArray):(sA++s::sB).getD sA.length ⟨#[]⟩=s:=by simp[List.getD_eq_getElem?_getD]
theorem GU {A B:List (KT h)}{u:KT h}:((A++u::B).map Prod.fst).getD A.length (0:Int)=u.1:=by simp[List.getD_eq_getElem?_getD]
theorem EW {rec:σ->Int->ByteArray->ByteArray->Option (σ×(Bool×Int))}:∀(B A:List (KT h)) (sA sB:List ByteArray) (s:σ),A.length=sA.length->sB.length+1=B.length->bS (dE (A++B) (sA++sB))->(∀s∈sB,bB fr s=true)->
  (∀u∈B,∀s fr' QV,rec s u.1 fr' QV=some ((nS st (gj fr' QV (dW h u.2)) s).1,((nS st (gj fr' QV (dW h u.2)) s).2,0)))->
  jf rec (aY (h+1) (bN (A++B) (sA++sB))) fr tt B.length A.length s=some ((nS st (gj fr tt (bO B)) s).1,((nS st (gj fr tt (bO B)) s).2,0))
 |[],_,_,_,_,_,hl,_,_,_=>by simp at hl
 |u::B,A,sA,sB,s,hA,hl,ho,hfr,hrec=>by
  have hlB:sB.length=B.length:=by simpa using hl
  rw[List.length_cons,jf,bZ];simp only;rw[if_neg (by simp;omega),GU];have Xt:∀x∈bO (u::B),bB x.1 (kB (sA++sB) A.length fr)=bB x.1 fr:=fun x hx=>by
   unfold kB;split
   ·rename_i hc
    have hm:(sA++sB).getD (A.length-1) ⟨#[]⟩∈sA:=by
     rw[hA,List.getD_eq_getElem?_getD,List.getElem?_append_left (by omega),List.getElem?_eq_getElem (by omega)];exact List.getElem_mem _
    rw[LC hA ho hm hx];cases hx2:bB x.1 fr with
    |false=>rfl
    |true=>have:=cU hx2 hc.2;rw[LC hA ho hm hx]at this;cases this
   ·rfl
  have key:(bG (iu (sA++sB) A.length tt) (kB (sA++sB) A.length fr)=false->gj fr tt (bO (u::B))=[])∧∀x∈dW h u.2,bG (iu (sA++sB) A.length tt) x.1=bG tt x.1:=by
   have plain:iu (sA++sB) A.length tt=tt->(bG (iu (sA++sB) A.length tt) (kB (sA++sB) A.length fr)=false->gj fr tt (bO (u::B))=[])∧∀x∈dW h u.2,bG (iu (sA++sB) A.length tt) x.1=bG tt x.1:=fun e=>by
    rw[e];refine⟨fun hc=>EU fun x hx=>?_,fun _ _=>rfl⟩;cases h1:bB x.1 fr with
    |true=>exact .inl rfl
    |false=>exact .inr (LB hc (by rw[Xt x hx,h1]))
   cases sB with
   |nil=>
    apply plain;unfold iu;rw[if_neg (by simp;omega)]
   |cons s1 sB=>
    by_cases hs:bG tt s1=true
    ·have e:iu (sA++s1::sB) A.length tt=s1:=by
      unfold iu;rw[hA,AL,if_pos ⟨by simp,hs⟩]
     have aal:B≠[]:=by intro e;rw[e]at hlB;simp at hlB
     rw[e];refine⟨fun hc=>?_,fun x hx=>?_⟩
     ·exfalso;have h1:bB (kB (sA++s1::sB) A.length fr) s1=true:=by
       unfold kB;split
       ·rename_i hc2
        have hp:=lq (h:=h) (K:=A++u::B) (ss:=sA++s1::sB) (by simp at hl⊢;omega) ho;have h2:sA.length-1<sA.length:=by omega
        rw[hA,List.getD_eq_getElem?_getD,List.getElem?_append_left (by omega),List.getElem?_eq_getElem h2];exact(List.pairwise_append.1 hp).2.2 _ (List.getElem_mem h2) s1 (by simp)
       ·exact hfr s1 (by simp)
      rw[CU]at hc;rw[h1]at hc;cases hc.2
     ·have h1:=UG hA ho aal hx;rw[UE hs h1];exact rB.2 (.inr h1)
    ·apply plain;unfold iu;rw[hA,AL,if_neg (fun hc=>hs hc.2)]
  by_cases hh:bG (iu (sA++sB) A.length tt) (kB (sA++sB) A.length fr)=false
  ·rw[if_pos hh,key.1 hh];rfl
  ·rw[if_neg hh,hrec u (by simp)];have e1:gj (kB (sA++sB) A.length fr) (iu (sA++sB) A.length tt) (dW h u.2)=gj fr tt (dW h u.2):=LA fun x hx=>⟨Xt x (by rw[cG];exact List.mem_append_left _ hx),key.2 x hx⟩;rw[e1,cG,ET,Lz];simp only;cases hb:(nS st (gj fr tt (dW h u.2)) s).2 with
   |false=>
    rw[if_pos (.inr rfl),if_pos rfl,hb]
   |true=>
    rw[if_neg (by simp),if_neg (by simp)];cases sB with
    |nil=>
     have:B=[]:=List.length_eq_zero_iff.1 (by simpa using hlB.symm);subst this;rw[show([]:List (KT h)).length=0 from rfl,jf];rfl
    |cons s1 sB=>
     have:=EW B (A++[u]) (sA++[s1]) sB (nS st (gj fr tt (dW h u.2)) s).1 (by simp;omega) (by simpa using hlB) (by simpa using ho) (fun s hs=>hfr s (by simp[hs])) (fun v hv=>hrec v (by simp[hv]));rw[bZ]at this;simpa using this
variable {room:Nat}{d:Dk}{S:Dr}{x:TX}
theorem wy {id depth:Int}{f:Nat}{s:σ}{l:List En}(hrd:dX x d id depth=(⟨true,l,[],[]⟩,0))(hsm:cB ⟨true,l,[],[]⟩=true)(hrt:dF ⟨true,l,[],[]⟩=true)(hdp:depth<=1000)(hp:l.Pairwise (fun x y=>bB x.1 y.1=true)):
  gu x d st (f+1) s id depth fr tt=some ((nS st (gj fr tt l) s).1,((nS st (gj fr tt l) s).2,0)):=by
 rw[gu,hrd,if_neg (by simp),if_neg (by rw[hsm,hrt];simp;omega)];obtain⟨a1,a2,a3⟩:=QW (st:=st) (tt:=tt) (l.filter fun e=>!bB e.1 fr) s (hp.sublist (List.filter_sublist ..));simp only;rw[UF,AK hp];cases hc:(xV st tt (l.filter fun e=>!bB e.1 fr) s).2 with
 |none=>
  have:=a2 hc;simp only;rw[<-a1];simp only[List.length_nil,Nat.zero_sub];rw[jf,this]
 |some b=>
  simp only;rw[a3 b hc,<-a1]
theorem EX (hr:room<=16384):∀(h:Nat) (u:KT h) (depth:Int) (f:Nat) (fr tt:ByteArray) (s:σ),Gb room d (gi x) h u.2->(gi x).vw d u.1=(aY h u.2,0)->depth+h<24->h<f->
  gu x d st f s u.1 depth fr tt=some ((nS st (gj fr tt (dW h u.2)) s).1,((nS st (gj fr tt (dW h u.2)) s).2,0))
 |h,_,_,0,_,_,_,_,_,_,hf=>absurd hf (by omega)
 |0,u,depth,f+1,fr,tt,s,G,rd,hd,hf=>by
  have hrd:dX x d u.1 depth=(aY 0 u.2,0):=by
   have h1:=(gi x).jL d u.1 depth (by omega);rw[rd]at h1;rw[<-h1];unfold Dr.read;rw[if_neg (by simp[gi])];rfl
  exact wy (l:=u.2) hrd (G.sm hr) (K7 hr G.sd _ G.wl G.us G.od G.vl) (by omega) (bS.leaf G.od G.vl:Rg (show List En from u.2)).1
 |h+1,u,depth,f+1,fr,tt,s,G,rd,hd,hf=>by
  obtain⟨p,b⟩:=u;obtain⟨K,ss,rfl⟩:=gV b;have hrd:dX x d p depth=(aY (h+1) (bN K ss),0):=by
   have h1:=(gi x).jL d p depth (by omega);rw[rd]at h1;rw[<-h1];unfold Dr.read;rw[if_neg (by simp[gi])];rfl
  have R0:=G.rw;have hl:ss.length+1=K.length:=G.wl.1;obtain⟨sA,sB,rfl,hch,k1,k2⟩:=yh (key:=fr) (lq (by omega) R0.od);obtain⟨A,B,rfl,hA⟩:∃A B,K=A++B∧A.length=sA.length:=⟨K.take sA.length,K.drop sA.length,(List.take_append_drop _ _).symm,by rw[List.length_take];simp at hl;omega⟩;have hB:sB.length+1=B.length:=by simp at hl;omega
  rw[gu,hrd,if_neg (by simp),if_neg (by rw[G.sm hr,K7 hr G.sd _ G.wl G.us G.od G.vl];simp;omega)];have e1:(aY (h+1) (bN (A++B) (sA++sB))).es=[]:=rfl;have e2:(aY (h+1) (bN (A++B) (sA++sB))).ks.length=A.length+B.length:=by rw[bZ];simp
  have e3:(aY (h+1) (bN (A++B) (sA++sB))).ss=sA++sB:=rfl;simp only[e1,e2,e3,hch,List.drop_nil,xV];rw[<-hA,Nat.add_sub_cancel_left];have:=EW (st:=st) (fr:=fr) (tt:=tt) (rec:=fun s id fr tt=>gu x d st f s id (depth+1) fr tt) B A sA sB s hA hB R0.od k2 fun v hv s' fr' QV=>by
   obtain⟨B1,B2,rfl⟩:=List.append_of_mem hv;have hwz:=R0.wl v (by simp);have hsub:(bj h v.2).Sublist (aX (A++(B1++v::B2))):=by
    rw[bD,bD,cd,cO];exact List.Sublist.trans (List.sublist_cons_self _ _) (List.Sublist.trans (List.sublist_append_left _ _) (List.Sublist.trans (List.sublist_append_right _ _) (List.sublist_append_right _ _)))
   have odv:bS (cC h v.2):=by
    have:(cC h v.2).Sublist (dE (A++(B1++v::B2)) (sA++sB)):=by
     exact List.Sublist.trans (List.sublist_flatten_of_mem (List.mem_map_of_mem (f:=fun u:KT h=>cC h u.2) (by simp))) (yj _ _)
    exact R0.od.sub this
   have Gw:Gb room d (gi x) h v.2:=⟨G.sd,hwz.1,hwz.2,fun p hp=>R0.us p (hsub.subset hp),R0.nd.sublist hsub,fun y hy=>R0.is y (by rw[dP,dP,eR];simp[rj,hy]),odv,fun y hy=>R0.vl y (by rw[cL,cL,cG];simp[hy])⟩;exact EX hr h v (depth+1) f fr' QV s' Gw (R0.is (v.1,aY h v.2) (by rw[dP,dP,eR];simp[rj])) (by omega) (by omega)
  rw[this,pR,cL,ET];have eA:gj fr tt (bO A)=[]:=by
   refine EU fun y hy=>.inl ?_;have hoA:bS (dE A sA):=by
    have:=R0.od;unfold dE at this⊢;rw[List.map_append,nX _ _ (by simpa using hA)]at this;exact this.sub (List.sublist_append_left _ _)
   obtain⟨s1,h1,h2⟩:=ahead A sA hA hoA y hy;exact gX (k1 s1 h1) h2
  rw[eA,List.nil_append]
end
end P
namespace P
open N
section
variable {room:Nat}{d:Dk}{x:TX}
end
end P
namespace P
open N
section
variable {room:Nat}{d:Dk}{S:Dr}
end
end P
namespace P
open N
section
variable {x:TX}{d:Dk}{key:ByteArray}
variable {σ:Type}{st:σ->En->σ×Bool}{fr tt:ByteArray}
end
end P
namespace P
open N
section
variable {room:Nat}{d:Dk}{S:Dr}{x:TX}{root:Int}{E:List En}{X:List Int}{H:Nat}
theorem TS.low (T:TS room d S root E X H)(hE:E.length<=200):H<=7:=by
 rcases T.cnt.2 with h|h
 ·omega
 ·rcases Nat.lt_or_ge 7 H with h7|h7
  ·have:2^8<=2^H:=Nat.pow_le_pow_right (by omega) h7;omega
  ·exact h7
def Cap (room:Nat)(d:Dk)(E:List En):Prop:=∀(S:Dr) (root:Int) (X:List Int) (H:Nat),TS room d S root E X H->(X.length:Int)+4*H+4< (room:Int)-2
theorem PV (hE:E.length<=200)(hr:400<=room):Cap room d E:=fun S root X H T=>by
 have h1:=T.cnt.1;have h2:=T.low hE;omega
theorem PW {σ:Type}{st:σ->En->σ×Bool}{fr tt:ByteArray}{s:σ}(hr:room<=16384)(T:TS room d (gi x) root E X H)(hH:H+1<24):∃b,gu x d st 25 s root 0 fr tt=some ((nS st (gj fr tt E) s).1,(b,0)):=by
 rcases T with⟨rfl,rfl,rfl,sd,rfl⟩| ⟨h,u,rfl,G,tb,rfl,rfl,rfl⟩
 ·have hrd:dX x d 0 0=(⟨true,[],[],[]⟩,0):=by unfold dX;rw[if_pos rfl];rfl
  exact⟨_,wy (l:=[]) hrd (by decide) (by decide) (by omega) List.Pairwise.nil⟩
 ·exact⟨_,EX hr h u 0 25 fr tt s G.g G.rd (by omega) (by omega)⟩
theorem QX:∀(l s:List En),nS (fun(s:List En) y=>(s++[y],true)) l s=(s++l,true)
 |[],s=>by simp[nS]
 |y::l,s=>by
  rw[nS,if_neg (by simp)];show nS _ l (s++[y])=_;rw[QX l (s++[y])];simp
end
end P
end Go.Proofs.YtcenfooehjcddaaGreatDoor
namespace Go.Proofs.YtcenfooehjcddaaGreatDoor
open Go.Shelf Go.RowKit Go.Lib Go.Sort
namespace P
open N (Nd nd0 cF dF dZ cY bV jo gG Sm dD En Bn zj lI qF iF cJ im jD iv lT gN iC Rg bB aV gO lG)
def aI (B:Nat)(w0:World)(d:Dk)(C:Cx)(E:List En)(k:Nat)(l:List aM)(w:World):Prop:=
 ∃r x d1 P X H,Sep B w0 w (TL (C.eV r) x d1 P l)∧bH d d1∧Tx d.room d x r E X H∧Mn d.room x X∧x.cnt<=1000*k
section
variable {B:Nat}{w0 w w':World}{C:Cx}{d:Dk}{l:List aM}{key val fr tt:ByteArray}{E:List En}{k:Nat}
theorem aI.of (h:aI B w0 d C E k l w){l':List aM}(f:∀r x d1 P,Sep B w0 w (TL (C.eV r) x d1 P l)->Sep B w0 w' (TL (C.eV r) x d1 P l')):aI B w0 d C E k l' w':=by
 obtain⟨r,x,d1,P,X,H,s,r1⟩:=h;exact⟨r,x,d1,P,X,H,f _ _ _ _ s,r1⟩
theorem aI.rg (h:aI B w0 d C E k l w):Rg E:=by
 obtain⟨r,x,d1,P,X,H,_,_,t,_⟩:=h;exact t.ts.rg
theorem aI.yo {root:Int}{x:TX}{X:List Int}{H:Nat}(T:Tx d.room d x root E X H)(hE:E.length<=1000):H<=9∧X.length<=1800:=by
 have h1:=T.ts.cnt.1;rcases T.ts.cnt.2 with h|h
 ·omega
 ·rcases Nat.lt_or_ge 9 H with h7|h7
  ·have:2^10<=2^H:=Nat.pow_le_pow_right (by omega) h7;omega
  ·omega
theorem LD {X:List Int}{H:Nat}{x:TX}{r er:Int}{P:List NV}{d1:Dk}{E':List En}(cap:Cap d.room d E)(hd:bH d d1)(T:Tx d.room d x r E X H)(M:Mn d.room x X)(hE:E.length<=200)(hE':E'.length<=201)(hk:x.cnt<=1000*k)(g:GX B w0 (C.eV r) x d P l X H E' er w):er=0∧aI B w0 d C E' (k+1) l w:=by
 obtain⟨P',d',m1,m2,m3⟩:=g;rcases m3 with⟨_,hc,_⟩| ⟨he,x',r',X',H',T',M',hcnt,s⟩
 ·have h1:=hc M;have h2:=M.cap;have h3:=cap _ _ _ _ T.ts;omega
 ·refine⟨he,r',x',d',P',X',H',s,m2,T',M' M,?_⟩;have h1:=T.ts.low hE;have h2:=T.ts.cnt.1;have h4:=T'.ts.cnt.1;have h5:H'<=7:=by
   rcases T'.ts.cnt.2 with h|h
   ·omega
   ·rcases Nat.lt_or_ge 7 H' with h7|h7
    ·have:2^8<=2^H':=Nat.pow_le_pow_right (by omega) h7;omega
    ·exact h7
  omega
theorem E0 (T:bW B w0)(hr:d.room<=16384)(h0:C.err=0)(hm:cJ key val=true)(cap:Cap d.room d E)(hE:E.length<=200)(hk:k<=700)(h:aI B w0 d C E k l w):
  Calls Tryz.prog 18 #[ptr C.tq,.string key,.string val] w fun e w'=>e=.returned (.int .i64 0)∧aI B w0 d C (jD E key val) (k+1) l w':=by
 obtain⟨r,x,d1,P,X,H,s,hd,TT,M,hc⟩:=h;have hh:=aI.yo TT (by omega);refine(Ut (key:=key) (val:=val) T hr hd s h0 hm TT (by omega) (by omega) (by omega)).mono fun e w' ⟨er,he,g⟩=>?_;obtain⟨h1,h2⟩:=LD cap hd TT M hE (by
  have:=EN key val E
  have e1:(QN key val E).length=(jD E key val).length:=by unfold QN;rw[if_pos (by rw[hm,gO TT.ts.rg];rfl)]
  omega) hc g
 rw[h1]at he;exact⟨he,h2⟩
theorem E4 (T:bW B w0)(hr:d.room<=16384)(h0:C.err=0)(cap:Cap d.room d E)(hE:E.length<=200)(hk:k<=700)(h:aI B w0 d C E k l w):
  Calls Tryz.prog 39 #[ptr C.tq,.string key] w fun e w'=>e=.returned (.tuple #[.bool (gN E key),.int .i64 0])∧aI B w0 d C (iv E key) (k+1) l w':=by
 obtain⟨r,x,d1,P,X,H,s,hd,TT,M,hc⟩:=h;have hh:=aI.yo TT (by omega);refine(Uu (key:=key) T hr hd s h0 TT (by omega) (by omega) (by omega)).mono fun e w' ⟨er,he,g⟩=>?_;obtain⟨h1,h2⟩:=LD cap hd TT M hE (by
  have:=List.length_filter_le (fun x:En=>!decide (x.1=key)) E
  show(List.filter _ _).length<=_
  omega) hc g
 rw[h1]at he;exact⟨by rw[he];simp,h2⟩
theorem PY (T:bW B w0)(hr:d.room<=16384)(h0:C.err=0)(hE:E.length<=1000)(h:aI B w0 d C E k l w):
  Calls Tryz.prog 60 #[ptr C.tq,.string key] w fun e w'=>e=.returned (.tuple #[.string (iC E key),.bool (gN E key),.int .i64 0])∧aI B w0 d C E k l w':=by
 obtain⟨r,x,d1,P,X,H,s,hd,TT,M,hc⟩:=h;have hh:=aI.yo TT (by omega);refine(Uy (key:=key) T hr hd s h0 TT (by omega)).mono fun e w' ⟨he,P',d',m1,m2,s'⟩=>⟨he,r,x,d',P',X,H,s',m2,TT,M,hc⟩
theorem LF (T:bW B w0)(hr:d.room<=16384)(h0:C.err=0)(hE:E.length<=1000)(h:aI B w0 d C E k l w):
  Calls Tryz.prog 20 #[ptr C.tq,.string fr,.string tt] w fun e w'=>∃ao c,e=.returned (.tuple #[.slice ao (gj fr tt E).length c,.int .i64 0])∧aI B w0 d C E k (wo (.slice ao (gj fr tt E).length c) (gj fr tt E)::l) w':=by
 obtain⟨r,x,d1,P,X,H,s,hd,TT,M,hc⟩:=h;have hh:=aI.yo TT (by omega);obtain⟨b,hb⟩:=PW (st:=UB) (fr:=fr) (tt:=tt) (s:=[]) hr TT.ts (by omega);have e1:(nS UB (gj fr tt E) []).1=gj fr tt E:=by
  have:=QX (gj fr tt E) [];rw[show nS UB (gj fr tt E) []=_ from this];rfl
 rw[e1]at hb;have hl:(gj fr tt E).length<=900000:=by
  have:=List.length_filter_le (fun e:En=>!bB e.1 fr&&bG tt e.1) E;unfold gj;omega
 refine(UD (C:=C.eV r) T hr TT.ts.sd.x TT.ts.sd.bz h0 (TT.ts.wf hr) hd hb hl (fun _=>rfl) (fun h=>absurd rfl h) s).mono fun e w' ⟨v,he,h2,_,P',d',m1,m2,s'⟩=>?_;obtain⟨ao,c,rfl⟩:=h2 rfl;exact⟨ao,c,he,r,x,d',P',X,H,s',m2,TT,M,hc⟩
end
end P
namespace P
open N (Nd En iF cJ jD iv gN iC Rg bB cY)
section
variable {B:Nat}{w0 w w':World}{C:Cx}{d:Dk}{l:List aM}
theorem ui {n:Int}(h2:2<=n)(h:n<=16384):(Dk.new n).room=n.toNat:=by
 unfold Dk.room Dk.new;simp only[List.length_replicate];omega
theorem LG {tq t f b room:Nat}(hr:d.room=room)(h2:2<=room)(s:Sep B w0 w (TL ⟨0,tq,t,f,b,0,0⟩ (TX.new [] 2 room) d [] l)):aI B w0 d ⟨0,tq,t,f,b,0,0⟩ [] 0 l w:=by
 subst hr;have ok:=TX.Bx [] 2 h2;have hfr:∀p,(TX.new [] 2 d.room).fresh p=none:=fun _=>rfl;refine⟨0,TX.new [] 2 d.room,d,[],[],0,s,bH.refl d,⟨.inl ⟨rfl,rfl,rfl,sd0 ok (fun q c hc=>by rw[hfr q]at hc;cases hc),rfl⟩,fun p hp=>by rw[hfr p]at hp;cases hp⟩,⟨fun _ hp=>(by cases hp),?_⟩,?_⟩
 ·have hp:(TX.new [] 2 d.room).pages=2:=by
   show cR 2 d.room=2;unfold cR;omega
  have hf:(TX.new [] 2 d.room).free=[]:=by
   show uY [] [(2,(cR 2 d.room:Int)-1)]=[];have hc:=oz [] [(2,(cR 2 d.room:Int)-1)];have hi:=oC [] [(2,(cR 2 d.room:Int)-1)];generalize uY [] [(2,(cR 2 d.room:Int)-1)]=m at*;cases m with
   |nil=>rfl
   |cons r s=>
    obtain⟨⟨a1,a2,a3⟩,_⟩:=bE.1 hc;have h1:=((hi r.1).1 ⟨a1,by omega,r,by simp,by omega,a2⟩).1;obtain⟨_,_,q,hq,_⟩:=h1;cases hq
  unfold TX.cap;rw[hp,hf];show(jA []:Int)+_+_=_;rw[qD];simp
 ·exact Nat.zero_le _
end
end P
namespace P
open N (bc hidR ar ai Ch aP ah waits En bB Rg cJ aV jD iv gN iC)
theorem LH (k1 k2:ByteArray)(w:World):(Instr.index 79 (.agg #[.string k1,.string k2]) (.int .i64 0)).run Tryz.prog w=.ok (.string k1) w:=by kernel_rfl
theorem UH (k1 k2:ByteArray)(w:World):(Instr.index 79 (.agg #[.string k1,.string k2]) (.int .i64 1)).run Tryz.prog w=.ok (.string k2) w:=by kernel_rfl
theorem py {u v:Int}(h:dy u v=0):dy (bR u v).1 (bR u v).2=0:=by
 obtain⟨a,b,c⟩:=eN.1 h;unfold bR;rw[if_pos ⟨by rw[a,b];rfl,c⟩];rcases(by omega:u<=v∨v<=u)with e|e
 ·rw[Int.min_eq_left e,Int.max_eq_right e];exact h
 ·rw[Int.min_eq_right e,Int.max_eq_left e];exact l9 h
section
variable {B:Nat}{w0 w w':World}{C:Cx}{d:Dk}{l:List aM}{E:List En}{k q n:Nat}
theorem aI.blk (h:aI B w0 d C E k l w)(o:Obj):aI B w0 d C E k (aF w.heap.size o::l) (w.alloc o):=h.of fun _ _ _ _ s=>Sep.pb [_,_,_,_] (s.aO o)
theorem aI.sep (h:aI B w0 d C E k l w):Sep B w0 w l:=by
 obtain⟨r,x,d1,P,X,H,s,_⟩:=h;exact Sep.drop (Sep.drop (Sep.drop (Sep.drop s)))
theorem aI.below (h:aI B w0 d C E k l w)(hb:Below w.heap.size w w'):aI B w0 d C E k l w':=by
 obtain⟨r,x,d1,P,X,H,s,r1⟩:=h;exact⟨r,x,d1,P,X,H,s.below hb,r1⟩
def cf (q:Nat)(C:Cx):aM:=aF q (.cells #[ptr C.tq] 128)
theorem aI.aj (h:aI B w0 d C E k (cf q C::l) w):w.cell? ⟨q,0,none⟩=some (ptr C.tq)∧q<w.heap.size:=by
 obtain⟨a,b,_⟩:=Sep.c1 h.sep;exact⟨b,a⟩
theorem anew (h:aI B w0 d C E k l w):Calls Tryz.prog 31 #[ptr C.tq] w fun e w'=>∃q,e=.returned (ptr q)∧aI B w0 d C E k (cf q C::l) w':=by
 have S1:Hid (aI B w0 d C E k (cf w.heap.size C::l) (w.alloc (.cells #[ptr C.tq] 128))):=h.blk _;clear h;unfold ptr at*;go_enter Tryz.func31,Tryz.ntmps31;go_wp2;go_ret;exact⟨_,rfl,S1.out⟩
theorem E5 (h:aI B w0 d C E k (cf q C::l) w):Calls Tryz.prog 34 #[ptr q] w fun e w'=>e=.returned (ptr C.tq)∧w=w':=by
 obtain⟨c0,hq⟩:=h.aj;clear h;unfold ptr at*;go_enter Tryz.func34,Tryz.ntmps34;go_wp2;go_ret;exact⟨rfl,rfl⟩
end
def JBo (W:World)(qa qb:Nat)(u v:Int)(k1 k2:ByteArray)(C:List Bool->Act->Prop)(w:World):Prop:=∀{f0 f1 f2 f3 f4 f5 f6 f7 f8 f9 f10 f11:Bool}{x3 x4 x5 x6 x7 x8 x9 oK uo qI uq:Value},f11=false->Below W.heap.size W w->Hid (f0=true->x3=.pointer (some ⟨qa,0,none⟩))->Hid (f1=true->x4=.int .i64 u)->Hid (f2=true->x5=.pointer (some ⟨qa,1,none⟩))->Hid (f3=true->x6=.int .i64 v)->Hid (f4=true->x7=.string k1)->Hid (f5=true->x8=.pointer (some ⟨qa,1,none⟩))->Hid (f6=true->x9=.int .i64 v)->Hid (f7=true->oK=.pointer (some ⟨qa,0,none⟩))->Hid (f8=true->uo=.int .i64 u)->Hid (f9=true->qI=.string k2)->Hid (f10=true->uq=.agg #[.string k1,.string k2])->C [f0,f1,f2,f3,f4,f5,f6,f7,f8,f9,f10,f11] {tmps:=#[.agg #[.int .i64 u,.int .i64 v],.pointer (some ⟨qa,0,none⟩),.pointer (some ⟨qb,0,none⟩),x3,x4,x5,x6,x7,x8,x9,oK,uo,qI,uq],defers:=[]}
theorem LI (u v:Int)(w:World):Calls Tryz.prog 35 #[.agg #[.int .i64 u,.int .i64 v]] w fun e w'=>e=.returned (.agg #[.string (cM u v),.string (cM v u)])∧Below w.heap.size w w':=by
 have K1:Hid (∀w,Calls Tryz.prog 26 #[.int .i64 u,.int .i64 v] w fun e w'=>e=.returned (.string (cM u v))∧Below w.heap.size w w'):=tA u v;have K2:Hid (∀w,Calls Tryz.prog 26 #[.int .i64 v,.int .i64 u] w fun e w'=>e=.returned (.string (cM v u))∧Below w.heap.size w w'):=tA v u;generalize cM u v=k1 at*;generalize cM v u=k2 at*;have HC0:∀W,W=((w.alloc (.cells #[.int .i64 u,.int .i64 v] 35)).alloc (.cells #[.string ⟨#[]⟩,.string ⟨#[]⟩] 79))->(∀w',Below W.heap.size W w'->w'.cell? ⟨w.heap.size,0,none⟩=some (.int .i64 u)∧w'.cell? ⟨w.heap.size,1,none⟩=some (.int .i64 v))∧(∀w',Below W.heap.size W w'->Cl w' (w.heap.size+1) #[.string ⟨#[]⟩,.string ⟨#[]⟩] 79)∧((w.heap.size<=W.heap.size∧w.heap.size<=w.heap.size+1)∧Below w.heap.size w W):=by
  intro W hW;have k1:Cl W w.heap.size #[.int .i64 u,.int .i64 v] 35:=by rw[hW];exact(Cl.new w _ _).alloc _
  have k2:Cl W (w.heap.size+1) #[.string ⟨#[]⟩,.string ⟨#[]⟩] 79:=by
   rw[hW];have:=Cl.new (w.alloc (.cells #[.int .i64 u,.int .i64 v] 35)) #[.string ⟨#[]⟩,.string ⟨#[]⟩] 79
   rwa [show(w.alloc (.cells #[.int .i64 u,.int .i64 v] 35)).heap.size=w.heap.size+1 by simp]at this
  refine⟨fun w' h=>(k1.on h).two,fun w' h=>k2.on h,⟨by rw[hW];simp;omega,by omega⟩,?_⟩;rw[hW];exact((Below.refl _ w).alloc (Nat.le_refl _) _).alloc (by simp) _
 obtain⟨hc,hq,hw⟩:=HC0 _ rfl;have HC:Hid _:=hc;have HQ:Hid _:=hq;have HW:Hid _:=hw;clear HC0 hc hq hw;go_enter Tryz.func35,Tryz.ntmps35
 go_wp2_with fail
 generalize(w.alloc (.cells #[.int .i64 u,.int .i64 v] 35)).alloc (.cells #[.string ⟨#[]⟩,.string ⟨#[]⟩] 79)=W at*;generalize w.heap.size+1=qb at*;refine bc 11 (JBo W w.heap.size qb u v k1 k2) (by kernel_rfl) (by kernel_rfl) (by kernel_rfl) (fun _ k=>k rfl ((Below.refl _ _).drew) ar ar ar ar ar ar ar ar ar ar ar) ?_ ?_ ?_
 ·intro i w' hne f0 f1 f2 f3 f4 f5 f6 f7 f8 f9 f10 f11 x3 x4 x5 x6 x7 x8 x9 oK uo qI uq e11 hB h0 h1 h2 h3 h4 h5 h6 h7 h8 h9 h10 hi;obtain⟨hlt,hun,_⟩:=aP hi;have hlt':i<12:=hlt;clear hlt;rcases(by omega:i=0∨i=1∨i=2∨i=3∨i=4∨i=5∨i=6∨i=7∨i=8∨i=9∨i=10)with rfl|rfl|rfl|rfl|rfl|rfl|rfl|rfl|rfl|rfl|rfl
  ·refine ai rfl fun K HK=>?_;go_simp;exact HK.out _ _ fun _ k=>k e11 hB hidR h1 h2 h3 h4 h5 h6 h7 h8 h9 h10
  ·cases h0 (ah 0 hi (by kernel_rfl));obtain⟨c0,c1⟩:=HC.out _ hB;refine ai rfl fun K HK=>?_;go_simp;exact HK.out _ _ fun _ k=>k e11 hB h0 hidR h2 h3 h4 h5 h6 h7 h8 h9 h10
  ·refine ai rfl fun K HK=>?_;go_simp;exact HK.out _ _ fun _ k=>k e11 hB h0 h1 hidR h3 h4 h5 h6 h7 h8 h9 h10
  ·cases h2 (ah 2 hi (by kernel_rfl));obtain⟨c0,c1⟩:=HC.out _ hB;refine ai rfl fun K HK=>?_;go_simp;exact HK.out _ _ fun _ k=>k e11 hB h0 h1 h2 hidR h4 h5 h6 h7 h8 h9 h10
  ·cases h1 (ah 1 hi (by kernel_rfl));cases h3 (ah 3 hi (by kernel_rfl));refine ai rfl fun K HK=>?_;go_simp;refine Calls.mono (K1.out _) ?_;rintro e u4 ⟨rfl,b4⟩;exact HK.out _ _ fun _ k=>k e11 (hB.trans (b4.mono hB.size)) h0 h1 h2 h3 hidR h5 h6 h7 h8 h9 h10
  ·refine ai rfl fun K HK=>?_;go_simp;exact HK.out _ _ fun _ k=>k e11 hB h0 h1 h2 h3 h4 hidR h6 h7 h8 h9 h10
  ·cases h5 (ah 5 hi (by kernel_rfl));obtain⟨c0,c1⟩:=HC.out _ hB;refine ai rfl fun K HK=>?_;go_simp;exact HK.out _ _ fun _ k=>k e11 hB h0 h1 h2 h3 h4 h5 hidR h7 h8 h9 h10
  ·refine ai rfl fun K HK=>?_;go_simp;exact HK.out _ _ fun _ k=>k e11 hB h0 h1 h2 h3 h4 h5 h6 hidR h8 h9 h10
  ·cases h7 (ah 7 hi (by kernel_rfl));obtain⟨c0,c1⟩:=HC.out _ hB;refine ai rfl fun K HK=>?_;go_simp;exact HK.out _ _ fun _ k=>k e11 hB h0 h1 h2 h3 h4 h5 h6 h7 hidR h9 h10
  ·cases h4 (ah 4 hi (by kernel_rfl));cases h6 (ah 6 hi (by kernel_rfl));cases h8 (ah 8 hi (by kernel_rfl));refine ai rfl fun K HK=>?_;go_simp;refine Calls.mono (K2.out _) ?_;rintro e u4 ⟨rfl,b4⟩;exact HK.out _ _ fun _ k=>k e11 (hB.trans (b4.mono hB.size)) h0 h1 h2 h3 h4 h5 h6 h7 h8 hidR h10
  ·cases h4 (ah 4 hi (by kernel_rfl));cases h9 (ah 9 hi (by kernel_rfl));refine ai rfl fun K HK=>?_;go_simp;exact HK.out _ _ fun _ k=>k e11 hB h0 h1 h2 h3 h4 h5 h6 h7 h8 h9 hidR
 ·intro w' f0 f1 f2 f3 f4 f5 f6 f7 f8 f9 f10 f11 x3 x4 x5 x6 x7 x8 x9 oK uo qI uq e11 hB h0 h1 h2 h3 h4 h5 h6 h7 h8 h9 h10 hi;have d10:f10=true:=ah 10 hi (by kernel_rfl);cases h10 d10;clear hi;have kq:=HQ.out _ hB;have f0:=kq.frozen 0;have f1:=kq.frozen 1;obtain⟨q0,q1⟩:=kq.two;have ks:=kq.set2 (.string k1) (.string k2);have HB2:Hid (Below w.heap.size w ((w'.setCell ⟨qb,0,none⟩ (.string k1)).setCell ⟨qb,1,none⟩ (.string k2))):=by
   have h1:=HW.out.2.trans (hB.mono HW.out.1.1);exact(h1.setCell HW.out.1.2 _).setCell HW.out.1.2 _
  obtain⟨z0,z1⟩:=ks.two;have Z0:Hid _:=z0;have Z1:Hid _:=z1;clear z0 z1 ks kq;refine ai rfl fun K HK=>?_;go_simp;refine HK.out _ _ ?_;clear q0 q1 f0 f1;generalize(w'.setCell ⟨qb,0,none⟩ (.string k1)).setCell ⟨qb,1,none⟩ (.string k2)=w9 at*;have z0:=Z0.out;have z1:=Z1.out;clear hB h0 h1 h2 h3 h4 h5 h6 h7 h8 h9 h10;go_wp2;refine bodyPost_ret (v:=.agg #[.string k1,.string k2]) ?_ rfl ⟨rfl,HB2.out⟩;rw[bC rfl];go_simp
 ·intro _ _;intros;assumption
section
variable {B:Nat}{w0 w w':World}{C:Cx}{d:Dk}{l:List aM}{E:List En}{k q n:Nat}
theorem QY (u v:Int)(T:bW B w0)(hr:d.room<=16384)(h0:C.err=0)(hE:E.length<=1000)(hm:dy u v=0)(h:aI B w0 d C E k (cf q C::l) w):
  Calls Tryz.prog 38 #[ptr q,.agg #[.int .i64 u,.int .i64 v]] w fun e w'=>e=.returned (.tuple #[.bool (iy E u v).1,.bool (iy E u v).2,.int .i64 0])∧aI B w0 d C E k (cf q C::l) w':=by
 have KB:Hid (∀w,Calls Tryz.prog 35 #[.agg #[.int .i64 u,.int .i64 v]] w fun e w'=>e=.returned (.agg #[.string (cM u v),.string (cM v u)])∧Below w.heap.size w w'):=LI u v;have KK:Hid (∀w,aI B w0 d C E k (cf q C::l) w->Calls Tryz.prog 34 #[ptr q] w fun e w'=>e=.returned (ptr C.tq)∧w=w'):=fun w h=>E5 h;have KG:Hid (∀w,aI B w0 d C E k (cf q C::l) w->Calls Tryz.prog 60 #[ptr C.tq,.string (cM u v)] w fun e w'=>e=.returned (.tuple #[.string (iC E (cM u v)),.bool (gN E (cM u v)),.int .i64 0])∧aI B w0 d C E k (cf q C::l) w'):=fun w h=>PY T hr h0 hE h;have KP:Hid (∀w,Calls Tryz.prog 61 #[.agg #[.string (cM u v),.string (iC E (cM u v))]] w fun e w'=>e=.returned (.tuple #[.int .i64 (gp (cM u v,iC E (cM u v))).1.1,.int .i64 (gp (cM u v,iC E (cM u v))).1.2.1,.bool (gp (cM u v,iC E (cM u v))).1.2.2,.bool (gp (cM u v,iC E (cM u v))).2])∧Below w.heap.size w w'):=fun w=>tB (cM u v,iC E (cM u v)) w (by have:=aV.1 (nT hm true);show(cM u v).size<=_;unfold maxLen;omega);have HS:Hid (∀o,aI B w0 d C E k (cf q C::l) (w.alloc o)):=fun o=>h.below ((Below.refl _ _).alloc (Nat.le_refl _) _);have UI:Hid (iy E u v=if gN E (cM u v)=true then((gp (cM u v,iC E (cM u v))).1.2.2,(gp (cM u v,iC E (cM u v))).2)else(false,false)):=rfl;clear h T hr h0 hE hm;generalize gp (cM u v,iC E (cM u v))=pr at*;obtain⟨⟨p1,p2,p3⟩,p4⟩:=pr;simp only at KP UI;generalize iC E (cM u v)=gv at*;generalize iy E u v=ge at*;unfold ptr at*;cases hf:gN E (cM u v)with
 |true=>
  rw[hf]at KG UI;have HG:Hid (ge=(p3,p4)):=by have:=UI.out;rw[if_pos rfl]at this;exact this
  rw[HG.out];clear hf UI;generalize cM u v=k1 at*;generalize cM v u=k2 at*;go_enter Tryz.func38,Tryz.ntmps38
  go_wp2_with fail
  refine Calls.mono (KB.out _) ?_;rintro e w1 ⟨rfl,b1⟩;have S1:Hid (aI B w0 d C E k (cf q C::l) w1):=(HS.out _).below b1;clear KB b1;have hix:=LH k1 k2
  go_wp2_with fail
  clear hix;refine Calls.mono (KK.out _ S1.out) ?_;rintro e w2 ⟨rfl,rfl⟩;have K3:Hid _:=KG.out _ S1.out;clear KK KG S1
  go_wp2_with fail
  refine Calls.mono K3.out ?_;rintro e w3 ⟨rfl,s3⟩;have S3:Hid _:=s3;clear K3 s3
  go_wp2_with fail
  refine Calls.mono (KP.out _) ?_;rintro e w4 ⟨rfl,b4⟩;have S4:Hid (aI B w0 d C E k (cf q C::l) w4):=aI.below S3.out b4;clear KP S3 b4;go_wp2
  go_ret3
  exact⟨rfl,S4.out⟩
 |false=>
  rw[hf]at KG UI;have HG:Hid (ge=(false,false)):=by have:=UI.out;rw[if_neg (by simp)]at this;exact this
  rw[HG.out];clear hf UI KP;generalize cM u v=k1 at*;generalize cM v u=k2 at*;go_enter Tryz.func38,Tryz.ntmps38
  go_wp2_with fail
  refine Calls.mono (KB.out _) ?_;rintro e w1 ⟨rfl,b1⟩;have S1:Hid (aI B w0 d C E k (cf q C::l) w1):=(HS.out _).below b1;clear KB b1;have hix:=LH k1 k2
  go_wp2_with fail
  clear hix;refine Calls.mono (KK.out _ S1.out) ?_;rintro e w2 ⟨rfl,rfl⟩;have K3:Hid _:=KG.out _ S1.out;clear KK KG S1
  go_wp2_with fail
  refine Calls.mono K3.out ?_;rintro e w3 ⟨rfl,s3⟩;have S3:Hid _:=s3;clear K3 s3;go_wp2
  go_ret3
  exact⟨rfl,S3.out⟩
theorem Xu (u v:Int)(T:bW B w0)(hr:d.room<=16384)(h0:C.err=0)(hE:E.length<=1000)(h:aI B w0 d C E k (cf q C::l) w):
  Calls Tryz.prog 25 #[ptr q,.int .i64 u,.int .i64 v] w fun e w'=>e=.returned (.tuple #[.bool (if dy u v=0 then(iy E (bR u v).1 (bR u v).2).1 else false),.bool (if dy u v=0 then(iy E (bR u v).1 (bR u v).2).2 else false),.int .i64 (dy u v)])∧aI B w0 d C E k (cf q C::l) w':=by
 have KM:Hid _:=nw u v w;have HS:Hid (aI B w0 d C E k (cf q C::l) w):=h;by_cases hm:dy u v=0
 ·have hp:=py hm;have KG:Hid (∀w,aI B w0 d C E k (cf q C::l) w->Calls Tryz.prog 38 #[ptr q,.agg #[.int .i64 (bR u v).1,.int .i64 (bR u v).2]] w fun e w'=>e=.returned (.tuple #[.bool (iy E (bR u v).1 (bR u v).2).1,.bool (iy E (bR u v).1 (bR u v).2).2,.int .i64 0])∧aI B w0 d C E k (cf q C::l) w'):=fun w h=>QY _ _ T hr h0 hE hp h;rw[if_pos hm,if_pos hm,hm];rw[hm]at KM;clear h T hr h0 hE hm hp;generalize iy E (bR u v).1 (bR u v).2=ge at*;generalize bR u v=p at*;obtain⟨p1,p2⟩:=p;obtain⟨g1,g2⟩:=ge;simp only at KM KG;unfold ptr at*;go_enter Tryz.func25,Tryz.ntmps25
  go_wp2_with fail
  refine Calls.mono KM.out ?_;rintro e w1 ⟨rfl,b1⟩;have S1:Hid (∀o,aI B w0 d C E k (cf q C::l) (w1.alloc o)):=fun o=>(HS.out.below b1).below ((Below.refl _ _).alloc (Nat.le_refl _) _);clear KM HS b1
  go_wp2_with fail
  refine Calls.mono (KG.out _ (S1.out _)) ?_;rintro e w2 ⟨rfl,s2⟩;have S2:Hid _:=s2;clear KG S1 s2;go_wp2
  go_ret3
  exact⟨rfl,S2.out⟩
 ·have hb:(dy u v != 0)=true:=bne_iff_ne.2 hm;rw[if_neg hm,if_neg hm];clear h T hr h0 hE hm;generalize dy u v=er at*;generalize bR u v=p at*;obtain⟨p1,p2⟩:=p;simp only at KM;unfold ptr at*;go_enter Tryz.func25,Tryz.ntmps25
  go_wp2_with fail
  refine Calls.mono KM.out ?_;rintro e w1 ⟨rfl,b1⟩;have S1:Hid (∀o,aI B w0 d C E k (cf q C::l) (w1.alloc o)):=fun o=>(HS.out.below b1).below ((Below.refl _ _).alloc (Nat.le_refl _) _);clear KM HS b1;go_wp2
  go_ret3
  exact⟨rfl,S1.out _⟩
end
end P
namespace P
open N (En bB Rg cJ aV jD iv gN iC)
section
variable {B:Nat}{w0 w w':World}{C:Cx}{d:Dk}{l:List aM}{E:List En}{k q n:Nat}
theorem rC {E:List En}{key val:ByteArray}:(jD E key val).length<=E.length+1:=by
 unfold jD;rw[yn];have:=List.length_filter_le (fun x:En=>!decide (x.1=key)) E;unfold iv;omega
theorem rD {E:List En}{key:ByteArray}:(iv E key).length<=E.length:=List.length_filter_le (fun x:En=>!decide (x.1=key)) E
theorem PZ {E:List En}{u v:Int}{b:Bool}:(tQ E u v b).length<=E.length+2:=by
 have h1:=rC (E:=jD E (cM u v) (tN b)) (key:=cM v u) (val:=tN b);have h2:=rC (E:=E) (key:=cM u v) (val:=tN b);unfold tQ;omega
theorem P8 {E:List En}{u v:Int}:(Av E u v).length<=E.length:=Nat.le_trans rD rD
theorem Qa (u v:Int)(b:Bool)(T:bW B w0)(hr:d.room<=16384)(h0:C.err=0)(HC:∀E',E'.length<=n->Cap d.room d E')(hE:E.length+2<=n)(hn:n<=200)(hk:k+1<=700)(h:aI B w0 d C E k (cf q C::l) w):
  Calls Tryz.prog 9 #[ptr q,.int .i64 u,.int .i64 v,.bool b] w fun e w'=>e=.returned (.int .i64 (dy u v))∧(dy u v≠0->aI B w0 d C E k (cf q C::l) w')∧(dy u v=0->aI B w0 d C (tQ E (bR u v).1 (bR u v).2 b) (k+2) (cf q C::l) w'):=by
 have KM:Hid _:=nw u v w;have HS:Hid (aI B w0 d C E k (cf q C::l) w):=h;by_cases hm:dy u v=0
 ·have hp:=py hm;have KB:Hid (∀w,Calls Tryz.prog 35 #[.agg #[.int .i64 (bR u v).1,.int .i64 (bR u v).2]] w fun e w'=>e=.returned (.agg #[.string (cM (bR u v).1 (bR u v).2),.string (cM (bR u v).2 (bR u v).1)])∧Below w.heap.size w w'):=LI _ _;have KK:Hid (∀w,aI B w0 d C E k (cf q C::l) w->Calls Tryz.prog 34 #[ptr q] w fun e w'=>e=.returned (ptr C.tq)∧w=w'):=fun w h=>E5 h;have P1:Hid (∀w,aI B w0 d C E k (cf q C::l) w->Calls Tryz.prog 18 #[ptr C.tq,.string (cM (bR u v).1 (bR u v).2),.string (tN b)] w fun e w'=>e=.returned (.int .i64 0)∧aI B w0 d C (jD E (cM (bR u v).1 (bR u v).2) (tN b)) (k+1) (cf q C::l) w'):=fun w h=>E0 T hr h0 (nT hp b) (HC _ (by omega)) (by omega) (by omega) h;have P2:Hid (∀w,aI B w0 d C (jD E (cM (bR u v).1 (bR u v).2) (tN b)) (k+1) (cf q C::l) w->Calls Tryz.prog 18 #[ptr C.tq,.string (cM (bR u v).2 (bR u v).1),.string (tN b)] w fun e w'=>e=.returned (.int .i64 0)∧aI B w0 d C (tQ E (bR u v).1 (bR u v).2 b) (k+2) (cf q C::l) w'):=fun w h=>E0 T hr h0 (nT (l9 hp) b) (HC _ (by have:=rC (E:=E) (key:=cM (bR u v).1 (bR u v).2) (val:=tN b);omega)) (by have:=rC (E:=E) (key:=cM (bR u v).1 (bR u v).2) (val:=tN b);omega) (by omega) h;rw[hm];rw[hm]at KM;clear h T hr h0 hE hp hn hk HC;generalize tQ E (bR u v).1 (bR u v).2 b=E2 at*;generalize jD E (cM (bR u v).1 (bR u v).2) (tN b)=E1 at*;generalize cM (bR u v).1 (bR u v).2=k1 at*;generalize cM (bR u v).2 (bR u v).1=k2 at*;generalize bR u v=p at*;obtain⟨p1,p2⟩:=p;simp only at KM KB;unfold ptr at*;have HTT:Hid (tN true=⟨#[116]⟩∧tN false=⟨#[110]⟩):=⟨rfl,rfl⟩;cases b
  all_goals
   go_enter Tryz.func9,Tryz.ntmps9
   go_wp2_with fail
   refine Calls.mono KM.out ?_;rintro e w1 ⟨rfl,b1⟩;have S1:Hid (∀o,aI B w0 d C E k (cf q C::l) (w1.alloc o)):=fun o=>(HS.out.below b1).below ((Below.refl _ _).alloc (Nat.le_refl _) _);obtain⟨z0,z1⟩:=(Cl.new w1 #[.int .i64 p1,.int .i64 p2] 35).two;clear KM HS b1
   go_wp2_with fail
  ·rw[HTT.out.2]at P1 P2;generalize(⟨#[110]⟩:ByteArray)=xv at*;refine Calls.mono (KK.out _ (S1.out _)) ?_;rintro e w2 ⟨rfl,rfl⟩;clear KK
   go_wp2_with fail
   refine Calls.mono (KB.out _) ?_;rintro e w3 ⟨rfl,b3⟩;have S3:Hid (aI B w0 d C E k (cf q C::l) w3):=(S1.out _).below b3;clear KB b3 z0 z1 S1;have hi0:=LH k1 k2;have hi1:=UH k1 k2;go_wp2
   go_loopg [30] 2 (fun kx GV wr=>(GV=.int .i64 0∧2<=kx∧Hid (aI B w0 d C E k (cf q C::l) wr))∨(GV=.int .i64 1∧1<=kx∧Hid (aI B w0 d C E1 (k+1) (cf q C::l) wr))∨(GV=.int .i64 2∧Hid (aI B w0 d C E2 (k+2) (cf q C::l) wr)))
   case atStart=>exact .inl ⟨rfl,Nat.le_refl _,S3.out⟩
   case round=>
    clear S3;rcases hrel with⟨rfl,hk,HR⟩| ⟨rfl,hk,HR⟩| ⟨rfl,HR⟩
    ·have KP:Hid _:=P1.out _ HR.out;clear HR
     go_wp2_with fail
     refine Calls.mono KP.out ?_;rintro e w5 ⟨rfl,s5⟩;have S5:Hid (aI B w0 d C E1 (k+1) (cf q C::l) w5):=s5;clear KP s5;go_wp2
     go_roundg 1
     case measure=>omega
     case rel=>exact .inr (.inl ⟨by go_num,Nat.le_refl _,S5.out⟩)
    ·have KP:Hid _:=P2.out _ HR.out;clear HR
     go_wp2_with fail
     refine Calls.mono KP.out ?_;rintro e w5 ⟨rfl,s5⟩;have S5:Hid (aI B w0 d C E2 (k+2) (cf q C::l) w5):=s5;clear KP s5;go_wp2
     go_roundg 0
     case measure=>omega
     case rel=>exact .inr (.inr ⟨by go_num,S5.out⟩)
    ·go_wp2;go_ret;exact⟨rfl,fun h=>absurd rfl h,fun _=>HR.out⟩
  ·rw[HTT.out.1]at P1 P2;generalize(⟨#[116]⟩:ByteArray)=xv at*;refine Calls.mono (KK.out _ (S1.out _)) ?_;rintro e w2 ⟨rfl,rfl⟩;clear KK
   go_wp2_with fail
   refine Calls.mono (KB.out _) ?_;rintro e w3 ⟨rfl,b3⟩;have S3:Hid (aI B w0 d C E k (cf q C::l) w3):=(S1.out _).below b3;clear KB b3 z0 z1 S1;have hi0:=LH k1 k2;have hi1:=UH k1 k2;go_wp2
   go_loopg [30] 2 (fun kx GV wr=>(GV=.int .i64 0∧2<=kx∧Hid (aI B w0 d C E k (cf q C::l) wr))∨(GV=.int .i64 1∧1<=kx∧Hid (aI B w0 d C E1 (k+1) (cf q C::l) wr))∨(GV=.int .i64 2∧Hid (aI B w0 d C E2 (k+2) (cf q C::l) wr)))
   case atStart=>exact .inl ⟨rfl,Nat.le_refl _,S3.out⟩
   case round=>
    clear S3;rcases hrel with⟨rfl,hk,HR⟩| ⟨rfl,hk,HR⟩| ⟨rfl,HR⟩
    ·have KP:Hid _:=P1.out _ HR.out;clear HR
     go_wp2_with fail
     refine Calls.mono KP.out ?_;rintro e w5 ⟨rfl,s5⟩;have S5:Hid (aI B w0 d C E1 (k+1) (cf q C::l) w5):=s5;clear KP s5;go_wp2
     go_roundg 1
     case measure=>omega
     case rel=>exact .inr (.inl ⟨by go_num,Nat.le_refl _,S5.out⟩)
    ·have KP:Hid _:=P2.out _ HR.out;clear HR
     go_wp2_with fail
     refine Calls.mono KP.out ?_;rintro e w5 ⟨rfl,s5⟩;have S5:Hid (aI B w0 d C E2 (k+2) (cf q C::l) w5):=s5;clear KP s5;go_wp2
     go_roundg 0
     case measure=>omega
     case rel=>exact .inr (.inr ⟨by go_num,S5.out⟩)
    ·go_wp2;go_ret;exact⟨rfl,fun h=>absurd rfl h,fun _=>HR.out⟩
 ·have hb:(dy u v != 0)=true:=bne_iff_ne.2 hm;have HM:Hid (dy u v≠0):=hm;clear h T hr h0 hE hm hn hk HC;generalize dy u v=er at*;generalize(bR u v).1=p1 at*;generalize(bR u v).2=p2 at*;unfold ptr at*;go_enter Tryz.func9,Tryz.ntmps9
  go_wp2_with fail
  refine Calls.mono KM.out ?_;rintro e w1 ⟨rfl,b1⟩;have S1:Hid (∀o,aI B w0 d C E k (cf q C::l) (w1.alloc o)):=fun o=>(HS.out.below b1).below ((Below.refl _ _).alloc (Nat.le_refl _) _);clear KM HS b1;go_wp2;go_ret;exact⟨rfl,fun _=>S1.out _,fun h=>absurd h HM.out⟩
end
end P
namespace P
open N (En bB Rg cJ aV jD iv gN iC)
section
variable {B:Nat}{w0 w w':World}{C:Cx}{d:Dk}{l:List aM}{E:List En}{k q n:Nat}
theorem aI.swap {a b:aM}(h:aI B w0 d C E k (a::b::l) w):aI B w0 d C E k (b::a::l) w:=h.of fun _ _ _ _ s=>Sep.pb [_,_,_,_] (Sep.pk [_,_,_,_,_] s)
theorem aI.yF {a:aM}(h:aI B w0 d C E k (a::l) w):aI B w0 d C E k l w:=h.of fun _ _ _ _ s=>Sep.drop (Sep.pk [_,_,_,_] s)
def AO (E:List En)(u v:Int):Bool:=decide (dy u v=0)&&(iy E (bR u v).1 (bR u v).2).2
def GCl (B:Nat)(w0:World)(d:Dk)(C:Cx)(k q:Nat)(l:List aM)(b:Bool)(E E2:List En)(w:World):Prop:=(b=false->aI B w0 d C E k (cf q C::l) w)∧(b=true->aI B w0 d C E2 (k+2) (cf q C::l) w)
def GW (E:List En)(u v:Int):Int:=if dy u v=0 then(if(iy E (bR u v).1 (bR u v).2).2=true then 0 else 181)else dy u v
theorem Xv (u v:Int)(T:bW B w0)(hr:d.room<=16384)(h0:C.err=0)(HC:∀E',E'.length<=n->Cap d.room d E')(hE:E.length<=n)(hn:n<=200)(hk:k+1<=700)(h:aI B w0 d C E k (cf q C::l) w):
  Calls Tryz.prog 12 #[ptr q,.int .i64 u,.int .i64 v] w fun e w'=>e=.returned (.int .i64 (GW E u v))∧GCl B w0 d C k q l (AO E u v) E (Av E (bR u v).1 (bR u v).2) w':=by
 have KM:Hid _:=nw u v w;have HS:Hid (aI B w0 d C E k (cf q C::l) w):=h;by_cases hm:dy u v=0
 ·have hp:=py hm;have KB:Hid (∀w,Calls Tryz.prog 35 #[.agg #[.int .i64 (bR u v).1,.int .i64 (bR u v).2]] w fun e w'=>e=.returned (.agg #[.string (cM (bR u v).1 (bR u v).2),.string (cM (bR u v).2 (bR u v).1)])∧Below w.heap.size w w'):=LI _ _;have KK:Hid (∀L w,aI B w0 d C E k (cf q C::L) w->Calls Tryz.prog 34 #[ptr q] w fun e w'=>e=.returned (ptr C.tq)∧w=w'):=fun L w h=>E5 h;have KG:Hid (∀L w,aI B w0 d C E k (cf q C::L) w->Calls Tryz.prog 38 #[ptr q,.agg #[.int .i64 (bR u v).1,.int .i64 (bR u v).2]] w fun e w'=>e=.returned (.tuple #[.bool (iy E (bR u v).1 (bR u v).2).1,.bool (iy E (bR u v).1 (bR u v).2).2,.int .i64 0])∧aI B w0 d C E k (cf q C::L) w'):=fun L w h=>QY _ _ T hr h0 (by omega) hp h;have P1:Hid (∀w,aI B w0 d C E k (cf q C::l) w->Calls Tryz.prog 39 #[ptr C.tq,.string (cM (bR u v).1 (bR u v).2)] w fun e w'=>e=.returned (.tuple #[.bool (gN E (cM (bR u v).1 (bR u v).2)),.int .i64 0])∧aI B w0 d C (iv E (cM (bR u v).1 (bR u v).2)) (k+1) (cf q C::l) w'):=fun w h=>E4 T hr h0 (HC _ (by omega)) (by omega) (by omega) h;have P2:Hid (∀w,aI B w0 d C (iv E (cM (bR u v).1 (bR u v).2)) (k+1) (cf q C::l) w->Calls Tryz.prog 39 #[ptr C.tq,.string (cM (bR u v).2 (bR u v).1)] w fun e w'=>e=.returned (.tuple #[.bool (gN (iv E (cM (bR u v).1 (bR u v).2)) (cM (bR u v).2 (bR u v).1)),.int .i64 0])∧aI B w0 d C (Av E (bR u v).1 (bR u v).2) (k+2) (cf q C::l) w'):=fun w h=>E4 T hr h0 (HC _ (by have:=rD (E:=E) (key:=cM (bR u v).1 (bR u v).2);omega)) (by have:=rD (E:=E) (key:=cM (bR u v).1 (bR u v).2);omega) (by omega) h;have HX:Hid (GW E u v=if(iy E (bR u v).1 (bR u v).2).2=true then 0 else 181):=if_pos hm;have HH:Hid (AO E u v=(iy E (bR u v).1 (bR u v).2).2):=by show _=_;unfold AO;rw[decide_eq_true hm,Bool.true_and]
  rw[hm]at KM;rw[HX.out,HH.out];clear h T hr h0 hE hp hn hk HC hm HX HH;generalize Av E (bR u v).1 (bR u v).2=E2 at*;generalize gN (iv E (cM (bR u v).1 (bR u v).2)) (cM (bR u v).2 (bR u v).1)=fb2 at*;generalize iv E (cM (bR u v).1 (bR u v).2)=E1 at*;generalize gN E (cM (bR u v).1 (bR u v).2)=fb1 at*;generalize iy E (bR u v).1 (bR u v).2=ge at*;generalize cM (bR u v).1 (bR u v).2=k1 at*;generalize cM (bR u v).2 (bR u v).1=k2 at*;generalize bR u v=p at*;obtain⟨p1,p2⟩:=p;obtain⟨g1,g2⟩:=ge;simp only at KM KB KG;unfold ptr at*;cases g2
  ·go_enter Tryz.func12,Tryz.ntmps12
   go_wp2_with fail
   refine Calls.mono KM.out ?_;rintro e w1 ⟨rfl,b1⟩;have S1:Hid (∀o,aI B w0 d C E k (cf q C::l) (w1.alloc o)):=fun o=>(HS.out.below b1).below ((Below.refl _ _).alloc (Nat.le_refl _) _);obtain⟨z0,z1⟩:=(Cl.new w1 #[.int .i64 p1,.int .i64 p2] 35).two;clear KM HS b1
   go_wp2_with fail
   refine Calls.mono (KG.out _ _ (S1.out _)) ?_;rintro e w2 ⟨rfl,s2⟩;have S2:Hid (aI B w0 d C E k (cf q C::l) w2):=s2;clear KG s2 S1 z0 z1;go_wp2;go_ret;exact⟨rfl,fun _=>S2.out,fun h=>by cases h⟩
  ·go_enter Tryz.func12,Tryz.ntmps12
   go_wp2_with fail
   refine Calls.mono KM.out ?_;rintro e w1 ⟨rfl,b1⟩;have S1:Hid (∀o,aI B w0 d C E k (cf q C::l) (w1.alloc o)):=fun o=>(HS.out.below b1).below ((Below.refl _ _).alloc (Nat.le_refl _) _);have SP:Hid (aI B w0 d C E k (cf q C::aF w1.heap.size (.cells #[.int .i64 p1,.int .i64 p2] 35)::l) (w1.alloc (.cells #[.int .i64 p1,.int .i64 p2] 35))):=((HS.out.below b1).blk _).swap;obtain⟨z0,z1⟩:=(Cl.new w1 #[.int .i64 p1,.int .i64 p2] 35).two;clear KM HS b1 S1
   go_wp2_with fail
   refine Calls.mono (KG.out _ _ SP.out) ?_;rintro e w2 ⟨rfl,s2⟩;have S2:Hid (aI B w0 d C E k (cf q C::aF w1.heap.size (.cells #[.int .i64 p1,.int .i64 p2] 35)::l) w2):=s2;clear KG s2 SP z0 z1
   go_wp2_with fail
   refine Calls.mono (KK.out _ _ S2.out) ?_;rintro e w3 ⟨rfl,rfl⟩;obtain⟨_,⟨z0,z1⟩,_⟩:=Sep.c2 (Sep.pk [_] S2.out.sep);clear KK
   go_wp2_with fail
   refine Calls.mono (KB.out _) ?_;rintro e w3 ⟨rfl,b3⟩;have S3:Hid (aI B w0 d C E k (cf q C::l) w3):=aI.below (aI.yF (aI.swap S2.out)) b3;clear KB b3 z0 z1 S2;have hi0:=LH k1 k2;have hi1:=UH k1 k2;go_wp2
   go_loopg [42] 2 (fun kx GV wr=>(GV=.int .i64 0∧2<=kx∧Hid (aI B w0 d C E k (cf q C::l) wr))∨(GV=.int .i64 1∧1<=kx∧Hid (aI B w0 d C E1 (k+1) (cf q C::l) wr))∨(GV=.int .i64 2∧Hid (aI B w0 d C E2 (k+2) (cf q C::l) wr)))
   case atStart=>exact .inl ⟨rfl,Nat.le_refl _,S3.out⟩
   case round=>
    clear S3;rcases hrel with⟨rfl,hk,HR⟩| ⟨rfl,hk,HR⟩| ⟨rfl,HR⟩
    ·have KP:Hid _:=P1.out _ HR.out;clear HR
     go_wp2_with fail
     refine Calls.mono KP.out ?_;rintro e w5 ⟨rfl,s5⟩;have S5:Hid (aI B w0 d C E1 (k+1) (cf q C::l) w5):=s5;clear KP s5;go_wp2
     go_roundg 1
     case measure=>omega
     case rel=>exact .inr (.inl ⟨by go_num,Nat.le_refl _,S5.out⟩)
    ·have KP:Hid _:=P2.out _ HR.out;clear HR
     go_wp2_with fail
     refine Calls.mono KP.out ?_;rintro e w5 ⟨rfl,s5⟩;have S5:Hid (aI B w0 d C E2 (k+2) (cf q C::l) w5):=s5;clear KP s5;go_wp2
     go_roundg 0
     case measure=>omega
     case rel=>exact .inr (.inr ⟨by go_num,S5.out⟩)
    ·go_wp2;go_ret;exact⟨rfl,(fun h=>by cases h),fun _=>HR.out⟩
 ·have hb:(dy u v != 0)=true:=bne_iff_ne.2 hm;have HX:Hid (GW E u v=dy u v):=if_neg hm;have HH:Hid (AO E u v=false):=by show _=_;unfold AO;rw[decide_eq_false hm,Bool.false_and]
  rw[HX.out,HH.out];clear h T hr h0 hE hm hn hk HC HX HH;generalize dy u v=er at*;generalize(bR u v).1=p1 at*;generalize(bR u v).2=p2 at*;unfold ptr at*;go_enter Tryz.func12,Tryz.ntmps12
  go_wp2_with fail
  refine Calls.mono KM.out ?_;rintro e w1 ⟨rfl,b1⟩;have S1:Hid (∀o,aI B w0 d C E k (cf q C::l) (w1.alloc o)):=fun o=>(HS.out.below b1).below ((Below.refl _ _).alloc (Nat.le_refl _) _);clear KM HS b1;go_wp2;go_ret;exact⟨rfl,fun _=>S1.out _,fun h=>by cases h⟩
end
end P
namespace P
open N (En bB Rg cJ aV jD iv gN iC)
section
variable {B:Nat}{w0 w w':World}{C:Cx}{d:Dk}{l:List aM}{E:List En}{k q n:Nat}{σ:Type}{st:σ->Int->Int->Bool->σ}{m:σ->Nat}{U:σ->aM}{fy:Nat}{cy:Array Value}{fr tt:ByteArray}{s0:σ}
theorem aI.Qo {a b c:aM}(h:aI B w0 d C E k (a::b::c::l) w):aI B w0 d C E k (c::a::b::l) w:=h.of fun _ _ _ _ s=>Sep.pb [_,_,_,_] (Sep.pk [_,_,_,_,_,_] s)
theorem aI.VO {a b c:aM}(h:aI B w0 d C E k (c::a::b::l) w):aI B w0 d C E k (a::b::c::l) w:=h.of fun _ _ _ _ s=>Sep.pb [_,_,_,_,_,_] (Sep.pk [_,_,_,_] s)
theorem aI.dr (h:aI B w0 d C E k l w):aI B w0 d C E k l w.drew:=h.of fun _ _ _ _ s=>s.drew
def YD (B:Nat)(w0:World)(d:Dk)(C:Cx)(E:List En)(k:Nat)(fy:Nat)(cy:Array Value)(st:σ->Int->Int->Bool->σ)(U:σ->aM)(m:σ->Nat):Prop:=
 ∀(w:World) (L:List aM) (s:σ) (u v:Int) (b:Bool),m s<1000->Wf u->Wf v->aI B w0 d C E k (U s::L) w->
  Calls Tryz.prog fy (#[.int .i64 u,.int .i64 v,.bool b]++cy) w fun e w'=>e=.returned (.tuple #[])∧aI B w0 d C E k (U (st s u v b)::L) w'
def Vk (B:Nat)(w0:World)(d:Dk)(C:Cx)(E:List En)(k q:Nat)(l:List aM)(U:σ->aM)(R:σ×Int)(e:Ending)(w:World):Prop:=
 e=.returned (.int .i64 R.2)∧aI B w0 d C E k (cf q C::U R.1::l) w
theorem UJ (e:En):Wf (gp e).1.1∧Wf (gp e).1.2.1:=by
 rcases vN e with⟨u,v,b,h1,h2,_⟩|h1
 ·rw[h1];have a:=mf (eN.1 h2).1;have c:=mf (eN.1 h2).2.1;exact⟨⟨by simp only;omega,by simp only;omega⟩,⟨by simp only;omega,by simp only;omega⟩⟩
 ·rw[h1];exact⟨⟨by simp only;omega,by simp only;omega⟩,⟨by simp only;omega,by simp only;omega⟩⟩
theorem UK {l:List En}{j:Nat}{s:σ}(h:j<l.length):A2 st (l.drop j) s=if(gp l[j]!).2=true then A2 st (l.drop (j+1)) (st s (gp l[j]!).1.1 (gp l[j]!).1.2.1 (gp l[j]!).1.2.2)else(s,3):=by
 have e:l.drop j=l[j]! ::l.drop (j+1):=by
  rw[getElem!_pos l j h];exact List.drop_eq_getElem_cons h
 rw[e,A2]
theorem QZ (T:bW B w0)(hr:d.room<=16384)(h0:C.err=0)(hE:E.length<=200)(EY:∀args w,(callFunc fy args).run Tryz.prog w=.ok (.enter fy args) w)(hu:YD B w0 d C E k fy cy st U m)(hm:∀s u v b,m (st s u v b)<=m s+1)(hs:m s0=0)(h:aI B w0 d C E k (cf q C::U s0::l) w):
  Calls Tryz.prog 41 #[ptr q,.string fr,.string tt,.func (.func fy) #[] cy] w (Vk B w0 d C E k q l U (A2 st (gj fr tt E) s0)):=by
 have HU:Hid (YD B w0 d C E k fy cy st U m):=hu;have HM:Hid (∀s u v b,m (st s u v b)<=m s+1):=hm;have HS:Hid (aI B w0 d C E k (cf q C::U s0::l) w):=h;have KK:Hid _:=E5 h;have KS:Hid (Calls Tryz.prog 20 #[ptr C.tq,.string fr,.string tt] w fun e w'=>∃ao c,e=.returned (.tuple #[.slice ao (gj fr tt E).length c,.int .i64 0])∧aI B w0 d C E k (wo (.slice ao (gj fr tt E).length c) (gj fr tt E)::cf q C::U s0::l) w'):=LF T hr h0 (by omega) h;have HL:Hid ((gj fr tt E).length<=200∧∀x∈gj fr tt E,x.1.size<=maxLen):=by
  refine⟨Nat.le_trans (List.length_filter_le _ _) hE,fun x hx=>?_⟩;obtain⟨r,y,d1,P,X,H,_,_,TT,_⟩:=h;have:=aV.1 (TT.ts.rg.may x ((List.mem_filter.1 hx).1));unfold maxLen;omega
 have HZ:Hid (m s0=0):=hs;clear h hu hm hs T hr h0 hE;generalize gj fr tt E=L at*;obtain⟨R,hR⟩:∃R,A2 st L s0=R:=⟨_,rfl⟩;have HR:Hid (A2 st L s0=R):=hR;rw[hR];clear hR;unfold ptr at*;go_enter Tryz.func41,Tryz.ntmps41
 go_wp2_with fail
 refine Calls.mono KK.out ?_;rintro e w1 ⟨rfl,rfl⟩;clear KK HS
 go_wp2_with fail
 refine Calls.mono KS.out ?_;rintro e w1 ⟨ao,c,rfl,s1⟩;have S1:Hid (aI B w0 d C E k (wo (.slice ao L.length c) L::cf q C::U s0::l) w1):=s1;clear KS s1;go_wp2
 go_loopg [30] L.length (fun kx GV wr=>∃(j:Nat) (s:σ),GV=.int .i64 (j:Int)∧j<=L.length∧L.length-j<=kx∧Hid (m s<=j∧A2 st (L.drop j) s=R)∧Hid (aI B w0 d C E k (wo (.slice ao L.length c) L::cf q C::U s::l) wr))
 case atStart=>exact⟨0,s0,rfl,Nat.zero_le _,Nat.le_refl _,⟨Nat.le_of_eq HZ.out,HR.out⟩,S1.out⟩
 case round=>
  obtain⟨j,s,rfl,hj,hjx,HI,HS⟩:=hrel;clear S1;by_cases hlt:j<L.length
  ·have uh:(j:Int)< (L.length:Int):=by omega
   obtain⟨cT,cap',e',_,_,h3⟩:=Sep.Xs HS.out.sep;obtain⟨rb,Xn,hae,hrb,z0,z1⟩:=N.cW h3 j hlt (Below.refl _ _);have e2:ao=cT:=by injection e'
   subst e2;subst hae;have hwj:IntKind.i64.wrap ((j:Int)+1)=((j+1:Nat):Int):=by rw[bM (by omega) (by have:=HL.out.1;omega)];rfl
   have HX:=HI.out.2;rw[UK hlt]at HX;have hxs:L[j]!.1.size<=maxLen:=HL.out.2 _ (by rw[getElem!_pos L j hlt];exact List.getElem_mem hlt);have HJL:Hid (j<L.length∧m s<=j):=⟨hlt,HI.out.1⟩;have KP0:=fun w=>tB L[j]! w hxs;generalize L[j]! =x at*;obtain⟨xk,xv⟩:=x;simp only at z0 z1 KP0;have KP:Hid _:=KP0;have hwf:=UJ (xk,xv);generalize gp (xk,xv)=pr at*;obtain⟨⟨p1,p2,p3⟩,p4⟩:=pr;simp only at KP HX hwf;have HWF:Hid (Wf p1∧Wf p2):=hwf;clear hwf;have S2:Hid (aI B w0 d C E k (wo (.slice (some ⟨rb,Xn,none⟩) L.length c) L::cf q C::U s::l) (wr.alloc (.cells #[.string xk,.string xv] 96))):=aI.below HS.out ((Below.refl _ _).alloc (Nat.le_refl _) _);clear KP0 hxs h3 e' HI HS;cases p4
   ·have HR3:Hid ((s,(3:Int))=R):=by have:=HX;rw[if_neg (by simp)]at this;exact this
    clear HX
    go_wp2_with fail
    refine Calls.mono (KP.out _) ?_;rintro e w4 ⟨rfl,b4⟩;have S4:Hid _:=aI.below S2.out b4;clear KP S2 b4;go_wp2;go_ret;exact⟨by rw[<-HR3.out];rfl,by rw[<-HR3.out];exact aI.yF S4.out⟩
   ·have HX2:Hid (A2 st (L.drop (j+1)) (st s p1 p2 p3)=R):=by have:=HX;rw[if_pos rfl]at this;exact this
    clear HX
    go_wp2_with fail
    refine Calls.mono (KP.out _) ?_;rintro e w4 ⟨rfl,b4⟩;have S4:Hid (aI B w0 d C E k (U s::wo (.slice (some ⟨rb,Xn,none⟩) L.length c) L::cf q C::l) w4):=aI.Qo (aI.below S2.out b4);have KU:Hid _:=HU.out _ _ _ p1 p2 p3 (by have:=HJL.out;have:=HL.out.1;omega) HWF.out.1 HWF.out.2 S4.out;clear KP S2 b4 z0 z1
    go_wp2_with fail
    refine Calls.mono KU.out ?_;rintro e w5 ⟨rfl,s5⟩;have S5:Hid (aI B w0 d C E k (wo (.slice (some ⟨rb,Xn,none⟩) L.length c) L::cf q C::U (st s p1 p2 p3)::l) w5):=aI.VO s5;have HM2:Hid (m (st s p1 p2 p3)<=j+1):=by have h1:=HM.out s p1 p2 p3;have h2:=HJL.out.2;show _<=_;omega
    clear KU s5 S4;generalize st s p1 p2 p3=s2 at*;go_wp2
    go_roundg (L.length- (j+1))
    case measure=>omega
    case rel=>exact⟨j+1,s2,by go_num,by omega,Nat.le_refl _,⟨HM2.out,HX2.out⟩,S5.out⟩
  ·have uh:¬(j:Int)< (L.length:Int):=by omega
   have hj2:j=L.length:=by omega
   have HR3:Hid ((s,(0:Int))=R):=by have:=HI.out.2;rw[hj2,List.drop_length]at this;exact this
   clear HI;go_wp2;go_ret;exact⟨by rw[<-HR3.out];rfl,by rw[<-HR3.out];exact aI.yF HS.out⟩
end
end P
namespace P
open N (En bB Rg cJ aV jD iv gN iC)
section
variable {B:Nat}{w0 w w':World}{C:Cx}{d:Dk}{l:List aM}{E:List En}{k q n:Nat}{σ:Type}{st:σ->Int->Bool->σ}{m:σ->Nat}{U:σ->aM}{fz:Nat}{cz:Array Value}{s0:σ}{u:Int}
theorem aI.AP {a b:aM}(ga:Good a)(gb:Good b)(h:aI B w0 d C E k (Both a b::l) w):aI B w0 d C E k (a::b::l) w:=h.of fun _ _ _ _ s=>Sep.pb [_,_,_,_,_] (Sep.pb [_,_,_,_,_] ((Sep.pk [_,_,_,_] s).map fun _=>Hp.part ga gb))
theorem aI.Q2 {a b:aM}(h:aI B w0 d C E k (a::b::l) w):aI B w0 d C E k (Both a b::l) w:=h.of fun _ _ _ _ s=>Sep.pb [_,_,_,_] (Sep.join (Sep.pk [_,_,_,_,_] (Sep.pk [_,_,_,_,_] s)))
def YE (B:Nat)(w0:World)(d:Dk)(C:Cx)(E:List En)(k:Nat)(fz:Nat)(cz:Array Value)(st:σ->Int->Bool->σ)(U:σ->aM)(m:σ->Nat):Prop:=
 ∀(w:World) (L:List aM) (s:σ) (v:Int) (b:Bool),m s<1000->Wf v->aI B w0 d C E k (U s::L) w->
  Calls Tryz.prog fz (#[.int .i64 v,.bool b]++cz) w fun e w'=>e=.returned (.tuple #[])∧aI B w0 d C E k (U (st s v b)::L) w'
abbrev UN (q3:Nat)(fz:Nat)(cz:Array Value)(U:σ->aM)(s:σ):aM:=Both (aF q3 (.cells #[.func (.func fz) #[] cz] 102)) (U s)
theorem LJ {q3:Nat}(gU:∀s,Good (U s))(EZ:∀args w,(callFunc fz args).run Tryz.prog w=.ok (.enter fz args) w)(hu:YE B w0 d C E k fz cz st U m):YD B w0 d C E k 74 #[.pointer (some ⟨q3,0,none⟩)] (fun s _ v b=>st s v b) (UN q3 fz cz U) m:=by
 intro w L s x v b hs _ hv h;have h1:=aI.AP (aU _ _) (gU s) h;have HS:Hid (aI B w0 d C E k (U s::aF q3 (.cells #[.func (.func fz) #[] cz] 102)::L) w):=h1.swap;obtain⟨_,c0,_⟩:=Sep.c1 h1.sep;have KU:Hid _:=hu w _ s v b hs hv HS.out;clear h h1 hu hs gU hv;go_enter Tryz.func74,Tryz.ntmps74
 go_wp2_with fail
 refine Calls.mono KU.out ?_;rintro e w1 ⟨rfl,s1⟩;have S1:Hid (aI B w0 d C E k (UN q3 fz cz U (st s v b)::L) w1):=aI.Q2 (aI.swap s1);clear KU s1 HS c0;go_wp2
 go_end0
 exact⟨rfl,S1.out⟩
def oo (st:σ->Int->Bool->σ)(E:List En)(u:Int)(s0:σ):σ×Int:=if dC u=true then A2 (fun s _ v b=>st s v b) (gj (xy u) (toA u) E) s0 else(s0,30)
theorem UL {u:Int}(h:dC u=true):(⟨(gA u u).toArray⟩:ByteArray).size=8∧(⟨#[65]⟩:ByteArray)++(⟨(gA u u).toArray⟩:ByteArray).extract 0 4=xy u:=by
 have e:gA u u=beBytes 4 u.toNat++beBytes 4 u.toNat:=by unfold gA;rw[if_pos (by rw[h];rfl)]
 rw[e];refine⟨by rw[fu,List.length_append,beBytes_length],?_⟩;have e2:=Dc (beBytes 4 u.toNat) (beBytes 4 u.toNat);rw[beBytes_length]at e2;rw[e2];apply jT;rw[ByteArray.data_append];simp[xy]
theorem UM {u:Int}:xy u++⟨(Lib.repeatL [255] 16).toArray⟩=toA u:=by
 apply jT;rw[ByteArray.data_append];have e:Lib.repeatL ([255]:List UInt8) 16=List.replicate 16 255:=by decide
 rw[e];simp[xy,toA]
theorem Q3 (T:bW B w0)(hr:d.room<=16384)(h0:C.err=0)(hE:E.length<=200)(gU:∀s,Good (U s))(EZ:∀args w,(callFunc fz args).run Tryz.prog w=.ok (.enter fz args) w)(hu:YE B w0 d C E k fz cz st U m)(hm:∀s v b,m (st s v b)<=m s+1)(hs:m s0=0)(h:aI B w0 d C E k (cf q C::U s0::l) w):
  Calls Tryz.prog 51 #[ptr q,.int .i64 u,.func (.func fz) #[] cz] w (Vk B w0 d C E k q l U (oo st E u s0)):=by
 have KV:Hid (∀w,Calls Tryz.prog 73 #[.int .i64 u] w fun e w'=>e=.returned (.int .i64 (lZ u))∧w=w'):=l7 u;have KK:Hid (∀w,Calls Tryz.prog 54 #[.int .i64 u,.int .i64 u] w fun e w'=>e=.returned (.tuple #[.string ⟨(gA u u).toArray⟩,.int .i64 (xq u u)])∧Below w.heap.size w w'):=DR u u;cases hv:dC u with
 |true=>
  have HR:Hid (oo st E u s0=A2 (fun s _ v b=>st s v b) (gj (xy u) (toA u) E) s0):=if_pos hv;obtain⟨hz8,hfr⟩:=UL hv;have hto:=UM (u:=u);have hfz:(xy u).size=5:=by unfold xy;rw[fu,List.length_cons,beBytes_length]
  have hrz:(⟨(Lib.repeatL [255] 16).toArray⟩:ByteArray).size=16:=by decide+kernel
  have KP:Hid (∀w,Calls Tryz.prog 57 #[.string ⟨#[255]⟩,.int .i64 16] w fun e w'=>e=.returned (.string ⟨(Lib.repeatL [255] 16).toArray⟩)∧Below w.heap.size w w'):=fun w=>Tryz.strings_Repeat ⟨#[255]⟩ 16 w (by decide) (by decide+kernel);have S0:Hid (aI B w0 d C E k (cf q C::UN w.heap.size fz cz U s0::l) (w.alloc (.cells #[.func (.func fz) #[] cz] 102))):=aI.swap (aI.Q2 (aI.swap (aI.Qo (h.blk _))));have KE:Hid (∀w1 q3,aI B w0 d C E k (cf q C::UN q3 fz cz U s0::l) w1->Calls Tryz.prog 41 #[ptr q,.string (xy u),.string (toA u),.func (.func 74) #[] #[.pointer (some ⟨q3,0,none⟩)]] w1 (Vk B w0 d C E k q l (UN q3 fz cz U) (A2 (fun s _ v b=>st s v b) (gj (xy u) (toA u) E) s0))):=fun w1 q3 h1=>QZ T hr h0 hE (fun _ _=>rfl) (LJ gU EZ hu) (fun s _ v b=>hm s v b) hs h1;have HV:Hid (lZ u=0):=by show _=_;unfold lZ;rw[if_pos hv]
  have HG:Hid (∀s,Good (U s)):=gU;rw[HR.out];rw[HV.out]at KV;clear h T hr h0 hE gU EZ hu hm hs hv HR;generalize A2 (fun s _ v b=>st s v b) (gj (xy u) (toA u) E) s0=R at*;generalize(⟨(Lib.repeatL [255] 16).toArray⟩:ByteArray)=rp at*;generalize(⟨(gA u u).toArray⟩:ByteArray)=tx at*;generalize xq u u=ke at*;generalize toA u=to_ at*;generalize xy u=fr_ at*;unfold ptr at*;go_enter Tryz.func51,Tryz.ntmps51
  go_wp2_with fail
  refine Calls.mono (KV.out _) ?_;rintro e w1 ⟨rfl,rfl⟩;clear KV
  go_wp2_with fail
  refine Calls.mono (KK.out _) ?_;rintro e w1 ⟨rfl,b1⟩;have S1:Hid (aI B w0 d C E k (cf q C::UN w.heap.size fz cz U s0::l) w1):=aI.below S0.out b1;clear KK S0 b1
  go_wp2_with fail
  refine Calls.mono (KP.out _) ?_;rintro e w2 ⟨rfl,b2⟩;have S2:Hid (aI B w0 d C E k (cf q C::UN w.heap.size fz cz U s0::l) w2):=aI.below S1.out b2;clear KP S1 b2;have K4:Hid _:=KE.out _ _ S2.out;clear KE S2
  go_wp2_with fail
  refine Calls.mono K4.out ?_;rintro e w3 ⟨rfl,s3⟩;have S3:Hid (aI B w0 d C E k (cf q C::U R.1::l) w3):=aI.swap (aI.yF (aI.AP (aU _ _) (HG.out _) (aI.swap s3)));clear K4 s3;go_wp2;go_ret;exact⟨rfl,S3.out⟩
 |false=>
  have HR:Hid (oo st E u s0=(s0,30)):=if_neg (by rw[hv];simp);have HV:Hid (lZ u=30):=by show _=_;unfold lZ;rw[if_neg (by rw[hv];simp)]
  have S0:Hid (aI B w0 d C E k (cf q C::U s0::l) (w.alloc (.cells #[.func (.func fz) #[] cz] 102))):=aI.below h ((Below.refl _ _).alloc (Nat.le_refl _) _);rw[HR.out];rw[HV.out]at KV;clear h T hr h0 hE gU EZ hu hm hs hv HR KK;unfold ptr at*;go_enter Tryz.func51,Tryz.ntmps51
  go_wp2_with fail
  refine Calls.mono (KV.out _) ?_;rintro e w1 ⟨rfl,rfl⟩;clear KV;go_wp2;go_ret;exact⟨rfl,S0.out⟩
end
end P
end Go.Proofs.YtcenfooehjcddaaGreatDoor
