/- Walks of the package cowtree and of what it stands on: lemmas, made short. -/
import Derived.Test.YtceoeaemenhbhabGreatDoorR18
import Derived.Test.YtceoeaemenhbhabGreatDoorR13
import Derived.Deep.QuietTactic
import Derived.BigQuiet
set_option maxHeartbeats 16000000
set_option maxRecDepth 100000
set_option linter.unusedVariables false
set_option linter.unusedSimpArgs false
section
namespace Go.Proofs.YtceoeaemenhbhabGreatDoor.P
open Go.Shelf Go.RowKit Go.Lib Go.Sort
open N (Nd En eU cF jq lJ jo pE Rg bn cD aT hidR aj ai Ch aI ah waits)
theorem Bn {E:List En}{key val:ByteArray}(h:cF key val=true)(hr:Rg E):(jq E key val).length<=E.length+1:=by
 have:=qw key val E;have e1:(Fq key val E).length=(jq E key val).length:=by unfold Fq;rw[if_pos (by rw[h,N.fE hr];rfl)]
 omega
def lH (B:Nat)(w0:World)(d:Dk)(C:Cx)(E1 E2:List En)(k:Nat)(l:List aN)(f23:Bool)(w:World):Prop:=
 (f23=false->cI B w0 d C E1 k l w)∧(f23=true->cI B w0 d C E2 (k+1) l w)
theorem lH.kA {B:Nat}{w0 w:World}{d:Dk}{C:Cx}{E1 E2:List En}{k:Nat}{l:List aN}{f23:Bool}(h:lH B w0 d C E1 E2 k l f23 w):Below B w0 w:=by
 cases f23
 ·exact(h.1 rfl).sep.kA
 ·exact(h.2 rfl).sep.kA
def Yn (B:Nat)(w0:World)(dd:Dk)(CC:Cx)(E1 E2:List En)(kk:Nat)(LL:List aN)(r o nn cap jj:Nat)(key val:ByteArray){y1 y2 y3 y4 y7 y8 y9 nO mo nP y13 mq kC kD k7 rU rV y20 y21 y22 y23 y24 y25 rW y27 y28 tM yj Aq Ec Ed Ee Ef Ia Ib Ei Ej Ek El Em Eo Ep Es Et Eu Ew Ex Hz H0 H4 Qe Qf Qg Qh Qi Me Mf H5 H7 H8 Eg y90 y91 Eh y93 yl y95 y96 I5 y98 y99 AV y101 y102 AW y104 AX AY AZ I6 I7 I8 Ja y112 y113 y114 y115 A2 A4 A5 A6 R8 Sg Sh Si Sk Sl Sn Sp Sq Sr Ss Su Sv Sw Sx Sy SA SC SD SG SH SI SJ SK:Value}(C:List Bool->Act->Prop)(w:World):Prop:=∀{f0 f1 f2 f3 f4 f5 f6 f7 f8 f9 f10 f11 f12 f13 f14 f15 f16 f17 f18 f19 f20 f21 f22 f23 f24 f25:Bool}{x29 x30 x31 x32 xZ x34 Kk Kl Ao x38 x39 x40 x41 Ku x43 Kv Kw Ky Fs Kz KH Vy Vz VC VD x54:Value},f25=false->lH B w0 dd CC E1 E2 kk LL f23 w->Hid (f0=true->x29=.slice (some ⟨r,o,none⟩) nn cap)->Hid (f1=true->x30=.int .i64 (jj:Int))->Hid (f2=true->f0=true∧f1=true∧x31=.pointer (some ⟨r,o+jj*3,none⟩))->Hid (f3=true->f2=true∧x32=.pointer (some ⟨r,o+jj*3+1,none⟩))->Hid (f4=true->f3=true∧xZ=.string key)->Hid (f5=true->x34=.slice (some ⟨r,o,none⟩) nn cap)->Hid (f6=true->Kk=.int .i64 (jj:Int))->Hid (f7=true->f5=true∧f6=true∧Kl=.pointer (some ⟨r,o+jj*3,none⟩))->Hid (f8=true->f7=true∧Ao=.pointer (some ⟨r,o+jj*3+2,none⟩))->Hid (f9=true->f8=true∧x38=.string val)->Hid (f10=true->f4=true∧f9=true∧x39=.bool true)->Hid (f11=true->f10=true∧x40=.bool true)->Hid (f12=true->x41=ptr CC.tq)->Hid (f13=true->Ku=.slice (some ⟨r,o,none⟩) nn cap)->Hid (f14=true->x43=.int .i64 (jj:Int))->Hid (f15=true->f13=true∧f14=true∧Kv=.pointer (some ⟨r,o+jj*3,none⟩))->Hid (f16=true->f15=true∧Kw=.pointer (some ⟨r,o+jj*3+1,none⟩))->Hid (f17=true->f16=true∧Ky=.string key)->Hid (f18=true->Fs=.slice (some ⟨r,o,none⟩) nn cap)->Hid (f19=true->Kz=.int .i64 (jj:Int))->Hid (f20=true->f18=true∧f19=true∧KH=.pointer (some ⟨r,o+jj*3,none⟩))->Hid (f21=true->f20=true∧Vy=.pointer (some ⟨r,o+jj*3+2,none⟩))->Hid (f22=true->f21=true∧Vz=.string val)->Hid (f23=true->f12=true∧f17=true∧f22=true∧VC=.int .i64 0)->Hid (f24=true->f23=true∧VD=.bool false)->C [f0,f1,f2,f3,f4,f5,f6,f7,f8,f9,f10,f11,f12,f13,f14,f15,f16,f17,f18,f19,f20,f21,f22,f23,f24,f25] {tmps:=#[.slice (some ⟨r,o,none⟩) nn cap,y1,y2,y3,y4,ptr CC.tq,.int .i64 (jj:Int),y7,y8,y9,nO,mo,nP,y13,mq,kC,kD,k7,rU,rV,y20,y21,y22,y23,y24,y25,rW,y27,y28,x29,x30,x31,x32,xZ,x34,Kk,Kl,Ao,x38,x39,x40,x41,Ku,x43,Kv,Kw,Ky,Fs,Kz,KH,Vy,Vz,VC,VD,x54,tM,yj,Aq,Ec,Ed,Ee,Ef,Ia,Ib,Ei,Ej,Ek,El,Em,Eo,Ep,Es,Et,Eu,Ew,Ex,Hz,H0,H4,Qe,Qf,Qg,Qh,Qi,Me,Mf,H5,H7,H8,Eg,y90,y91,Eh,y93,yl,y95,y96,I5,y98,y99,AV,y101,y102,AW,y104,AX,AY,AZ,I6,I7,I8,Ja,y112,y113,y114,y115,A2,A4,A5,A6,R8,Sg,Sh,Si,Sk,Sl,Sn,Sp,Sq,Sr,Ss,Su,Sv,Sw,Sx,Sy,SA,SC,SD,SG,SH,SI,SJ,SK],defers:=[]}
theorem treeLow (lv:Value)(l:List CY)(w:World)(TB:tj w)(hL:ActR13 w lv l):
  Calls Tryz.prog 5 #[lv] w fun e w'=>e=.returned (.bool true)∧Below w.heap.size w w':=by
 obtain⟨al,cap,rfl,_⟩:=id hL.row;have HA:Hid (ActR13 w (.slice al l.length cap) l):=hL;have TT:Hid (bY w.heap.size w):=Bz TB;have KW:Hid _:=DC TT.out (Sep.nil (Nat.le_refl _) (Below.refl _ _));clear hL TB;go_enter Tryz.func5,Tryz.ntmps5
 go_wp2_with fail
 refine Calls.mono KW.out ?_;rintro e w1 ⟨rfl,s1⟩;have S1:Hid (Sep w.heap.size w w1 []):=s1;have KO:Hid _:=Jk (HA.out.below s1.kA (Nat.le_refl _));clear KW s1
 go_wp2_with fail
 refine Calls.mono KO.out ?_;rintro e w2 ⟨rfl,b2⟩;have S2:Hid (Sep w.heap.size w w2 []):=S1.out.below b2;clear KO S1 b2;by_cases hov:kH l=true
 ·rw[hov];go_wp2;go_ret;exact⟨rfl,S2.out.kA⟩
 have sW:kH l=false:=by simpa using hov
 have HL:Hid (l.length<=200):=by
  unfold kH at sW;rw[Bool.or_eq_false_iff]at sW;have:=sW.1;show _<=_;simpa using this
 rw[sW];clear hov sW;have KT:Hid _:=Bl (n:=600) (by omega) (by omega) S2.out;have HR:Hid ((Dk.new 600).room=600):=mR (by omega) (by omega);clear S2;generalize Dk.new 600=d0 at*
 go_wp2_with fail
 refine Calls.mono KT.out ?_;rintro e w3 ⟨C,rfl,hC,h3⟩;have C0:Hid (C.err=0):=hC;have S6:Hid (cI w.heap.size w d0 C [] 0 [] w3):=h3;clear KT hC h3;unfold ptr at*;go_wp2
 go_loopg [6] l.length (fun kx s6 wr=>∃(ii:Nat) (E:List En),s6=.int .i64 (ii:Int)∧ii<=l.length∧l.length-ii<=kx∧Hid (E.length<=ii)∧Hid (cI w.heap.size w d0 C E ii [] wr))
 case atStart=>exact⟨0,[],rfl,Nat.zero_le _,Nat.le_refl _,Nat.le_refl _,S6.out⟩
 case round=>
  obtain⟨ii,E,rfl,hi,hix,HE,HS⟩:=hrel;clear S6;by_cases hlt:ii<l.length
  ·have jV:(ii:Int)< (l.length:Int):=by omega
   have hcl:=HA.out.at HS.out.sep.kA (Nat.le_refl _) hlt;obtain⟨r,o,e1,hr,x0,x1,x2,z1,z2,z3⟩:=hcl;subst e1;have mS:Hid (∀u,Below w.heap.size w u->r<u.heap.size∧u.cell? ⟨r,o+ii*3+1,none⟩=some (.string (l.getD ii gU).key)∧u.cell? ⟨r,o+ii*3+2,none⟩=some (.string (l.getD ii gU).val)):=fun u hu=>by
    obtain⟨r',o',e',hr',_,y1,y2,_⟩:=HA.out.at hu (Nat.le_refl _) hlt;cases e';exact⟨hr',y1,y2⟩
   have UK:IntKind.i64.wrap ((ii:Int)+1)=((ii+1:Nat):Int):=by rw[bA (by omega) (by have:=HL.out;omega)];rfl
   have N7:Hid ((ii:Int)< (l.length:Int)):=jV;have YU:Hid (Cap d0.room d0 E):=wS (by have:=HE.out;have:=HL.out;omega) (by rw[HR.out];omega);have Dp:Hid (Rg E):=HS.out.rg;generalize l.getD ii gU=y at*;obtain⟨yk,fZ,gf⟩:=y;simp only at*;cases hm:cF fZ gf
   ·have Q1:Hid _:=N.BO fZ gf false hm wr;have HS2:Hid (cI w.heap.size w d0 C E (ii+1) [] wr):=by
     obtain⟨r1,x,d1,P,X,H,s,a1,a2,a3,a4⟩:=HS.out;exact⟨r1,x,d1,P,X,H,s,a1,a2,a3,by omega⟩
    have HE2:Hid (E.length<=ii+1):=by have h2:=HE.out;show _<=_;omega
    have HDR:Hid (∀m9,cI w.heap.size w d0 C E (ii+1) [] (wr.drewN m9)):=fun m9=>HS2.out.of fun _ _ _ _ s=>s.drewN m9;generalize E=E2 at*;clear HS HE hm
    go_wp2_with fail
    go_quiet ((go_at_call 9;with_reducible exact Q1.out _))
    clear Q1 HS2;generalize hw8:wr.drewN _=w8 at*;have HS2:Hid (cI w.heap.size w d0 C E2 (ii+1) [] w8):=by rw[<-hw8];exact HDR.out _
    clear HDR x0 x1 x2 hw8;go_wp2
    go_roundg (l.length- (ii+1))
    case measure=>omega
    case rel=>exact⟨ii+1,E2,by go_num,by omega,Nat.le_refl _,HE2.out,HS2.out⟩
   ·have SL:Hid (cF fZ gf=true):=hm;have Vt:Hid (∀u,cI w.heap.size w d0 C E ii [] u->Calls Tryz.prog 10 #[ptr C.tq,.string fZ,.string gf] u fun e w'=>e=.returned (.int .i64 0)∧cI w.heap.size w d0 C (jq E fZ gf) (ii+1) [] w'):=fun u hu=>qz TT.out (by rw[HR.out];omega) C0.out SL.out YU.out (by have:=HE.out;have:=HL.out;omega) (by have:=HL.out;omega) hu;have HDR:Hid (cI w.heap.size w d0 C E ii [] wr.drew):=HS.out.of fun _ _ _ _ s=>s.drew;clear HS hm;unfold ptr at*
    go_wp2_with fail
    clear x0 x1 x2;refine gW 25 (Yn w.heap.size w d0 C E (jq E fZ gf) ii [] r o l.length cap ii fZ gf) (by kernel_rfl) (by kernel_rfl) (fun _ k=>k rfl ⟨fun _=>HDR.out,(fun h=>by cases h)⟩ aj aj aj aj aj aj aj aj aj aj aj aj aj aj aj aj aj aj aj aj aj aj aj aj aj) ?_ ?_ ?_ ?_
    ·intro w' f0 f1 f2 f3 f4 f5 f6 f7 f8 f9 f10 f11 f12 f13 f14 f15 f16 f17 f18 f19 f20 f21 f22 f23 f24 f25 x29 x30 x31 x32 xZ x34 Kk Kl Ao x38 x39 x40 x41 Ku x43 Kv Kw Ky Fs Kz KH Vy Vz VC VD x54 e25 hB h0 h1 h2 h3 h4 h5 h6 h7 h8 h9 h10 h11 h12 bG bT dJ h16 eo h18 h19 h20 h21 h22 h23 fx hi;have d11:f11=true:=ah 11 hi (by kernel_rfl);have d24:f24=true:=ah 24 hi (by kernel_rfl);obtain⟨d23,_⟩:=fx.out d24;obtain⟨d12,d17,d22,_⟩:=h23.out d23;obtain⟨d21,_⟩:=h22.out d22;obtain⟨d20,_⟩:=h21.out d21;obtain⟨d18,d19,_⟩:=h20.out d20;obtain⟨d16,_⟩:=eo.out d17;obtain⟨d15,_⟩:=h16.out d16;obtain⟨d13,d14,_⟩:=dJ.out d15;obtain⟨d10,_⟩:=h11.out d11;obtain⟨d4,d9,_⟩:=h10.out d10;obtain⟨d8,_⟩:=h9.out d9;obtain⟨d7,_⟩:=h8.out d8;obtain⟨d5,d6,_⟩:=h7.out d7;obtain⟨d3,_⟩:=h4.out d4;obtain⟨d2,_⟩:=h3.out d3;obtain⟨d0,d1,_⟩:=h2.out d2;subst d0 d1 d2 d3 d4 d5 d6 d7 d8 d9 d10 d11 d12 d13 d14 d15 d16 d17 d18 d19 d20 d21 d22 d23 d24;rfl
    ·intro i w' hne f0 f1 f2 f3 f4 f5 f6 f7 f8 f9 f10 f11 f12 f13 f14 f15 f16 f17 f18 f19 f20 f21 f22 f23 f24 f25 x29 x30 x31 x32 xZ x34 Kk Kl Ao x38 x39 x40 x41 Ku x43 Kv Kw Ky Fs Kz KH Vy Vz VC VD x54 e25 hB h0 h1 h2 h3 h4 h5 h6 h7 h8 h9 h10 h11 h12 bG bT dJ h16 eo h18 h19 h20 h21 h22 h23 fx hi;obtain⟨hlt,hun,_⟩:=aI hi;have hlt':i<26:=hlt;clear hlt;rcases(by omega:i=0∨i=1∨i=2∨i=3∨i=4∨i=5∨i=6∨i=7∨i=8∨i=9∨i=10∨i=11∨i=12∨i=13∨i=14∨i=15∨i=16∨i=17∨i=18∨i=19∨i=20∨i=21∨i=22∨i=23∨i=24)with rfl|rfl|rfl|rfl|rfl|rfl|rfl|rfl|rfl|rfl|rfl|rfl|rfl|rfl|rfl|rfl|rfl|rfl|rfl|rfl|rfl|rfl|rfl|rfl|rfl
     ·have un:f0=false:=hun;refine ai rfl fun K HK=>?_;go_simp;exact HK.out _ _ fun _ k=>k e25 hB hidR h1 (fun d=>by have e:=(h2.out d).1;rw[un]at e;cases e) h3 h4 h5 h6 h7 h8 h9 h10 h11 h12 bG bT dJ h16 eo h18 h19 h20 h21 h22 h23 fx
     ·have un:f1=false:=hun;refine ai rfl fun K HK=>?_;go_simp;exact HK.out _ _ fun _ k=>k e25 hB h0 hidR (fun d=>by have e:=(h2.out d).2.1;rw[un]at e;cases e) h3 h4 h5 h6 h7 h8 h9 h10 h11 h12 bG bT dJ h16 eo h18 h19 h20 h21 h22 h23 fx
     ·have un:f2=false:=hun;have d0:f0=true:=ah 0 hi (by kernel_rfl);cases h0 d0;have d1:f1=true:=ah 1 hi (by kernel_rfl);cases h1 d1;have SN:=N7.out;refine ai rfl fun K HK=>?_;go_simp;exact HK.out _ _ fun _ k=>k e25 hB h0 h1 (fun _=>⟨d0,d1,rfl⟩) (fun d=>by have e:=(h3.out d).1;rw[un]at e;cases e) h4 h5 h6 h7 h8 h9 h10 h11 h12 bG bT dJ h16 eo h18 h19 h20 h21 h22 h23 fx
     ·have un:f3=false:=hun;have d2:f2=true:=ah 2 hi (by kernel_rfl);obtain⟨_,_,rfl⟩:=h2.out d2;refine ai rfl fun K HK=>?_;go_simp;exact HK.out _ _ fun _ k=>k e25 hB h0 h1 h2 (fun _=>⟨d2,rfl⟩) (fun d=>by have e:=(h4.out d).1;rw[un]at e;cases e) h5 h6 h7 h8 h9 h10 h11 h12 bG bT dJ h16 eo h18 h19 h20 h21 h22 h23 fx
     ·have un:f4=false:=hun;have d3:f3=true:=ah 3 hi (by kernel_rfl);obtain⟨_,rfl⟩:=h3.out d3;obtain⟨KV,c91,SP⟩:=mS.out _ (lH.kA hB);refine ai rfl fun K HK=>?_;go_simp;exact HK.out _ _ fun _ k=>k e25 hB h0 h1 h2 h3 (fun _=>⟨d3,rfl⟩) h5 h6 h7 h8 h9 (fun d=>by have e:=(h10.out d).1;rw[un]at e;cases e) h11 h12 bG bT dJ h16 eo h18 h19 h20 h21 h22 h23 fx
     ·have un:f5=false:=hun;refine ai rfl fun K HK=>?_;go_simp;exact HK.out _ _ fun _ k=>k e25 hB h0 h1 h2 h3 h4 hidR h6 (fun d=>by have e:=(h7.out d).1;rw[un]at e;cases e) h8 h9 h10 h11 h12 bG bT dJ h16 eo h18 h19 h20 h21 h22 h23 fx
     ·have un:f6=false:=hun;refine ai rfl fun K HK=>?_;go_simp;exact HK.out _ _ fun _ k=>k e25 hB h0 h1 h2 h3 h4 h5 hidR (fun d=>by have e:=(h7.out d).2.1;rw[un]at e;cases e) h8 h9 h10 h11 h12 bG bT dJ h16 eo h18 h19 h20 h21 h22 h23 fx
     ·have un:f7=false:=hun;have d5:f5=true:=ah 5 hi (by kernel_rfl);cases h5 d5;have d6:f6=true:=ah 6 hi (by kernel_rfl);cases h6 d6;have SN:=N7.out;refine ai rfl fun K HK=>?_;go_simp;exact HK.out _ _ fun _ k=>k e25 hB h0 h1 h2 h3 h4 h5 h6 (fun _=>⟨d5,d6,rfl⟩) (fun d=>by have e:=(h8.out d).1;rw[un]at e;cases e) h9 h10 h11 h12 bG bT dJ h16 eo h18 h19 h20 h21 h22 h23 fx
     ·have un:f8=false:=hun;have d7:f7=true:=ah 7 hi (by kernel_rfl);obtain⟨_,_,rfl⟩:=h7.out d7;refine ai rfl fun K HK=>?_;go_simp;exact HK.out _ _ fun _ k=>k e25 hB h0 h1 h2 h3 h4 h5 h6 h7 (fun _=>⟨d7,rfl⟩) (fun d=>by have e:=(h9.out d).1;rw[un]at e;cases e) h10 h11 h12 bG bT dJ h16 eo h18 h19 h20 h21 h22 h23 fx
     ·have un:f9=false:=hun;have d8:f8=true:=ah 8 hi (by kernel_rfl);obtain⟨_,rfl⟩:=h8.out d8;obtain⟨KV,c91,SP⟩:=mS.out _ (lH.kA hB);refine ai rfl fun K HK=>?_;go_simp;exact HK.out _ _ fun _ k=>k e25 hB h0 h1 h2 h3 h4 h5 h6 h7 h8 (fun _=>⟨d8,rfl⟩) (fun d=>by have e:=(h10.out d).2.1;rw[un]at e;cases e) h11 h12 bG bT dJ h16 eo h18 h19 h20 h21 h22 h23 fx
     ·have un:f10=false:=hun;have d4:f4=true:=ah 4 hi (by kernel_rfl);obtain⟨_,rfl⟩:=h4.out d4;have d9:f9=true:=ah 9 hi (by kernel_rfl);obtain⟨_,rfl⟩:=h9.out d9;refine ai rfl fun K HK=>?_;go_simp;refine Calls.mono (N.vE _ _ _) ?_;rintro e u4 ⟨rfl,rfl⟩;rw[SL.out];exact HK.out _ _ fun _ k=>k e25 hB h0 h1 h2 h3 h4 h5 h6 h7 h8 h9 (fun _=>⟨d4,d9,rfl⟩) (fun d=>by have e:=(h11.out d).1;rw[un]at e;cases e) h12 bG bT dJ h16 eo h18 h19 h20 h21 h22 h23 fx
     ·have d10:f10=true:=ah 10 hi (by kernel_rfl);obtain⟨u4,u9,rfl⟩:=h10.out d10;refine ai rfl fun K HK=>?_;go_simp;exact HK.out _ _ fun _ k=>k e25 hB h0 h1 h2 h3 h4 h5 h6 h7 h8 h9 h10 (fun _=>⟨d10,rfl⟩) h12 bG bT dJ h16 eo h18 h19 h20 h21 h22 h23 fx
     ·have un:f12=false:=hun;obtain⟨_,rfl⟩:=h11.out (ah 11 hi (by kernel_rfl));refine ai rfl fun K HK=>?_;go_simp;exact HK.out _ _ fun _ k=>k e25 hB h0 h1 h2 h3 h4 h5 h6 h7 h8 h9 h10 h11 hidR bG bT dJ h16 eo h18 h19 h20 h21 h22 (fun d=>by have e:=(h23.out d).1;rw[un]at e;cases e) fx
     ·have un:f13=false:=hun;obtain⟨_,rfl⟩:=h11.out (ah 11 hi (by kernel_rfl));refine ai rfl fun K HK=>?_;go_simp;exact HK.out _ _ fun _ k=>k e25 hB h0 h1 h2 h3 h4 h5 h6 h7 h8 h9 h10 h11 h12 hidR bT (fun d=>by have e:=(dJ.out d).1;rw[un]at e;cases e) h16 eo h18 h19 h20 h21 h22 h23 fx
     ·have un:f14=false:=hun;obtain⟨_,rfl⟩:=h11.out (ah 11 hi (by kernel_rfl));refine ai rfl fun K HK=>?_;go_simp;exact HK.out _ _ fun _ k=>k e25 hB h0 h1 h2 h3 h4 h5 h6 h7 h8 h9 h10 h11 h12 bG hidR (fun d=>by have e:=(dJ.out d).2.1;rw[un]at e;cases e) h16 eo h18 h19 h20 h21 h22 h23 fx
     ·have un:f15=false:=hun;obtain⟨_,rfl⟩:=h11.out (ah 11 hi (by kernel_rfl));have d13:f13=true:=ah 13 hi (by kernel_rfl);cases bG d13;have d14:f14=true:=ah 14 hi (by kernel_rfl);cases bT d14;have SN:=N7.out;refine ai rfl fun K HK=>?_;go_simp;exact HK.out _ _ fun _ k=>k e25 hB h0 h1 h2 h3 h4 h5 h6 h7 h8 h9 h10 h11 h12 bG bT (fun _=>⟨d13,d14,rfl⟩) (fun d=>by have e:=(h16.out d).1;rw[un]at e;cases e) eo h18 h19 h20 h21 h22 h23 fx
     ·have un:f16=false:=hun;obtain⟨_,rfl⟩:=h11.out (ah 11 hi (by kernel_rfl));have d15:f15=true:=ah 15 hi (by kernel_rfl);obtain⟨_,_,rfl⟩:=dJ.out d15;refine ai rfl fun K HK=>?_;go_simp;exact HK.out _ _ fun _ k=>k e25 hB h0 h1 h2 h3 h4 h5 h6 h7 h8 h9 h10 h11 h12 bG bT dJ (fun _=>⟨d15,rfl⟩) (fun d=>by have e:=(eo.out d).1;rw[un]at e;cases e) h18 h19 h20 h21 h22 h23 fx
     ·have un:f17=false:=hun;obtain⟨_,rfl⟩:=h11.out (ah 11 hi (by kernel_rfl));have d16:f16=true:=ah 16 hi (by kernel_rfl);obtain⟨_,rfl⟩:=h16.out d16;obtain⟨KV,c91,SP⟩:=mS.out _ (lH.kA hB);refine ai rfl fun K HK=>?_;go_simp;exact HK.out _ _ fun _ k=>k e25 hB h0 h1 h2 h3 h4 h5 h6 h7 h8 h9 h10 h11 h12 bG bT dJ h16 (fun _=>⟨d16,rfl⟩) h18 h19 h20 h21 h22 (fun d=>by have e:=(h23.out d).2.1;rw[un]at e;cases e) fx
     ·have un:f18=false:=hun;obtain⟨_,rfl⟩:=h11.out (ah 11 hi (by kernel_rfl));refine ai rfl fun K HK=>?_;go_simp;exact HK.out _ _ fun _ k=>k e25 hB h0 h1 h2 h3 h4 h5 h6 h7 h8 h9 h10 h11 h12 bG bT dJ h16 eo hidR h19 (fun d=>by have e:=(h20.out d).1;rw[un]at e;cases e) h21 h22 h23 fx
     ·have un:f19=false:=hun;obtain⟨_,rfl⟩:=h11.out (ah 11 hi (by kernel_rfl));refine ai rfl fun K HK=>?_;go_simp;exact HK.out _ _ fun _ k=>k e25 hB h0 h1 h2 h3 h4 h5 h6 h7 h8 h9 h10 h11 h12 bG bT dJ h16 eo h18 hidR (fun d=>by have e:=(h20.out d).2.1;rw[un]at e;cases e) h21 h22 h23 fx
     ·have un:f20=false:=hun;obtain⟨_,rfl⟩:=h11.out (ah 11 hi (by kernel_rfl));have d18:f18=true:=ah 18 hi (by kernel_rfl);cases h18 d18;have d19:f19=true:=ah 19 hi (by kernel_rfl);cases h19 d19;have SN:=N7.out;refine ai rfl fun K HK=>?_;go_simp;exact HK.out _ _ fun _ k=>k e25 hB h0 h1 h2 h3 h4 h5 h6 h7 h8 h9 h10 h11 h12 bG bT dJ h16 eo h18 h19 (fun _=>⟨d18,d19,rfl⟩) (fun d=>by have e:=(h21.out d).1;rw[un]at e;cases e) h22 h23 fx
     ·have un:f21=false:=hun;obtain⟨_,rfl⟩:=h11.out (ah 11 hi (by kernel_rfl));have d20:f20=true:=ah 20 hi (by kernel_rfl);obtain⟨_,_,rfl⟩:=h20.out d20;refine ai rfl fun K HK=>?_;go_simp;exact HK.out _ _ fun _ k=>k e25 hB h0 h1 h2 h3 h4 h5 h6 h7 h8 h9 h10 h11 h12 bG bT dJ h16 eo h18 h19 h20 (fun _=>⟨d20,rfl⟩) (fun d=>by have e:=(h22.out d).1;rw[un]at e;cases e) h23 fx
     ·have un:f22=false:=hun;obtain⟨_,rfl⟩:=h11.out (ah 11 hi (by kernel_rfl));have d21:f21=true:=ah 21 hi (by kernel_rfl);obtain⟨_,rfl⟩:=h21.out d21;obtain⟨KV,c91,SP⟩:=mS.out _ (lH.kA hB);refine ai rfl fun K HK=>?_;go_simp;exact HK.out _ _ fun _ k=>k e25 hB h0 h1 h2 h3 h4 h5 h6 h7 h8 h9 h10 h11 h12 bG bT dJ h16 eo h18 h19 h20 h21 (fun _=>⟨d21,rfl⟩) (fun d=>by have e:=(h23.out d).2.2.1;rw[un]at e;cases e) fx
     ·have un:f23=false:=hun;obtain⟨_,rfl⟩:=h11.out (ah 11 hi (by kernel_rfl));have d12:f12=true:=ah 12 hi (by kernel_rfl);cases h12 d12;have d17:f17=true:=ah 17 hi (by kernel_rfl);obtain⟨_,rfl⟩:=eo.out d17;have d22:f22=true:=ah 22 hi (by kernel_rfl);obtain⟨_,rfl⟩:=h22.out d22;refine ai rfl fun K HK=>?_;go_simp;refine Calls.mono (Vt.out _ (hB.1 un)) ?_;rintro e u4 ⟨rfl,s4⟩;exact HK.out _ _ fun _ k=>k e25 ⟨(fun h=>by cases h),fun _=>s4⟩ h0 h1 h2 h3 h4 h5 h6 h7 h8 h9 h10 h11 h12 bG bT dJ h16 eo h18 h19 h20 h21 h22 (fun _=>⟨d12,d17,d22,rfl⟩) (fun d=>by have e:=(fx.out d).1;rw[un]at e;cases e)
     ·obtain⟨_,rfl⟩:=h11.out (ah 11 hi (by kernel_rfl));have d23:f23=true:=ah 23 hi (by kernel_rfl);obtain⟨u12,u17,u22,rfl⟩:=h23.out d23;refine ai rfl fun K HK=>?_;go_simp;exact HK.out _ _ fun _ k=>k e25 hB h0 h1 h2 h3 h4 h5 h6 h7 h8 h9 h10 h11 h12 bG bT dJ h16 eo h18 h19 h20 h21 h22 h23 (fun _=>⟨d23,rfl⟩)
    ·intro w' f0 f1 f2 f3 f4 f5 f6 f7 f8 f9 f10 f11 f12 f13 f14 f15 f16 f17 f18 f19 f20 f21 f22 f23 f24 f25 x29 x30 x31 x32 xZ x34 Kk Kl Ao x38 x39 x40 x41 Ku x43 Kv Kw Ky Fs Kz KH Vy Vz VC VD x54 e25 hB h0 h1 h2 h3 h4 h5 h6 h7 h8 h9 h10 h11 h12 bG bT dJ h16 eo h18 h19 h20 h21 h22 h23 fx hi;have d11:f11=true:=ah 11 hi (by kernel_rfl);obtain⟨_,rfl⟩:=h11.out d11;have d24:f24=true:=ah 24 hi (by kernel_rfl);obtain⟨_,rfl⟩:=fx.out d24;clear hi;refine ai rfl fun K HK=>?_;go_simp;refine HK.out _ _ ?_;have HS2:Hid (cI w.heap.size w d0 C (jq E fZ gf) (ii+1) [] w'):=hB.2 ((fx.out d24).1);have HE2:Hid ((jq E fZ gf).length<=ii+1):=by
      have h1:=Bn SL.out Dp.out;have h2:=HE.out;show _<=_;omega
     generalize jq E fZ gf=E2 at*;clear h0 h1 h2 h3 h4 h5 h6 h7 h8 h9 h10 h11 h12 bG bT dJ h16 eo h18 h19 h20 h21 h22 h23 fx hB HDR Vt;go_wp2
     go_roundg (l.length- (ii+1))
     case measure=>omega
     case rel=>exact⟨ii+1,E2,by go_num,by omega,Nat.le_refl _,HE2.out,HS2.out⟩
    ·intro _ _;intros;assumption
  ·have jV:¬(ii:Int)< (l.length:Int):=by omega
   have lI:Hid (E.length<=200):=by have h1:=HE.out;have h2:=HL.out;show _<=_;omega
   have Dp:Hid (Rg E):=HS.out.rg;have Fg:Hid (d0.room<=16384):=by show _<=_;rw[HR.out];omega
   have HK:Hid (ii<=200):=by have h2:=HL.out;show _<=_;omega
   have K1:Hid _:=fJ (fr:=⟨#[]⟩) (tt:=⟨#[]⟩) TT.out Fg.out C0.out (Nat.le_trans lI.out (by omega)) HS.out;rw[Kf]at K1;clear HS HE HA;unfold ptr at*
   go_wp2_with fail
   refine Calls.mono K1.out ?_;rintro e u1 ⟨kY,c1,rfl,g1⟩;have K2:Hid _:=sV TT.out Fg.out C0.out (Nat.le_trans lI.out (by omega)) g1;clear K1 g1;unfold ptr at*
   go_wp2_with fail
   refine Calls.mono K2.out ?_;rintro e u2 ⟨av,cv,V,rr,X,H,rfl,h9⟩;obtain⟨x,d1,P,s9,hd,Tm,M9,Wi,VE,_⟩:=h9;obtain⟨hV1,hV2⟩:=Vw Tm VE lI.out;have HV:Hid (V.length<=3*E.length+1):=hV1;have HVD:Hid (∀v∈V,0<=v.2.1∧v.2.1<=12∧v.2.1<=(E.length:Int)):=hV2;have S9:Hid (Sep w.heap.size w u2 (TL (C.dM rr) x d1 P (Dq (.slice av V.length cv) V::mX (.slice kY E.length c1) E::[]))):=s9;have H9:Hid (bh d0 d1∧Tx d0.room d0 x rr E X H∧Mn d0.room x X∧x.cnt<=1000*ii):=⟨hd,Tm,M9,Wi⟩;clear K2 s9 hd Tm M9 Wi VE hV1 hV2;have hw1:IntKind.i64.wrap (3*(E.length:Int))=3*(E.length:Int):=by rw[bA (by omega) (by have:=lI.out;omega)]
   have hw2:IntKind.i64.wrap (3*(E.length:Int)+1)=3*(E.length:Int)+1:=by rw[bA (by omega) (by have:=lI.out;omega)]
   have hcmp:¬(3*(E.length:Int)+1< (V.length:Int)):=by have:=HV.out;omega
   unfold ptr at*
   go_wp2_with fail
   clear hcmp hw1 hw2
   go_loopg [11] V.length (fun kx s11 wr2=>∃(j:Nat),s11=.int .i64 (j:Int)∧j<=V.length∧V.length-j<=kx∧Hid (Sep w.heap.size w wr2 (TL (C.dM rr) x d1 P (Dq (.slice av V.length cv) V::mX (.slice kY E.length c1) E::[]))))
   case atStart=>exact⟨0,rfl,Nat.zero_le _,Nat.le_refl _,S9.out⟩
   case round=>
    obtain⟨j,rfl,hj,V8,Ti⟩:=hrel;clear S9;by_cases hjl:j<V.length
    ·have YX:(j:Int)< (V.length:Int):=by omega
     obtain⟨v,hv⟩:∃v,V[j]? =some v:=⟨V[j],List.getElem?_eq_getElem hjl⟩;obtain⟨_,q1,q3⟩:=Vv hv;obtain⟨rq,cq,ev,_,hrq,hcell⟩:=Sep.gV (Sep.pk [_,_,_,_] Ti.out) (by omega);obtain rfl:av=some ⟨rq,0,none⟩:=by injection ev
     have y0:=hcell (j*6+1) (by omega);rw[q1]at y0;obtain⟨z1,z2,z3⟩:=HVD.out v (List.mem_of_getElem? hv);have aas:IntKind.i64.wrap ((j:Int)+1)=((j+1:Nat):Int):=by rw[bA (by omega) (by have:=HV.out;have:=lI.out;omega)];rfl
     have HJL:Hid (j<V.length):=hjl;clear hcell q1 q3 hv ev;generalize v.2.1=dep at*;have z4:¬(12:Int)<dep:=by omega
     have z5:¬(E.length:Int)<dep:=by omega
     clear z1 z2 z3;unfold ptr at*;go_wp2
     go_roundg (V.length- (j+1))
     case measure=>have:=HJL.out;omega
     case rel=>exact⟨j+1,by go_num,(by have:=HJL.out;omega),Nat.le_refl _,Ti.out⟩
    ·have YX:¬(j:Int)< (V.length:Int):=by omega
     have HT0:Hid (cI w.heap.size w d0 C (E.drop 0) (ii+0) (mX (.slice kY E.length c1) E::[]) _):=⟨rr,x,d1,P,X,H,Sep.drop (Sep.js Ti.out),H9.out⟩;clear Ti H9
     go_wp2_with fail
     go_loopg [12] E.length (fun kx s12 wr3=>∃(j:Nat),s12=.int .i64 (j:Int)∧j<=E.length∧E.length-j<=kx∧Hid (cI w.heap.size w d0 C (E.drop j) (ii+j) (mX (.slice kY E.length c1) E::[]) wr3))
     case atStart=>exact⟨0,rfl,Nat.zero_le _,Nat.le_refl _,HT0.out⟩
     case round=>
      obtain⟨j9,rfl,hj9,aat,HT⟩:=hrel;clear HT0;by_cases SS:j9<E.length
      ·have VF:(j9:Int)< (E.length:Int):=by omega
       obtain⟨dx,cap',e6,_,_,Vu⟩:=cI.row HT.out;cases e6;obtain⟨rb,ro,rfl,hrb,y0,_⟩:=N.cT Vu j9 SS (Below.refl _ _);have hdr:=N.iB SS;have hdl:=Ki (y:=E[j9]!) (E:=E.drop (j9+1)) (by rw[<-hdr];exact N8 j9 Dp.out);rw[<-hdr]at hdl;have KD:Hid _:=DA (key:=(E[j9]!).1) TT.out Fg.out C0.out (wS (by have:=lI.out;rw[List.length_drop];omega) (by rw[HR.out];omega)) (by have:=lI.out;rw[List.length_drop];omega) (by have:=lI.out;have:=HK.out;omega) HT.out;rw[hdl.1,hdl.2]at KD;have aau:IntKind.i64.wrap ((j9:Int)+1)=((j9+1:Nat):Int):=by rw[bA (by omega) (by have:=lI.out;omega)];rfl
       have VG:Hid (j9<E.length):=SS;clear hdr hdl Vu HT;generalize E[j9]! =y at*;unfold ptr at*
       go_wp2_with fail
       refine Calls.mono KD.out ?_;rintro e w7 ⟨rfl,h7⟩;have HT2:Hid (cI w.heap.size w d0 C (E.drop (j9+1)) (ii+(j9+1)) (mX (.slice (some ⟨rb,ro,none⟩) E.length c1) E::[]) w7):=h7;clear KD h7;go_wp2
       go_roundg (E.length- (j9+1))
       case measure=>have:=VG.out;omega
       case rel=>exact⟨j9+1,by go_num,(by have:=VG.out;omega),Nat.le_refl _,HT2.out⟩
      ·have VF:¬(j9:Int)< (E.length:Int):=by omega
       obtain rfl:j9=E.length:=by omega
       rw[List.drop_length]at HT;have K5:Hid _:=sV TT.out Fg.out C0.out (by simp) HT.out;clear HT;unfold ptr at*
       go_wp2_with fail
       refine Calls.mono K5.out ?_;rintro e w5 ⟨av9,cv9,V9,rr9,X9,H9,rfl,h9⟩;obtain⟨x9,d9,P9,s9,ND,Tm,M9,Wi,VE,_⟩:=h9;obtain⟨hl0,rfl⟩:=Vx Tm VE;have KR:Hid (Calls Tryz.prog 20 #[ptr C.tq] w5 fun e w'=>e=.returned (.int .i64 0)∧w5=w'):=by
        have h:=SR s9;rw[if_pos (show(C.dM 0).err=0 from C0.out)]at h;exact h
       have BE:Hid (Below w.heap.size w w5):=s9.kA;rw[hl0];clear K5 s9 ND Tm M9 Wi VE hl0;unfold ptr at*
       go_wp2_with fail
       refine Calls.mono KR.out ?_;rintro e w6 ⟨rfl,rfl⟩;clear KR;go_wp2;go_ret;exact⟨rfl,BE.out⟩
end Go.Proofs.YtceoeaemenhbhabGreatDoor.P
end
