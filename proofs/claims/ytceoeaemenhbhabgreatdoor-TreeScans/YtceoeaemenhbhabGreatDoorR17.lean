/- Walks of the package cowtree and of what it stands on: lemmas, made short. -/
import Derived.Test.YtceoeaemenhbhabGreatDoorR16
import Derived.Test.YtceoeaemenhbhabGreatDoorR13
import Derived.Deep.QuietTactic
import Derived.BigQuiet
set_option maxHeartbeats 16000000
set_option maxRecDepth 100000
set_option linter.unusedVariables false
set_option linter.unusedSimpArgs false
section
namespace Go.Proofs.YtceoeaemenhbhabGreatDoor.P
open Go.Shelf Go.RowKit Go.Lib Go.Sort
open N (Nd En eU cF jq lJ jo pE Rg bn cD aT hidR aj ai Ch aI ah waits)
theorem Bn {E:List En}{key val:ByteArray}(h:cF key val=true)(hr:Rg E):(jq E key val).length<=E.length+1:=by
 have:=qw key val E;have e1:(Fq key val E).length=(jq E key val).length:=by unfold Fq;rw[if_pos (by rw[h,N.fE hr];rfl)]
 omega
def lH (B:Nat)(w0:World)(d:Dk)(C:Cx)(E1 E2:List En)(k:Nat)(l:List aN)(f23:Bool)(w:World):Prop:=
 (f23=false->cI B w0 d C E1 k l w)∧(f23=true->cI B w0 d C E2 (k+1) l w)
theorem lH.kA {B:Nat}{w0 w:World}{d:Dk}{C:Cx}{E1 E2:List En}{k:Nat}{l:List aN}{f23:Bool}(h:lH B w0 d C E1 E2 k l f23 w):Below B w0 w:=by
 cases f23
 ·exact(h.1 rfl).sep.kA
 ·exact(h.2 rfl).sep.kA
def Yn (B:Nat)(w0:World)(dd:Dk)(CC:Cx)(E1 E2:List En)(kk:Nat)(LL:List aN)(r o nn cap jj:Nat)(key val:ByteArray){y1 y2 y3 y4 y5 y6 y7 y8 y9 nO y13 mq kC kD k7 rU rV y20 y21 y22 y23 y24 y25 rW y27 y28 y29 tH y31 y32 rX y34 oW oX rY y38 y39 tI tJ tK tL yc ye yf yg yh yi vQ vR vS vT vU tM yj Aq Me Mf H5 H7 H8 Eg y90 y91 Eh y93 yl y95 y96 I5 y98 y99 AV y101 y102 AW y104 AX AY AZ I6 I7 I8 Ja y112 y113 y114 y115 A2 A4 A5 A6 R8 Sg Sh Si Sk Sl Sn Sp Sq Sr Ss Su Sv Sw Sx Sy SA SC SD SG SH SI SJ SK Yo Yp Yq Yr Ys Yt y150 y151 y152 y153 Yu Yv Yw y157 y158 y159 y160 Yx Yy Yz YA YB YC y167 y168 YD YE YF YG YH YI YJ YK YL YM YN YO YP YQ YR YS YT:Value}(C:List Bool->Act->Prop)(w:World):Prop:=∀{f0 f1 f2 f3 f4 f5 f6 f7 f8 f9 f10 f11 f12 f13 f14 f15 f16 f17 f18 f19 f20 f21 f22 f23 f24 f25:Bool}{AO yG AP AQ uC pQ Ar ym x66 yn Au x69 Av yo Aw Kn Fl Ko zB zC zD oD x80 x81 x82 x83:Value},f25=false->lH B w0 dd CC E1 E2 kk LL f23 w->Hid (f0=true->AO=.slice (some ⟨r,o,none⟩) nn cap)->Hid (f1=true->yG=.int .i64 (jj:Int))->Hid (f2=true->f0=true∧f1=true∧AP=.pointer (some ⟨r,o+jj*3,none⟩))->Hid (f3=true->f2=true∧AQ=.pointer (some ⟨r,o+jj*3+1,none⟩))->Hid (f4=true->f3=true∧uC=.string key)->Hid (f5=true->pQ=.slice (some ⟨r,o,none⟩) nn cap)->Hid (f6=true->Ar=.int .i64 (jj:Int))->Hid (f7=true->f5=true∧f6=true∧ym=.pointer (some ⟨r,o+jj*3,none⟩))->Hid (f8=true->f7=true∧x66=.pointer (some ⟨r,o+jj*3+2,none⟩))->Hid (f9=true->f8=true∧yn=.string val)->Hid (f10=true->f4=true∧f9=true∧Au=.bool true)->Hid (f11=true->f10=true∧x69=.bool true)->Hid (f12=true->Av=ptr CC.tq)->Hid (f13=true->yo=.slice (some ⟨r,o,none⟩) nn cap)->Hid (f14=true->Aw=.int .i64 (jj:Int))->Hid (f15=true->f13=true∧f14=true∧Kn=.pointer (some ⟨r,o+jj*3,none⟩))->Hid (f16=true->f15=true∧Fl=.pointer (some ⟨r,o+jj*3+1,none⟩))->Hid (f17=true->f16=true∧Ko=.string key)->Hid (f18=true->zB=.slice (some ⟨r,o,none⟩) nn cap)->Hid (f19=true->zC=.int .i64 (jj:Int))->Hid (f20=true->f18=true∧f19=true∧zD=.pointer (some ⟨r,o+jj*3,none⟩))->Hid (f21=true->f20=true∧oD=.pointer (some ⟨r,o+jj*3+2,none⟩))->Hid (f22=true->f21=true∧x80=.string val)->Hid (f23=true->f12=true∧f17=true∧f22=true∧x81=.int .i64 0)->Hid (f24=true->f23=true∧x82=.bool false)->C [f0,f1,f2,f3,f4,f5,f6,f7,f8,f9,f10,f11,f12,f13,f14,f15,f16,f17,f18,f19,f20,f21,f22,f23,f24,f25] {tmps:=#[.slice (some ⟨r,o,none⟩) nn cap,y1,y2,y3,y4,y5,y6,y7,y8,y9,nO,ptr CC.tq,.int .i64 (jj:Int),y13,mq,kC,kD,k7,rU,rV,y20,y21,y22,y23,y24,y25,rW,y27,y28,y29,tH,y31,y32,rX,y34,oW,oX,rY,y38,y39,tI,tJ,tK,tL,yc,ye,yf,yg,yh,yi,vQ,vR,vS,vT,vU,tM,yj,Aq,AO,yG,AP,AQ,uC,pQ,Ar,ym,x66,yn,Au,x69,Av,yo,Aw,Kn,Fl,Ko,zB,zC,zD,oD,x80,x81,x82,x83,Me,Mf,H5,H7,H8,Eg,y90,y91,Eh,y93,yl,y95,y96,I5,y98,y99,AV,y101,y102,AW,y104,AX,AY,AZ,I6,I7,I8,Ja,y112,y113,y114,y115,A2,A4,A5,A6,R8,Sg,Sh,Si,Sk,Sl,Sn,Sp,Sq,Sr,Ss,Su,Sv,Sw,Sx,Sy,SA,SC,SD,SG,SH,SI,SJ,SK,Yo,Yp,Yq,Yr,Ys,Yt,y150,y151,y152,y153,Yu,Yv,Yw,y157,y158,y159,y160,Yx,Yy,Yz,YA,YB,YC,y167,y168,YD,YE,YF,YG,YH,YI,YJ,YK,YL,YM,YN,YO,YP,YQ,YR,YS,YT],defers:=[]}
theorem treeScans (lv:Value)(l:List CY)(fr mi tt:ByteArray)(w:World)(TB:tj w)(hL:ActR13 w lv l)(hf:fr.size<=maxLen)(hm:mi.size<=maxLen)(ht:tt.size<=maxLen):
  Calls Tryz.prog 3 #[lv,.string fr,.string mi,.string tt] w fun e w'=>e=.returned (.bool true)∧Below w.heap.size w w':=by
 obtain⟨al,cap,rfl,_⟩:=id hL.row;have HA:Hid (ActR13 w (.slice al l.length cap) l):=hL;have TT:Hid (bY w.heap.size w):=Bz TB;have KW:Hid _:=DC TT.out (Sep.nil (Nat.le_refl _) (Below.refl _ _));unfold maxLen at hf hm ht;clear hL TB;go_enter Tryz.func3,Tryz.ntmps3
 go_wp2_with fail
 refine Calls.mono KW.out ?_;rintro e w1 ⟨rfl,s1⟩;have S1:Hid (Sep w.heap.size w w1 []):=s1;have KO:Hid _:=Jk (HA.out.below s1.kA (Nat.le_refl _));clear KW s1
 go_wp2_with fail
 refine Calls.mono KO.out ?_;rintro e w2 ⟨rfl,b2⟩;have S2:Hid (Sep w.heap.size w w2 []):=S1.out.below b2;clear KO S1 b2;by_cases hov:kH l=true
 ·rw[hov];go_wp2;go_ret;exact⟨rfl,S2.out.kA⟩
 have sW:kH l=false:=by simpa using hov
 have HL:Hid (l.length<=200):=by
  unfold kH at sW;rw[Bool.or_eq_false_iff]at sW;have:=sW.1;show _<=_;simpa using this
 rw[sW];clear hov sW;by_cases b1:60<fr.size
 ·have b1z:(60:Int)< (fr.size:Int):=by omega
  go_wp2;go_ret;exact⟨rfl,S2.out.kA⟩
 have b1z:¬(60:Int)< (fr.size:Int):=by omega
 by_cases b2:60<mi.size
 ·have b2z:(60:Int)< (mi.size:Int):=by omega
  go_wp2;go_ret;exact⟨rfl,S2.out.kA⟩
 have b2z:¬(60:Int)< (mi.size:Int):=by omega
 by_cases b3:60<tt.size
 ·have b3z:(60:Int)< (tt.size:Int):=by omega
  go_wp2;go_ret;exact⟨rfl,S2.out.kA⟩
 have b3z:¬(60:Int)< (tt.size:Int):=by omega
 have KT:Hid _:=Bl (n:=600) (by omega) (by omega) S2.out;have HR:Hid ((Dk.new 600).room=600):=mR (by omega) (by omega);clear S2;generalize Dk.new 600=d0 at*
 go_wp2_with fail
 refine Calls.mono KT.out ?_;rintro e w3 ⟨C,rfl,hC,h3⟩;have C0:Hid (C.err=0):=hC;have S6:Hid (cI w.heap.size w d0 C [] 0 [] w3):=h3;clear KT hC h3;unfold ptr at*;go_wp2
 go_loopg [12] l.length (fun kx s12 wr=>∃(ii:Nat) (E:List En),s12=.int .i64 (ii:Int)∧ii<=l.length∧l.length-ii<=kx∧Hid (E.length<=ii)∧Hid (cI w.heap.size w d0 C E ii [] wr))
 case atStart=>exact⟨0,[],rfl,Nat.zero_le _,Nat.le_refl _,Nat.le_refl _,S6.out⟩
 case round=>
  obtain⟨ii,E,rfl,hi,hix,HE,HS⟩:=hrel;clear S6;by_cases hlt:ii<l.length
  ·have jV:(ii:Int)< (l.length:Int):=by omega
   have hcl:=HA.out.at HS.out.sep.kA (Nat.le_refl _) hlt;obtain⟨r,o,e1,hr,x0,x1,x2,z1,z2,z3⟩:=hcl;subst e1;have mS:Hid (∀u,Below w.heap.size w u->r<u.heap.size∧u.cell? ⟨r,o+ii*3+1,none⟩=some (.string (l.getD ii gU).key)∧u.cell? ⟨r,o+ii*3+2,none⟩=some (.string (l.getD ii gU).val)):=fun u hu=>by
    obtain⟨r',o',e',hr',_,y1,y2,_⟩:=HA.out.at hu (Nat.le_refl _) hlt;cases e';exact⟨hr',y1,y2⟩
   have UK:IntKind.i64.wrap ((ii:Int)+1)=((ii+1:Nat):Int):=by rw[bA (by omega) (by have:=HL.out;omega)];rfl
   have N7:Hid ((ii:Int)< (l.length:Int)):=jV;have YU:Hid (Cap d0.room d0 E):=wS (by have:=HE.out;have:=HL.out;omega) (by rw[HR.out];omega);have Dp:Hid (Rg E):=HS.out.rg;generalize l.getD ii gU=y at*;obtain⟨yk,fZ,gf⟩:=y;simp only at*;cases hm:cF fZ gf
   ·have Q1:Hid _:=N.BO fZ gf false hm wr;have HS2:Hid (cI w.heap.size w d0 C E (ii+1) [] wr):=by
     obtain⟨r1,x,d1,P,X,H,s,a1,a2,a3,a4⟩:=HS.out;exact⟨r1,x,d1,P,X,H,s,a1,a2,a3,by omega⟩
    have HE2:Hid (E.length<=ii+1):=by have h2:=HE.out;show _<=_;omega
    have HDR:Hid (∀m9,cI w.heap.size w d0 C E (ii+1) [] (wr.drewN m9)):=fun m9=>HS2.out.of fun _ _ _ _ s=>s.drewN m9;generalize E=E2 at*;clear HS HE hm
    go_wp2_with fail
    go_quiet ((go_at_call 9;with_reducible exact Q1.out _))
    clear Q1 HS2;generalize hw8:wr.drewN _=w8 at*;have HS2:Hid (cI w.heap.size w d0 C E2 (ii+1) [] w8):=by rw[<-hw8];exact HDR.out _
    clear HDR x0 x1 x2 hw8;go_wp2
    go_roundg (l.length- (ii+1))
    case measure=>omega
    case rel=>exact⟨ii+1,E2,by go_num,by omega,Nat.le_refl _,HE2.out,HS2.out⟩
   ·have SL:Hid (cF fZ gf=true):=hm;have Vt:Hid (∀u,cI w.heap.size w d0 C E ii [] u->Calls Tryz.prog 10 #[ptr C.tq,.string fZ,.string gf] u fun e w'=>e=.returned (.int .i64 0)∧cI w.heap.size w d0 C (jq E fZ gf) (ii+1) [] w'):=fun u hu=>qz TT.out (by rw[HR.out];omega) C0.out SL.out YU.out (by have:=HE.out;have:=HL.out;omega) (by have:=HL.out;omega) hu;have HDR:Hid (cI w.heap.size w d0 C E ii [] wr.drew):=HS.out.of fun _ _ _ _ s=>s.drew;clear HS hm;unfold ptr at*
    go_wp2_with fail
    clear x0 x1 x2;refine gW 25 (Yn w.heap.size w d0 C E (jq E fZ gf) ii [] r o l.length cap ii fZ gf) (by kernel_rfl) (by kernel_rfl) (fun _ k=>k rfl ⟨fun _=>HDR.out,(fun h=>by cases h)⟩ aj aj aj aj aj aj aj aj aj aj aj aj aj aj aj aj aj aj aj aj aj aj aj aj aj) ?_ ?_ ?_ ?_
    ·intro w' f0 f1 f2 f3 f4 f5 f6 f7 f8 f9 f10 f11 f12 f13 f14 f15 f16 f17 f18 f19 f20 f21 f22 f23 f24 f25 AO yG AP AQ uC pQ Ar ym x66 yn Au x69 Av yo Aw Kn Fl Ko zB zC zD oD x80 x81 x82 x83 e25 hB h0 h1 h2 h3 h4 h5 h6 h7 h8 h9 h10 h11 h12 bG bT dJ h16 eo h18 h19 h20 h21 h22 h23 fx hi;have d11:f11=true:=ah 11 hi (by kernel_rfl);have d24:f24=true:=ah 24 hi (by kernel_rfl);obtain⟨d23,_⟩:=fx.out d24;obtain⟨d12,d17,d22,_⟩:=h23.out d23;obtain⟨d21,_⟩:=h22.out d22;obtain⟨d20,_⟩:=h21.out d21;obtain⟨d18,d19,_⟩:=h20.out d20;obtain⟨d16,_⟩:=eo.out d17;obtain⟨d15,_⟩:=h16.out d16;obtain⟨d13,d14,_⟩:=dJ.out d15;obtain⟨d10,_⟩:=h11.out d11;obtain⟨d4,d9,_⟩:=h10.out d10;obtain⟨d8,_⟩:=h9.out d9;obtain⟨d7,_⟩:=h8.out d8;obtain⟨d5,d6,_⟩:=h7.out d7;obtain⟨d3,_⟩:=h4.out d4;obtain⟨d2,_⟩:=h3.out d3;obtain⟨d0,d1,_⟩:=h2.out d2;subst d0 d1 d2 d3 d4 d5 d6 d7 d8 d9 d10 d11 d12 d13 d14 d15 d16 d17 d18 d19 d20 d21 d22 d23 d24;rfl
    ·intro i w' hne f0 f1 f2 f3 f4 f5 f6 f7 f8 f9 f10 f11 f12 f13 f14 f15 f16 f17 f18 f19 f20 f21 f22 f23 f24 f25 AO yG AP AQ uC pQ Ar ym x66 yn Au x69 Av yo Aw Kn Fl Ko zB zC zD oD x80 x81 x82 x83 e25 hB h0 h1 h2 h3 h4 h5 h6 h7 h8 h9 h10 h11 h12 bG bT dJ h16 eo h18 h19 h20 h21 h22 h23 fx hi;obtain⟨hlt,hun,_⟩:=aI hi;have hlt':i<26:=hlt;clear hlt;rcases(by omega:i=0∨i=1∨i=2∨i=3∨i=4∨i=5∨i=6∨i=7∨i=8∨i=9∨i=10∨i=11∨i=12∨i=13∨i=14∨i=15∨i=16∨i=17∨i=18∨i=19∨i=20∨i=21∨i=22∨i=23∨i=24)with rfl|rfl|rfl|rfl|rfl|rfl|rfl|rfl|rfl|rfl|rfl|rfl|rfl|rfl|rfl|rfl|rfl|rfl|rfl|rfl|rfl|rfl|rfl|rfl|rfl
     ·have un:f0=false:=hun;refine ai rfl fun K HK=>?_;go_simp;exact HK.out _ _ fun _ k=>k e25 hB hidR h1 (fun d=>by have e:=(h2.out d).1;rw[un]at e;cases e) h3 h4 h5 h6 h7 h8 h9 h10 h11 h12 bG bT dJ h16 eo h18 h19 h20 h21 h22 h23 fx
     ·have un:f1=false:=hun;refine ai rfl fun K HK=>?_;go_simp;exact HK.out _ _ fun _ k=>k e25 hB h0 hidR (fun d=>by have e:=(h2.out d).2.1;rw[un]at e;cases e) h3 h4 h5 h6 h7 h8 h9 h10 h11 h12 bG bT dJ h16 eo h18 h19 h20 h21 h22 h23 fx
     ·have un:f2=false:=hun;have d0:f0=true:=ah 0 hi (by kernel_rfl);cases h0 d0;have d1:f1=true:=ah 1 hi (by kernel_rfl);cases h1 d1;have SN:=N7.out;refine ai rfl fun K HK=>?_;go_simp;exact HK.out _ _ fun _ k=>k e25 hB h0 h1 (fun _=>⟨d0,d1,rfl⟩) (fun d=>by have e:=(h3.out d).1;rw[un]at e;cases e) h4 h5 h6 h7 h8 h9 h10 h11 h12 bG bT dJ h16 eo h18 h19 h20 h21 h22 h23 fx
     ·have un:f3=false:=hun;have d2:f2=true:=ah 2 hi (by kernel_rfl);obtain⟨_,_,rfl⟩:=h2.out d2;refine ai rfl fun K HK=>?_;go_simp;exact HK.out _ _ fun _ k=>k e25 hB h0 h1 h2 (fun _=>⟨d2,rfl⟩) (fun d=>by have e:=(h4.out d).1;rw[un]at e;cases e) h5 h6 h7 h8 h9 h10 h11 h12 bG bT dJ h16 eo h18 h19 h20 h21 h22 h23 fx
     ·have un:f4=false:=hun;have d3:f3=true:=ah 3 hi (by kernel_rfl);obtain⟨_,rfl⟩:=h3.out d3;obtain⟨KV,c91,SP⟩:=mS.out _ (lH.kA hB);refine ai rfl fun K HK=>?_;go_simp;exact HK.out _ _ fun _ k=>k e25 hB h0 h1 h2 h3 (fun _=>⟨d3,rfl⟩) h5 h6 h7 h8 h9 (fun d=>by have e:=(h10.out d).1;rw[un]at e;cases e) h11 h12 bG bT dJ h16 eo h18 h19 h20 h21 h22 h23 fx
     ·have un:f5=false:=hun;refine ai rfl fun K HK=>?_;go_simp;exact HK.out _ _ fun _ k=>k e25 hB h0 h1 h2 h3 h4 hidR h6 (fun d=>by have e:=(h7.out d).1;rw[un]at e;cases e) h8 h9 h10 h11 h12 bG bT dJ h16 eo h18 h19 h20 h21 h22 h23 fx
     ·have un:f6=false:=hun;refine ai rfl fun K HK=>?_;go_simp;exact HK.out _ _ fun _ k=>k e25 hB h0 h1 h2 h3 h4 h5 hidR (fun d=>by have e:=(h7.out d).2.1;rw[un]at e;cases e) h8 h9 h10 h11 h12 bG bT dJ h16 eo h18 h19 h20 h21 h22 h23 fx
     ·have un:f7=false:=hun;have d5:f5=true:=ah 5 hi (by kernel_rfl);cases h5 d5;have d6:f6=true:=ah 6 hi (by kernel_rfl);cases h6 d6;have SN:=N7.out;refine ai rfl fun K HK=>?_;go_simp;exact HK.out _ _ fun _ k=>k e25 hB h0 h1 h2 h3 h4 h5 h6 (fun _=>⟨d5,d6,rfl⟩) (fun d=>by have e:=(h8.out d).1;rw[un]at e;cases e) h9 h10 h11 h12 bG bT dJ h16 eo h18 h19 h20 h21 h22 h23 fx
     ·have un:f8=false:=hun;have d7:f7=true:=ah 7 hi (by kernel_rfl);obtain⟨_,_,rfl⟩:=h7.out d7;refine ai rfl fun K HK=>?_;go_simp;exact HK.out _ _ fun _ k=>k e25 hB h0 h1 h2 h3 h4 h5 h6 h7 (fun _=>⟨d7,rfl⟩) (fun d=>by have e:=(h9.out d).1;rw[un]at e;cases e) h10 h11 h12 bG bT dJ h16 eo h18 h19 h20 h21 h22 h23 fx
     ·have un:f9=false:=hun;have d8:f8=true:=ah 8 hi (by kernel_rfl);obtain⟨_,rfl⟩:=h8.out d8;obtain⟨KV,c91,SP⟩:=mS.out _ (lH.kA hB);refine ai rfl fun K HK=>?_;go_simp;exact HK.out _ _ fun _ k=>k e25 hB h0 h1 h2 h3 h4 h5 h6 h7 h8 (fun _=>⟨d8,rfl⟩) (fun d=>by have e:=(h10.out d).2.1;rw[un]at e;cases e) h11 h12 bG bT dJ h16 eo h18 h19 h20 h21 h22 h23 fx
     ·have un:f10=false:=hun;have d4:f4=true:=ah 4 hi (by kernel_rfl);obtain⟨_,rfl⟩:=h4.out d4;have d9:f9=true:=ah 9 hi (by kernel_rfl);obtain⟨_,rfl⟩:=h9.out d9;refine ai rfl fun K HK=>?_;go_simp;refine Calls.mono (N.vE _ _ _) ?_;rintro e u4 ⟨rfl,rfl⟩;rw[SL.out];exact HK.out _ _ fun _ k=>k e25 hB h0 h1 h2 h3 h4 h5 h6 h7 h8 h9 (fun _=>⟨d4,d9,rfl⟩) (fun d=>by have e:=(h11.out d).1;rw[un]at e;cases e) h12 bG bT dJ h16 eo h18 h19 h20 h21 h22 h23 fx
     ·have d10:f10=true:=ah 10 hi (by kernel_rfl);obtain⟨u4,u9,rfl⟩:=h10.out d10;refine ai rfl fun K HK=>?_;go_simp;exact HK.out _ _ fun _ k=>k e25 hB h0 h1 h2 h3 h4 h5 h6 h7 h8 h9 h10 (fun _=>⟨d10,rfl⟩) h12 bG bT dJ h16 eo h18 h19 h20 h21 h22 h23 fx
     ·have un:f12=false:=hun;obtain⟨_,rfl⟩:=h11.out (ah 11 hi (by kernel_rfl));refine ai rfl fun K HK=>?_;go_simp;exact HK.out _ _ fun _ k=>k e25 hB h0 h1 h2 h3 h4 h5 h6 h7 h8 h9 h10 h11 hidR bG bT dJ h16 eo h18 h19 h20 h21 h22 (fun d=>by have e:=(h23.out d).1;rw[un]at e;cases e) fx
     ·have un:f13=false:=hun;obtain⟨_,rfl⟩:=h11.out (ah 11 hi (by kernel_rfl));refine ai rfl fun K HK=>?_;go_simp;exact HK.out _ _ fun _ k=>k e25 hB h0 h1 h2 h3 h4 h5 h6 h7 h8 h9 h10 h11 h12 hidR bT (fun d=>by have e:=(dJ.out d).1;rw[un]at e;cases e) h16 eo h18 h19 h20 h21 h22 h23 fx
     ·have un:f14=false:=hun;obtain⟨_,rfl⟩:=h11.out (ah 11 hi (by kernel_rfl));refine ai rfl fun K HK=>?_;go_simp;exact HK.out _ _ fun _ k=>k e25 hB h0 h1 h2 h3 h4 h5 h6 h7 h8 h9 h10 h11 h12 bG hidR (fun d=>by have e:=(dJ.out d).2.1;rw[un]at e;cases e) h16 eo h18 h19 h20 h21 h22 h23 fx
     ·have un:f15=false:=hun;obtain⟨_,rfl⟩:=h11.out (ah 11 hi (by kernel_rfl));have d13:f13=true:=ah 13 hi (by kernel_rfl);cases bG d13;have d14:f14=true:=ah 14 hi (by kernel_rfl);cases bT d14;have SN:=N7.out;refine ai rfl fun K HK=>?_;go_simp;exact HK.out _ _ fun _ k=>k e25 hB h0 h1 h2 h3 h4 h5 h6 h7 h8 h9 h10 h11 h12 bG bT (fun _=>⟨d13,d14,rfl⟩) (fun d=>by have e:=(h16.out d).1;rw[un]at e;cases e) eo h18 h19 h20 h21 h22 h23 fx
     ·have un:f16=false:=hun;obtain⟨_,rfl⟩:=h11.out (ah 11 hi (by kernel_rfl));have d15:f15=true:=ah 15 hi (by kernel_rfl);obtain⟨_,_,rfl⟩:=dJ.out d15;refine ai rfl fun K HK=>?_;go_simp;exact HK.out _ _ fun _ k=>k e25 hB h0 h1 h2 h3 h4 h5 h6 h7 h8 h9 h10 h11 h12 bG bT dJ (fun _=>⟨d15,rfl⟩) (fun d=>by have e:=(eo.out d).1;rw[un]at e;cases e) h18 h19 h20 h21 h22 h23 fx
     ·have un:f17=false:=hun;obtain⟨_,rfl⟩:=h11.out (ah 11 hi (by kernel_rfl));have d16:f16=true:=ah 16 hi (by kernel_rfl);obtain⟨_,rfl⟩:=h16.out d16;obtain⟨KV,c91,SP⟩:=mS.out _ (lH.kA hB);refine ai rfl fun K HK=>?_;go_simp;exact HK.out _ _ fun _ k=>k e25 hB h0 h1 h2 h3 h4 h5 h6 h7 h8 h9 h10 h11 h12 bG bT dJ h16 (fun _=>⟨d16,rfl⟩) h18 h19 h20 h21 h22 (fun d=>by have e:=(h23.out d).2.1;rw[un]at e;cases e) fx
     ·have un:f18=false:=hun;obtain⟨_,rfl⟩:=h11.out (ah 11 hi (by kernel_rfl));refine ai rfl fun K HK=>?_;go_simp;exact HK.out _ _ fun _ k=>k e25 hB h0 h1 h2 h3 h4 h5 h6 h7 h8 h9 h10 h11 h12 bG bT dJ h16 eo hidR h19 (fun d=>by have e:=(h20.out d).1;rw[un]at e;cases e) h21 h22 h23 fx
     ·have un:f19=false:=hun;obtain⟨_,rfl⟩:=h11.out (ah 11 hi (by kernel_rfl));refine ai rfl fun K HK=>?_;go_simp;exact HK.out _ _ fun _ k=>k e25 hB h0 h1 h2 h3 h4 h5 h6 h7 h8 h9 h10 h11 h12 bG bT dJ h16 eo h18 hidR (fun d=>by have e:=(h20.out d).2.1;rw[un]at e;cases e) h21 h22 h23 fx
     ·have un:f20=false:=hun;obtain⟨_,rfl⟩:=h11.out (ah 11 hi (by kernel_rfl));have d18:f18=true:=ah 18 hi (by kernel_rfl);cases h18 d18;have d19:f19=true:=ah 19 hi (by kernel_rfl);cases h19 d19;have SN:=N7.out;refine ai rfl fun K HK=>?_;go_simp;exact HK.out _ _ fun _ k=>k e25 hB h0 h1 h2 h3 h4 h5 h6 h7 h8 h9 h10 h11 h12 bG bT dJ h16 eo h18 h19 (fun _=>⟨d18,d19,rfl⟩) (fun d=>by have e:=(h21.out d).1;rw[un]at e;cases e) h22 h23 fx
     ·have un:f21=false:=hun;obtain⟨_,rfl⟩:=h11.out (ah 11 hi (by kernel_rfl));have d20:f20=true:=ah 20 hi (by kernel_rfl);obtain⟨_,_,rfl⟩:=h20.out d20;refine ai rfl fun K HK=>?_;go_simp;exact HK.out _ _ fun _ k=>k e25 hB h0 h1 h2 h3 h4 h5 h6 h7 h8 h9 h10 h11 h12 bG bT dJ h16 eo h18 h19 h20 (fun _=>⟨d20,rfl⟩) (fun d=>by have e:=(h22.out d).1;rw[un]at e;cases e) h23 fx
     ·have un:f22=false:=hun;obtain⟨_,rfl⟩:=h11.out (ah 11 hi (by kernel_rfl));have d21:f21=true:=ah 21 hi (by kernel_rfl);obtain⟨_,rfl⟩:=h21.out d21;obtain⟨KV,c91,SP⟩:=mS.out _ (lH.kA hB);refine ai rfl fun K HK=>?_;go_simp;exact HK.out _ _ fun _ k=>k e25 hB h0 h1 h2 h3 h4 h5 h6 h7 h8 h9 h10 h11 h12 bG bT dJ h16 eo h18 h19 h20 h21 (fun _=>⟨d21,rfl⟩) (fun d=>by have e:=(h23.out d).2.2.1;rw[un]at e;cases e) fx
     ·have un:f23=false:=hun;obtain⟨_,rfl⟩:=h11.out (ah 11 hi (by kernel_rfl));have d12:f12=true:=ah 12 hi (by kernel_rfl);cases h12 d12;have d17:f17=true:=ah 17 hi (by kernel_rfl);obtain⟨_,rfl⟩:=eo.out d17;have d22:f22=true:=ah 22 hi (by kernel_rfl);obtain⟨_,rfl⟩:=h22.out d22;refine ai rfl fun K HK=>?_;go_simp;refine Calls.mono (Vt.out _ (hB.1 un)) ?_;rintro e u4 ⟨rfl,s4⟩;exact HK.out _ _ fun _ k=>k e25 ⟨(fun h=>by cases h),fun _=>s4⟩ h0 h1 h2 h3 h4 h5 h6 h7 h8 h9 h10 h11 h12 bG bT dJ h16 eo h18 h19 h20 h21 h22 (fun _=>⟨d12,d17,d22,rfl⟩) (fun d=>by have e:=(fx.out d).1;rw[un]at e;cases e)
     ·obtain⟨_,rfl⟩:=h11.out (ah 11 hi (by kernel_rfl));have d23:f23=true:=ah 23 hi (by kernel_rfl);obtain⟨u12,u17,u22,rfl⟩:=h23.out d23;refine ai rfl fun K HK=>?_;go_simp;exact HK.out _ _ fun _ k=>k e25 hB h0 h1 h2 h3 h4 h5 h6 h7 h8 h9 h10 h11 h12 bG bT dJ h16 eo h18 h19 h20 h21 h22 h23 (fun _=>⟨d23,rfl⟩)
    ·intro w' f0 f1 f2 f3 f4 f5 f6 f7 f8 f9 f10 f11 f12 f13 f14 f15 f16 f17 f18 f19 f20 f21 f22 f23 f24 f25 AO yG AP AQ uC pQ Ar ym x66 yn Au x69 Av yo Aw Kn Fl Ko zB zC zD oD x80 x81 x82 x83 e25 hB h0 h1 h2 h3 h4 h5 h6 h7 h8 h9 h10 h11 h12 bG bT dJ h16 eo h18 h19 h20 h21 h22 h23 fx hi;have d11:f11=true:=ah 11 hi (by kernel_rfl);obtain⟨_,rfl⟩:=h11.out d11;have d24:f24=true:=ah 24 hi (by kernel_rfl);obtain⟨_,rfl⟩:=fx.out d24;clear hi;refine ai rfl fun K HK=>?_;go_simp;refine HK.out _ _ ?_;have HS2:Hid (cI w.heap.size w d0 C (jq E fZ gf) (ii+1) [] w'):=hB.2 ((fx.out d24).1);have HE2:Hid ((jq E fZ gf).length<=ii+1):=by
      have h1:=Bn SL.out Dp.out;have h2:=HE.out;show _<=_;omega
     generalize jq E fZ gf=E2 at*;clear h0 h1 h2 h3 h4 h5 h6 h7 h8 h9 h10 h11 h12 bG bT dJ h16 eo h18 h19 h20 h21 h22 h23 fx hB HDR Vt;go_wp2
     go_roundg (l.length- (ii+1))
     case measure=>omega
     case rel=>exact⟨ii+1,E2,by go_num,by omega,Nat.le_refl _,HE2.out,HS2.out⟩
    ·intro _ _;intros;assumption
  ·have jV:¬(ii:Int)< (l.length:Int):=by omega
   have lI:Hid (E.length<=200):=by have h1:=HE.out;have h2:=HL.out;show _<=_;omega
   have Dp:Hid (Rg E):=HS.out.rg;have Fg:Hid (d0.room<=16384):=by show _<=_;rw[HR.out];omega
   have K1:Hid _:=fJ (fr:=⟨#[]⟩) (tt:=⟨#[]⟩) TT.out Fg.out C0.out (Nat.le_trans lI.out (by omega)) HS.out;rw[Kf]at K1;clear HS HE HA;unfold ptr at*
   go_wp2_with fail
   refine Calls.mono K1.out ?_;rintro e u1 ⟨kY,c1,rfl,g1⟩;have K2:Hid _:=fJ (fr:=fr) (tt:=tt) TT.out Fg.out C0.out (Nat.le_trans lI.out (by omega)) g1;clear K1 g1;unfold ptr at*
   go_wp2_with fail
   refine Calls.mono K2.out ?_;rintro e u2 ⟨kL,c2,rfl,g2⟩;have K3:Hid _:=N.Ff _ E fr tt u2 (cI.RQ g2) (Nat.le_trans lI.out (by omega));have G2:Hid _:=g2;clear K2 g2;unfold ptr at*
   go_wp2_with fail
   refine Calls.mono K3.out ?_;rintro e u3 ⟨v3,rfl,o3,b3⟩;have G3:Hid _:=cI.below G2.out b3;have K4:Hid _:=N.rL _ _ (dR fr tt E) (dR fr tt E) u3 (cI.row G3.out) (N.Own.row o3) (Nat.le_trans N.lG (Nat.le_trans lI.out (by omega))) (Nat.le_trans N.lG (Nat.le_trans lI.out (by omega)));rw[decide_eq_true rfl]at K4;clear K3 G2 o3 b3;unfold ptr at*
   go_wp2_with fail
   refine Calls.mono K4.out ?_;rintro e u4 ⟨rfl,b4⟩;have G4:Hid _:=cI.drop (cI.below G3.out b4);have K5:Hid _:=zl (fr:=fr) TT.out Fg.out C0.out (Nat.le_trans lI.out (by omega)) G4.out;clear K4 G3 b4;unfold ptr at*
   go_wp2_with fail
   refine Calls.mono K5.out ?_;rintro e u5 ⟨rfl,g5⟩;have G5:Hid _:=cI.blk g5 (.cells #[.string ((dR fr ⟨#[]⟩ E).head?.getD (⟨#[]⟩,⟨#[]⟩)).1,.string ((dR fr ⟨#[]⟩ E).head?.getD (⟨#[]⟩,⟨#[]⟩)).2] 38);have K6:Hid _:=fJ (fr:=fr) (tt:=⟨#[]⟩) TT.out Fg.out C0.out (Nat.le_trans lI.out (by omega)) G5.out;clear K5 g5 G5 G4;unfold ptr at*
   go_wp2_with fail
   refine Calls.mono K6.out ?_;rintro e u6 ⟨ao6,c6,rfl,g6⟩;clear K6;have HRL:Hid ((dR fr ⟨#[]⟩ E).length<=200):=Nat.le_trans N.lG lI.out;generalize dR fr ⟨#[]⟩ E=R at*;generalize u5.heap.size=q5 at*;have R6:=cI.row g6;have G6:Hid _:=g6;clear g6;have G7:Hid (∀m9,cI w.heap.size w d0 C E ii (mX (.slice ao6 R.length c6) R::ax q5 (.cells #[.string (R.head?.getD (⟨#[]⟩,⟨#[]⟩)).1,.string (R.head?.getD (⟨#[]⟩,⟨#[]⟩)).2] 38)::mX (.slice kY E.length c1) E::[]) (u6.drewN m9)):=fun m9=>cI.of G6.out fun _ _ _ _ s=>s.drewN m9;rcases R with _| ⟨y,ys⟩
   ·simp only[List.head?_nil,Option.getD_none,Option.isSome_none,List.length_nil]at*;clear R6 G6
    go_wp2_with fail
    go_quiet (fail)
    generalize hw8:u6.drewN _=u7 at*;have G8:Hid (cI w.heap.size w d0 C E ii (mX (.slice kY E.length c1) E::[]) u7):=by rw[<-hw8];exact cI.drop (cI.drop (G7.out _))
    clear G7 hw8;by_cases hm0:mi=⟨#[]⟩
    ·subst hm0;go_wp2;go_ret;exact⟨rfl,(cI.sep G8.out).kA⟩
    have he:mi.toList≠[]:=fun e=>hm0 (N.gq (e.trans (by simp)));have he2:mi.toList.isEmpty=false:=by simpa using he
    have H2:Hid (dR ⟨#[]⟩ mi E++dR mi ⟨#[]⟩ E=E):=Kg Dp.out hm0;have K8:Hid _:=fJ (fr:=⟨#[]⟩) (tt:=mi) TT.out Fg.out C0.out (Nat.le_trans lI.out (by omega)) G8.out;have Qt:Hid ((dR ⟨#[]⟩ mi E).length<=200∧(dR mi ⟨#[]⟩ E).length<=200):=⟨Nat.le_trans N.lG lI.out,Nat.le_trans N.lG lI.out⟩;clear hm0;unfold ptr at*
    go_wp2_with fail
    refine Calls.mono K8.out ?_;rintro e u8 ⟨YV,c8,rfl,g8⟩;have K9:Hid _:=fJ (fr:=mi) (tt:=⟨#[]⟩) TT.out Fg.out C0.out (Nat.le_trans lI.out (by omega)) g8;clear K8 g8 G8;unfold ptr at*
    go_wp2_with fail
    refine Calls.mono K9.out ?_;rintro e u9 ⟨YW,c9,rfl,g9⟩;clear K9;generalize dR ⟨#[]⟩ mi E=LO at*;generalize dR mi ⟨#[]⟩ E=HI at*;have G9:Hid _:=g9;have OA:Aside (N.dI u9.heap.size u9 (.slice none 0 0) []):=N.dI.empty _ _ _;have RL:Hid (N.Row N.ar 2 u9 (.slice YV LO.length c8) LO):=cI.RQ g9;have BW:Hid (Below w.heap.size w u9):=(cI.sep g9).kA;clear g9
    go_wp2_with (at_builtin;refine N.mf rfl _ _ rfl u9.heap.size _ [] rfl OA.out _ LO rfl RL.out (by have:=Qt.out;simp;omega) (Nat.le_refl _) LO rfl ?_)
    intro a3 n3 c3 w3 O3 B3;have B5:Hid (Below u9.heap.size u9 w3):=B3 _ (Below.refl _ _);have O5:Aside (N.dI u9.heap.size w3 (.slice a3 n3 c3) LO):=O3;have RH:Hid (N.Row N.ar 2 w3 (.slice YW HI.length c9) HI):=cI.row (cI.below G9.out B5.out);have hsz:=B5.out.size;clear O3 B3 OA RL
    go_wp2_with (at_builtin;refine N.mf rfl _ _ rfl u9.heap.size _ LO rfl O5.out _ HI rfl RH.out (by have:=Qt.out;omega) hsz E H2.out ?_)
    intro a4 n4 c4 w4 O4 B4;have B6:Hid (Below u9.heap.size u9 w4):=B4 _ B5.out;have SQ:Hid _:=cI.below G9.out B6.out;have KS:Hid _:=N.rL _ _ E E w4 (N.Own.row (N.dI.own O4)) (cI.Vr SQ.out) (Nat.le_trans lI.out (by omega)) (Nat.le_trans lI.out (by omega));rw[decide_eq_true rfl]at KS;clear O4 B4 O5 B5 RH G9 B6
    go_wp2_with fail
    refine Calls.mono KS.out ?_;rintro e w5 ⟨rfl,b5⟩;have BE:Hid (Below w.heap.size w w5):=(cI.sep (cI.below SQ.out b5)).kA;clear KS b5 SQ;go_wp2;go_ret;exact⟨rfl,BE.out⟩
   ·simp only[List.head?_cons,Option.getD_some,Option.isSome_some]at*;obtain⟨dx,cap',e6,_,_,Vu⟩:=R6;cases e6;obtain⟨rb,ro,rfl,hrb,x0,x1⟩:=N.cT Vu 0 (by simp) (Below.refl _ _);simp only[Nat.zero_mul,Nat.add_zero,List.getElem!_cons_zero]at x0 x1;obtain⟨r9,x9,d9,P9,X9,H9,s9,_⟩:=G6.out;obtain⟨WR,⟨y0,y1⟩,_⟩:=Sep.c2 (Sep.cQ s9);have hlen:(0:Int)< ((y::ys).length:Int):=by simp
    clear s9 G6 Vu
    go_wp2_with fail
    go_quiet (fail)
    generalize hw8:u6.drewN _=u7 at*;have G8:Hid (cI w.heap.size w d0 C E ii (mX (.slice kY E.length c1) E::[]) u7):=by rw[<-hw8];exact cI.drop (cI.drop (G7.out _))
    clear G7 hw8;by_cases hm0:mi=⟨#[]⟩
    ·subst hm0;go_wp2;go_ret;exact⟨rfl,(cI.sep G8.out).kA⟩
    have he:mi.toList≠[]:=fun e=>hm0 (N.gq (e.trans (by simp)));have he2:mi.toList.isEmpty=false:=by simpa using he
    have H2:Hid (dR ⟨#[]⟩ mi E++dR mi ⟨#[]⟩ E=E):=Kg Dp.out hm0;have K8:Hid _:=fJ (fr:=⟨#[]⟩) (tt:=mi) TT.out Fg.out C0.out (Nat.le_trans lI.out (by omega)) G8.out;have Qt:Hid ((dR ⟨#[]⟩ mi E).length<=200∧(dR mi ⟨#[]⟩ E).length<=200):=⟨Nat.le_trans N.lG lI.out,Nat.le_trans N.lG lI.out⟩;clear hm0;unfold ptr at*
    go_wp2_with fail
    refine Calls.mono K8.out ?_;rintro e u8 ⟨YV,c8,rfl,g8⟩;have K9:Hid _:=fJ (fr:=mi) (tt:=⟨#[]⟩) TT.out Fg.out C0.out (Nat.le_trans lI.out (by omega)) g8;clear K8 g8 G8;unfold ptr at*
    go_wp2_with fail
    refine Calls.mono K9.out ?_;rintro e u9 ⟨YW,c9,rfl,g9⟩;clear K9;generalize dR ⟨#[]⟩ mi E=LO at*;generalize dR mi ⟨#[]⟩ E=HI at*;have G9:Hid _:=g9;have OA:Aside (N.dI u9.heap.size u9 (.slice none 0 0) []):=N.dI.empty _ _ _;have RL:Hid (N.Row N.ar 2 u9 (.slice YV LO.length c8) LO):=cI.RQ g9;have BW:Hid (Below w.heap.size w u9):=(cI.sep g9).kA;clear g9
    go_wp2_with (at_builtin;refine N.mf rfl _ _ rfl u9.heap.size _ [] rfl OA.out _ LO rfl RL.out (by have:=Qt.out;simp;omega) (Nat.le_refl _) LO rfl ?_)
    intro a3 n3 c3 w3 O3 B3;have B5:Hid (Below u9.heap.size u9 w3):=B3 _ (Below.refl _ _);have O5:Aside (N.dI u9.heap.size w3 (.slice a3 n3 c3) LO):=O3;have RH:Hid (N.Row N.ar 2 w3 (.slice YW HI.length c9) HI):=cI.row (cI.below G9.out B5.out);have hsz:=B5.out.size;clear O3 B3 OA RL
    go_wp2_with (at_builtin;refine N.mf rfl _ _ rfl u9.heap.size _ LO rfl O5.out _ HI rfl RH.out (by have:=Qt.out;omega) hsz E H2.out ?_)
    intro a4 n4 c4 w4 O4 B4;have B6:Hid (Below u9.heap.size u9 w4):=B4 _ B5.out;have SQ:Hid _:=cI.below G9.out B6.out;have KS:Hid _:=N.rL _ _ E E w4 (N.Own.row (N.dI.own O4)) (cI.Vr SQ.out) (Nat.le_trans lI.out (by omega)) (Nat.le_trans lI.out (by omega));rw[decide_eq_true rfl]at KS;clear O4 B4 O5 B5 RH G9 B6
    go_wp2_with fail
    refine Calls.mono KS.out ?_;rintro e w5 ⟨rfl,b5⟩;have BE:Hid (Below w.heap.size w w5):=(cI.sep (cI.below SQ.out b5)).kA;clear KS b5 SQ;go_wp2;go_ret;exact⟨rfl,BE.out⟩
end Go.Proofs.YtceoeaemenhbhabGreatDoor.P
end
