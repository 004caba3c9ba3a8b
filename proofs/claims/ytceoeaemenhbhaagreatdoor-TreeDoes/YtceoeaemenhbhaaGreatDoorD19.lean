/- Walks of the package cowtree and of what it stands on: lemmas, made short. -/
import Derived.Test.YtceoeaemenhbhaaGreatDoorD18
import Derived.Test.YtceoeaemenhbhaaGreatDoorD13
import Derived.Deep.QuietTactic
import Derived.Deep.RegionHeld3
import Derived.BigQuiet
set_option maxHeartbeats 16000000
set_option maxRecDepth 100000
set_option linter.unusedVariables false
set_option linter.unusedSimpArgs false
namespace Go.Proofs.YtceoeaemenhbhaaGreatDoor
open Go.Shelf Go.RowKit Go.Lib Go.Sort
namespace P
open N (Nd En eH cH mi ju gT j8 Rg bf cx aT hidR ar aj Ch aM ah waits)
theorem Uu {E:List En}{key val:ByteArray}(h:cH key val=true)(hr:Rg E):(mi E key val).length<=E.length+1:=by
 have:=wS key val E;have e1:(La key val E).length=(mi E key val).length:=by unfold La;rw[if_pos (by rw[h,N.fo hr];rfl)]
 omega
theorem Au {E:List En}{key:ByteArray}:(ju E key).length<=E.length:=by
 have:=List.length_filter_le (fun x:En=>!decide (x.1=key)) E;exact this
theorem Kr {key val:ByteArray}(h:cH key val=false):eH key val=110:=by
 unfold eH;rw[h];rfl
def WR (B:Nat)(w0:World)(d0:Dk)(C:Cx)(ii nn cap r o:Nat)(K1:Act->World->Prop):Prop:=∀ {E2:List En} {iJ:Option Addr} {c2 q8:Nat} {w8:World} {y2 y9 rP nK nL y13 oV mz mE nM rQ rR y20 y21 y22 y23 y24 y25 tG y27 y28 y29 y38 y39 vR tJ tK tL yt yu yv yw yx yz vS vT vU vV vW vX AE El Em Eo Ep Es Ii Ij Ew Ex Ey Ez EA EB EC ED EF EG EI EJ H5 H7 H8 Mp Mq Mr Ms Mt Mu Mv Ia Ib Ic Et y90 y91 Eu y93 AG y95 y96 Np y98 y99 A4 y101 y102 A5 y104 A6 A7 A8 Jd Je Jf Jg y112 y113 y114 y115 A9 Ba Bb Bc Sx Sy SA SC SD SG SH SI SJ SK SL SP SQ SR SS SU SV SX SY Ta Tb Tc Td Te Tf Tg Th Ti Tj Tl y150 y151 y152 y153 Tm Tn Tp y157 y158 y159 y160 Tq Tr Ts Tt Tu Tv y167 y168 Tw Ty Tz TA TC TE TF TG TH TI TJ TK TM TN TP TQ TR TU TV TW TY TZ T5 T6 T7 T8 T9 Ua Ub Uc Ud Ue Uf Ug Uh Ui Uj Uk Ul Um Un Uo ZV ZW ZX ZY ZZ Z4 Z5 Z6 Z7 Z8 Z9 aaa aab aac aad aae aaf aag aah aai aaj aak aal aam aan aao:Value},E2.length<=ii+1->bY B w0 d0 C E2 (ii+1) (Bx (.slice iJ E2.length c2) E2::[]) w8->K1 {tmps:=#[.slice (some ⟨r,o,none⟩) nn cap,undef,y2,.bool true,.bool false,.pointer (some ⟨C.tq,0,none⟩),.slice iJ E2.length c2,.int .i64 (ii:Int),.pointer (some ⟨q8,0,none⟩),y9,rP,nK,nL,y13,oV,mz,mE,nM,rQ,rR,y20,y21,y22,y23,y24,y25,tG,y27,y28,y29,.bool true,.bool true,.bool false,.slice (some ⟨r,o,none⟩) nn cap,.bool false,.bool false,undef,.pointer (some ⟨C.tq,0,none⟩),y38,y39,vR,tJ,tK,tL,yt,yu,yv,yw,yx,yz,vS,vT,vU,vV,vW,vX,AE,El,Em,Eo,Ep,Es,Ii,Ij,Ew,Ex,Ey,Ez,EA,EB,EC,ED,EF,EG,EI,EJ,H5,H7,H8,Mp,Mq,Mr,Ms,Mt,Mu,Mv,Ia,Ib,Ic,Et,y90,y91,Eu,y93,AG,y95,y96,Np,y98,y99,A4,y101,y102,A5,y104,A6,A7,A8,Jd,Je,Jf,Jg,y112,y113,y114,y115,A9,Ba,Bb,Bc,Sx,Sy,SA,SC,SD,SG,SH,SI,SJ,SK,SL,SP,SQ,SR,SS,SU,SV,SX,SY,Ta,Tb,Tc,Td,Te,Tf,Tg,Th,Ti,Tj,Tl,y150,y151,y152,y153,Tm,Tn,Tp,y157,y158,y159,y160,Tq,Tr,Ts,Tt,Tu,Tv,y167,y168,Tw,Ty,Tz,TA,TC,TE,TF,TG,TH,TI,TJ,TK,TM,TN,TP,TQ,TR,TU,TV,TW,TY,TZ,T5,T6,T7,T8,T9,Ua,Ub,Uc,Ud,Ue,Uf,Ug,Uh,Ui,Uj,Uk,Ul,Um,Un,Uo,ZV,ZW,ZX,ZY,ZZ,Z4,Z5,Z6,Z7,Z8,Z9,aaa,aab,aac,aad,aae,aaf,aag,aah,aai,aaj,aak,aal,aam,aan,aao,undef],defers:=[]} w8
theorem treeDoes (lv:Value)(l:List Fj)(w:World)(TB:tV w)(hL:ActR13 w lv l):
  Calls Tryz.prog 3 #[lv] w fun e w'=>e=.returned (.bool true)∧Below w.heap.size w w':=by
 obtain⟨al,cap,rfl,_⟩:=id hL.row;have HA:Hid (ActR13 w (.slice al l.length cap) l):=hL;have TT:Hid (cB w.heap.size w):=LJ TB;have KW:Hid _:=Ow TT.out (Sep.nil (Nat.le_refl _) (Below.refl _ _));clear hL TB;go_enter Tryz.func3,Tryz.ntmps3
 go_wp2_with fail
 refine Calls.mono KW.out ?_;rintro e w1 ⟨rfl,s1⟩;have S1:Hid (Sep w.heap.size w w1 []):=s1;have KO:Hid _:=Rn (HA.out.below s1.PY (Nat.le_refl _));clear KW s1
 go_wp2_with fail
 refine Calls.mono KO.out ?_;rintro e w2 ⟨rfl,b2⟩;have S2:Hid (Sep w.heap.size w w2 []):=S1.out.below b2;clear KO S1 b2;by_cases hov:nS l=true
 ·rw[hov];go_wp2;go_ret;exact⟨rfl,S2.out.PY⟩
 have Ks:nS l=false:=by simpa using hov
 have HL:Hid (l.length<=200):=by
  unfold nS at Ks;rw[Bool.or_eq_false_iff]at Ks;have:=Ks.1;show _<=_;simpa using this
 rw[Ks];clear hov Ks;have KT:Hid _:=Ki (n:=600) (by omega) (by omega) S2.out;have HR:Hid ((Dk.new 600).room=600):=sS (by omega) (by omega);clear S2;generalize Dk.new 600=d0 at*;have UN:Hid (d0.room<=16384):=by show _<=_;rw[HR.out];omega
 go_wp2_with fail
 refine Calls.mono KT.out ?_;rintro e w3 ⟨C,rfl,hC,h3⟩;have C0:Hid (C.err=0):=hC;have S6:Hid (bY w.heap.size w d0 C [] 0 (Bx (.slice none 0 0) []::[]) w3):=bY.WQ h3;clear KT hC h3;unfold ptr at*;go_wp2
 go_loopg [6,7] l.length (fun kx s6 s7 wr=>∃(ii:Nat) (E:List En) (ao:Option Addr) (c:Nat),s6=.slice ao E.length c∧s7=.int .i64 (ii:Int)∧ii<=l.length∧l.length-ii<=kx∧Hid (E.length<=ii)∧Hid (bY w.heap.size w d0 C E ii (Bx (.slice ao E.length c) E::[]) wr))
 case atStart=>exact⟨0,[],none,0,rfl,rfl,Nat.zero_le _,Nat.le_refl _,Nat.le_refl _,S6.out⟩
 case round=>
  obtain⟨ii,E,ao,cc,rfl,rfl,hi,hix,HE,HS⟩:=hrel;clear S6;by_cases hlt:ii<l.length
  ·have oX:(ii:Int)< (l.length:Int):=by omega
   obtain⟨r,o,e1,hr,x0,x1,x2,z1,z2,z3⟩:=HA.out.at HS.out.sep.PY (Nat.le_refl _) hlt;subst e1;have UJ:IntKind.i64.wrap ((ii:Int)+1)=((ii+1:Nat):Int):=by rw[bA (by omega) (by have:=HL.out;omega)];rfl
   have tT:Hid (E.length<=200):=by have h1:=HE.out;have h2:=HL.out;show _<=_;omega
   have OM:Hid (Cap d0.room d0 E):=Ou tT.out (by rw[HR.out];omega);have JP:Hid (Rg E):=HS.out.rg;generalize l.getD ii iv=y at*;obtain⟨yk,eZ,kN⟩:=y;simp only at*;have S7:Hid (bY w.heap.size w d0 C E ii (aF wr.heap.size (.cells #[.int .i64 yk,.string eZ,.string kN] 29)::Bx (.slice ao E.length cc) E::[]) (wr.alloc (.cells #[.int .i64 yk,.string eZ,.string kN] 29))):=bY.blk HS.out _
   try unfold ptr at*
   go_upto_region 13 with fail
   rename_i K1 my K0 ak0
   have HK:Hid (WR w.heap.size w d0 C ii l.length cap r o K1):=by
    intro E2 iJ c2 q8 w8
    intros
    rename_i hE2 hS2
    have HE2:Hid (E2.length<=ii+1):=hE2;have wF:Hid (bY w.heap.size w d0 C E2 (ii+1) (Bx (.slice iJ E2.length c2) E2::[]) w8):=hS2;clear hE2 hS2 x0 x1 x2 hr S7 ak0;refine my _ _ ?_;have HE6:Hid (E2.length<=200):=by have h1:=HE2.out;have h2:=HL.out;show _<=_;omega
    have hw1:IntKind.i64.wrap ((ii:Int)+1)=(ii:Int)+1:=by rw[bA (by omega) (by have:=HL.out;omega)]
    try unfold ptr at*
    by_cases ht:ii%8≠0∧ii+1<l.length
    ·have ht1:(((ii:Int)%8)==0)=false:=beq_eq_false_iff_ne.2 (by omega);have ht3:¬((ii:Int)+1=(l.length:Int)):=by omega
     have ht4:¬ii+1=l.length:=by omega
     go_wp2
     go_roundg (l.length- (ii+1))
     case measure=>omega
     case rel=>exact⟨ii+1,E2,iJ,c2,rfl,by go_num,by omega,Nat.le_refl _,HE2.out,wF.out⟩
    have KWh:Hid _:=OJ TT.out UN.out C0.out (Nat.le_trans HE6.out (by omega)) wF.out;rcases Classical.em (ii%8=0)with h10|h10
    case' inl=>have ht1:(((ii:Int)%8)==0)=true:=beq_iff_eq.2 (by omega)
    case' inr=>
     have ht1:(((ii:Int)%8)==0)=false:=beq_eq_false_iff_ne.2 (by omega);have ht3:(((ii:Int)+1)==(l.length:Int))=true:=beq_iff_eq.2 (by omega)
    all_goals
     try unfold ptr at*
     go_wp2_with fail
     refine Calls.mono KWh.out ?_;rintro e w9 ⟨aw,cw,rfl,h9⟩;have KSm:Hid _:=N.xU _ _ E2 E2 w9 (bY.row h9) (bY.WO h9) (Nat.le_trans HE6.out (by omega)) (Nat.le_trans HE6.out (by omega));rw[decide_eq_true rfl]at KSm;have H9:Hid _:=h9;clear KWh h9 wF
     go_wp2_with fail
     refine Calls.mono KSm.out ?_;rintro e Uv ⟨rfl,b10⟩;have XE:Hid (bY w.heap.size w d0 C E2 (ii+1) (Bx (.slice iJ E2.length c2) E2::[]) Uv):=bY.drop (bY.below H9.out b10);have KEr:Hid _:=DM XE.out C0.out;clear KSm H9 b10
     try unfold ptr at*
     go_wp2_with fail
     refine Calls.mono KEr.out ?_;rintro e w11 ⟨rfl,rfl⟩;clear KEr;go_wp2
     go_roundg (l.length- (ii+1))
     case measure=>omega
     case rel=>exact⟨ii+1,E2,iJ,c2,rfl,by go_num,by omega,Nat.le_refl _,HE2.out,XE.out⟩
   clear my;have hk7:(Int.tmod yk 6=0∨Int.tmod yk 6=1)∨Int.tmod yk 6=2∨Int.tmod yk 6=3∨Int.tmod yk 6=4∨Int.tmod yk 6=5∨(Int.tmod yk 6≠0∧Int.tmod yk 6≠1∧Int.tmod yk 6≠2∧Int.tmod yk 6≠3∧Int.tmod yk 6≠4∧Int.tmod yk 6≠5):=by omega
   clear z1 z2 z3 HS;rcases hk7 with hk|hk|hk|hk|hk|hk
   case' inl=>
    rcases hk with hk|hk
    case' inl=>
     have k0:(Int.tmod yk 6==0)=true:=by rw[hk];rfl
     clear hk
    case' inr=>
     have k0:(Int.tmod yk 6==0)=false:=by rw[hk];rfl
     have k1:(Int.tmod yk 6==1)=true:=by rw[hk];rfl
     clear hk
    all_goals
     cases hm:cH eZ kN
     case' false=>
      have KN:Hid _:=Kg (key:=eZ) (val:=kN) C0.out (by rw[Kr hm];decide) S7.out;rw[Kr hm]at KN;have KM:Hid (∀u,_):=fun u=>N.pG eZ kN u;rw[hm]at KM;clear hm
      try unfold ptr at*
      go_wp2_with fail
      refine Calls.mono KN.out ?_;rintro e w8 ⟨rfl,h8⟩;have S8:Hid _:=h8;clear KN h8 x0 x1 x2 hr S7;generalize wr.heap.size=qa at*;obtain⟨Kt,y0,y1,y2⟩:=bY.c3 S8.out
      try unfold ptr at*
      go_wp2_with fail
      refine Calls.mono (KM.out _) ?_;rintro e w9 ⟨rfl,rfl⟩;have wF:Hid _:=bY.more (bY.drop S8.out);have HE2:Hid (E.length<=ii+1):=by have:=HE.out;show _<=_;omega
      clear KM y0 y1 y2 Kt S8 HE JP OM tT
      (try go_wp2_with fail)
      exact HK.out HE2.out wF.out
     case' true=>
      have KN:Hid _:=wX TT.out UN.out C0.out hm OM.out tT.out (by have:=HL.out;omega) S7.out;have KM:Hid (∀u,_):=fun u=>N.pG eZ kN u;rw[hm]at KM;have HE2:Hid ((mi E eZ kN).length<=ii+1):=by have h1:=Uu hm JP.out;have:=HE.out;show _<=_;omega
      clear hm
      try unfold ptr at*
      go_wp2_with fail
      refine Calls.mono KN.out ?_;rintro e w8 ⟨rfl,h8⟩;have S8:Hid _:=h8;clear KN h8 x0 x1 x2 hr S7;generalize wr.heap.size=qa at*;obtain⟨Kt,y0,y1,y2⟩:=bY.c3 S8.out
      try unfold ptr at*
      go_wp2_with fail
      refine Calls.mono (KM.out _) ?_;rintro e w9 ⟨rfl,rfl⟩;have KR:Hid _:=N.Kk _ E eZ kN w8 (bY.WO S8.out) (Nat.le_trans tT.out (by omega));clear KM
      go_wp2_with fail
      refine Calls.mono KR.out ?_;rintro e w8 ⟨v8,rfl,o8,b8⟩;obtain⟨iJ,c2,rfl,_⟩:=id o8;have wF:Hid _:=bY.only (bY.zG S8.out b8 o8);clear KR y0 y1 y2 Kt S8 HE JP OM tT o8 b8
      (try go_wp2_with fail)
      exact HK.out HE2.out wF.out
   case' inr.inl=>
    have k0:(Int.tmod yk 6==0)=false:=by rw[hk];rfl
    have k1:(Int.tmod yk 6==1)=false:=by rw[hk];rfl
    have k2:(Int.tmod yk 6==2)=true:=by rw[hk];rfl
    clear hk;have KN:Hid _:=DK (key:=eZ) TT.out UN.out C0.out OM.out tT.out (by have:=HL.out;omega) S7.out;have HE2:Hid ((ju E eZ).length<=ii+1):=by have h1:=Au (E:=E) (key:=eZ);have:=HE.out;show _<=_;omega
    try unfold ptr at*
    go_wp2_with fail
    refine Calls.mono KN.out ?_;rintro e w8 ⟨rfl,h8⟩;have S8:Hid _:=h8;clear KN h8 x0 x1 x2 hr S7;generalize wr.heap.size=qa at*;obtain⟨Kt,y0,y1,y2⟩:=bY.c3 S8.out;have KM:Hid _:=N.zC _ E eZ w8 (bY.WO S8.out) (Nat.le_trans tT.out (by omega));generalize j8 E eZ=gv at*;generalize gT E eZ=fd at*
    try unfold ptr at*
    go_wp2_with fail
    refine Calls.mono KM.out ?_;rintro e w9 ⟨rfl,rfl⟩;have KR:Hid _:=N.zD _ E eZ w8 (bY.WO S8.out) (Nat.le_trans tT.out (by omega));have hfd:(fd != fd)=false:=by cases fd<;>rfl
    clear KM
    go_wp2_with fail
    refine Calls.mono KR.out ?_;rintro e w9 ⟨v8,rfl,o8,b8⟩;obtain⟨iJ,c2,rfl,_⟩:=id o8;have wF:Hid _:=bY.only (bY.zG S8.out b8 o8);clear KR y0 y1 y2 Kt S8 HE JP OM tT o8 b8
    (try go_wp2_with fail)
    exact HK.out HE2.out wF.out
   case' inr.inr.inl=>
    have k0:(Int.tmod yk 6==0)=false:=by rw[hk];rfl
    have k1:(Int.tmod yk 6==1)=false:=by rw[hk];rfl
    have k2:(Int.tmod yk 6==2)=false:=by rw[hk];rfl
    have k3:(Int.tmod yk 6==3)=true:=by rw[hk];rfl
    clear hk;have KN:Hid _:=wY (key:=eZ) TT.out UN.out C0.out (Nat.le_trans tT.out (by omega)) S7.out
    try unfold ptr at*
    go_wp2_with fail
    refine Calls.mono KN.out ?_;rintro e w8 ⟨rfl,h8⟩;have S8:Hid _:=h8;clear KN h8 x0 x1 x2 hr S7;generalize wr.heap.size=qa at*;obtain⟨Kt,y0,y1,y2⟩:=bY.c3 S8.out;have KM:Hid _:=N.zC _ E eZ w8 (bY.WO S8.out) (Nat.le_trans tT.out (by omega));generalize j8 E eZ=gv at*;generalize gT E eZ=fd at*
    try unfold ptr at*
    go_wp2_with fail
    refine Calls.mono KM.out ?_;rintro e w9 ⟨rfl,rfl⟩;have hfd:(fd != fd)=false:=by cases fd<;>rfl
    have wF:Hid _:=bY.more (bY.drop S8.out);have HE2:Hid (E.length<=ii+1):=by have:=HE.out;show _<=_;omega
    clear KM y0 y1 y2 Kt S8 HE JP OM tT
    (try go_wp2_with fail)
    exact HK.out HE2.out wF.out
   case' inr.inr.inr.inl=>
    have k0:(Int.tmod yk 6==0)=false:=by rw[hk];rfl
    have k1:(Int.tmod yk 6==1)=false:=by rw[hk];rfl
    have k2:(Int.tmod yk 6==2)=false:=by rw[hk];rfl
    have k3:(Int.tmod yk 6==3)=false:=by rw[hk];rfl
    have k4:(Int.tmod yk 6==4)=true:=by rw[hk];rfl
    clear hk;have KN:Hid _:=zy (fr:=eZ) (tt:=kN) TT.out UN.out C0.out (Nat.le_trans tT.out (by omega)) S7.out
    try unfold ptr at*
    go_wp2_with fail
    refine Calls.mono KN.out ?_;rintro e w8 ⟨as9,cs9,rfl,h8⟩;have S8:Hid _:=h8;clear KN h8 x0 x1 x2 hr S7;generalize wr.heap.size=qa at*;obtain⟨Kt,y0,y1,y2⟩:=bY.c3 (bY.drop S8.out);have KM:Hid _:=N.uS _ E eZ kN w8 (bY.rw3 S8.out) (Nat.le_trans tT.out (by omega))
    try unfold ptr at*
    go_wp2_with fail
    refine Calls.mono KM.out ?_;rintro e w9 ⟨v9,rfl,o9,b9⟩;have S9:Hid _:=bY.below S8.out b9;have KQ:Hid _:=N.xU _ _ (fJ eZ kN E) (fJ eZ kN E) w9 (bY.row S9.out) (N.Own.row o9) (Nat.le_trans N.Kq (Nat.le_trans tT.out (by omega))) (Nat.le_trans N.Kq (Nat.le_trans tT.out (by omega)));rw[decide_eq_true rfl]at KQ;clear KM S8 b9 o9 y0 y1 y2 Kt
    go_wp2_with fail
    refine Calls.mono KQ.out ?_;rintro e w8 ⟨rfl,b8⟩;have wF:Hid _:=bY.more (bY.drop (bY.drop (bY.below S9.out b8)));have HE2:Hid (E.length<=ii+1):=by have:=HE.out;show _<=_;omega
    clear KQ S9 b8 HE JP OM tT
    (try go_wp2_with fail)
    exact HK.out HE2.out wF.out
   case' inr.inr.inr.inr.inl=>
    have k0:(Int.tmod yk 6==0)=false:=by rw[hk];rfl
    have k1:(Int.tmod yk 6==1)=false:=by rw[hk];rfl
    have k2:(Int.tmod yk 6==2)=false:=by rw[hk];rfl
    have k3:(Int.tmod yk 6==3)=false:=by rw[hk];rfl
    have k4:(Int.tmod yk 6==4)=false:=by rw[hk];rfl
    have k5:(Int.tmod yk 6==5)=true:=by rw[hk];rfl
    clear hk;have KN:Hid _:=zA (fr:=eZ) TT.out UN.out C0.out (Nat.le_trans tT.out (by omega)) S7.out
    try unfold ptr at*
    go_wp2_with fail
    refine Calls.mono KN.out ?_;rintro e w8 ⟨rfl,h8⟩;clear KN x0 x1 x2 hr S7;generalize wr.heap.size=qa at*;have S8:Hid _:=bY.blk h8 (.cells #[.string ((fJ eZ ⟨#[]⟩ E).head?.getD (⟨#[]⟩,⟨#[]⟩)).1,.string ((fJ eZ ⟨#[]⟩ E).head?.getD (⟨#[]⟩,⟨#[]⟩)).2] 45);obtain⟨Kt,y0,y1,y2⟩:=bY.c3 (bY.drop S8.out);have KM:Hid _:=N.uS _ E eZ ⟨#[]⟩ _ (bY.rw3 S8.out) (Nat.le_trans tT.out (by omega));clear h8
    try unfold ptr at*
    go_wp2_with fail
    refine Calls.mono KM.out ?_;rintro e w9 ⟨v9,rfl,o9,b9⟩;have S9:Hid _:=bY.below S8.out b9;obtain⟨a9,c9,rfl,_⟩:=id o9;have R9:=N.Own.row o9;have HE2:Hid (E.length<=ii+1):=by have:=HE.out;show _<=_;omega
    clear KM S8 b9 o9 y0 y1 y2 Kt;generalize fJ eZ ⟨#[]⟩ E=R at*;generalize w8.heap.size=q5 at*;obtain⟨_,y0,y1⟩:=bY.c2 S9.out;have HQ:Hid (∀m9,bY w.heap.size w d0 C E (ii+1) (Bx (.slice ao E.length cc) E::[]) (w9.drewN m9)):=fun m9=>bY.drewN (bY.more (bY.drop (bY.drop S9.out))) m9;clear S9;rcases R with _| ⟨y,ys⟩
    case' nil=>
     simp only[List.head?_nil,Option.getD_none,Option.isSome_none,List.length_nil]at*;clear R9
    case' cons=>
     simp only[List.head?_cons,Option.getD_some,Option.isSome_some]at*;obtain⟨cR,cap',e6,_,_,WL⟩:=R9;cases e6;obtain⟨rb,ro,rfl,hrb,x0,x1⟩:=N.cC WL 0 (by simp) (Below.refl _ _);simp only[Nat.zero_mul,Nat.add_zero,List.getElem!_cons_zero]at x0 x1;have hlen:(0:Int)< ((y::ys).length:Int):=by simp
     clear WL
    all_goals
     go_wp2_with fail
     go_quiet (fail)
     generalize hw8:w9.drewN _=w7 at*;have wF:Hid (bY w.heap.size w d0 C E (ii+1) (Bx (.slice ao E.length cc) E::[]) w7):=by rw[<-hw8];exact HQ.out _
     clear HQ hw8 y0 y1 HE JP OM tT
     (try go_wp2_with fail)
     exact HK.out HE2.out wF.out
   case' inr.inr.inr.inr.inr=>
    obtain⟨k0,k1,k2,k3,k4,k5⟩:=hk;have k0:(Int.tmod yk 6==0)=false:=beq_eq_false_iff_ne.2 k0;have k1:(Int.tmod yk 6==1)=false:=beq_eq_false_iff_ne.2 k1;have k2:(Int.tmod yk 6==2)=false:=beq_eq_false_iff_ne.2 k2;have k3:(Int.tmod yk 6==3)=false:=beq_eq_false_iff_ne.2 k3;have k4:(Int.tmod yk 6==4)=false:=beq_eq_false_iff_ne.2 k4;have k5:(Int.tmod yk 6==5)=false:=beq_eq_false_iff_ne.2 k5;have wF:Hid _:=bY.more (bY.drop S7.out);have HE2:Hid (E.length<=ii+1):=by have:=HE.out;show _<=_;omega
    clear HE JP OM tT
    go_wp2_with fail
    (try go_wp2_with fail)
    exact HK.out HE2.out wF.out
  ·have oX:¬(ii:Int)< (l.length:Int):=by omega
   go_wp2;go_ret;exact⟨rfl,(bY.sep HS.out).PY⟩
end P
end Go.Proofs.YtceoeaemenhbhaaGreatDoor
