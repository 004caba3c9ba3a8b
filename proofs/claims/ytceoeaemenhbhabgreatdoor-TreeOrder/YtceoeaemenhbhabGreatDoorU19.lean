/- Walks of the package cowtree and of what it stands on: lemmas, made short. -/
import Derived.Test.YtceoeaemenhbhabGreatDoorU18
import Derived.Test.YtceoeaemenhbhabGreatDoorU13
import Derived.Deep.QuietTactic
import Derived.Deep.RegionHeld3
import Derived.BigQuiet
set_option maxHeartbeats 16000000
set_option maxRecDepth 100000
set_option linter.unusedVariables false
set_option linter.unusedSimpArgs false
namespace Go.Proofs.YtceoeaemenhbhabGreatDoor
open Go.Shelf Go.RowKit Go.Lib Go.Sort
namespace P
open N (Nd En eK cF gp ie fY kJ Rg bh cA aT hidR ar aj Ch aM ah waits)
theorem Ti {E:List En}{key val:ByteArray}(h:cF key val=true)(hr:Rg E):(gp E key val).length<=E.length+1:=by
 have:=wP key val E;have e1:(Lf key val E).length=(gp E key val).length:=by unfold Lf;rw[if_pos (by rw[h,N.fk hr];rfl)]
 omega
theorem KH {w:World}{ao:Option Addr}{cc:Nat}{M:List En}(h:N.Row N.aG 2 w (.slice ao M.length cc) M){i:Nat}(hi:i<M.length):∃rb ro,ao=some ⟨rb,ro,none⟩∧rb<w.heap.size:=by
 obtain⟨cW,cap',e6,_,_,TI⟩:=h;cases e6;obtain⟨rb',ro',e,hb,_⟩:=N.cC TI i hi (Below.refl _ _);exact⟨rb',ro',e,hb⟩
theorem sW {w:World}{rb ro:Nat}{cc:Nat}{M:List En}(h:N.Row N.aG 2 w (.slice (some ⟨rb,ro,none⟩) M.length cc) M){i:Nat}(hi:i<M.length):w.cell? ⟨rb,ro+i*2,none⟩=some (.string M[i]!.1)∧w.cell? ⟨rb,ro+i*2+1,none⟩=some (.string M[i]!.2):=by
 obtain⟨cW,cap',e6,_,_,TI⟩:=h;cases e6;obtain⟨rb',ro',e,_,y0,y1⟩:=N.cC TI i hi (Below.refl _ _);cases e;exact⟨y0,y1⟩
theorem treeOrder (lv:Value)(l:List EN)(w:World)(TB:tX w)(hL:ActR13 w lv l):
  Calls Tryz.prog 4 #[lv] w fun e w'=>e=.returned (.bool true)∧Below w.heap.size w w':=by
 obtain⟨al,cap,rfl,_⟩:=id hL.row;have HA:Hid (ActR13 w (.slice al l.length cap) l):=hL;have TT:Hid (cd w.heap.size w):=LR TB;have KW:Hid _:=OE TT.out (Sep.nil (Nat.le_refl _) (Below.refl _ _));clear hL TB;go_enter Tryz.func4,Tryz.ntmps4
 go_wp2_with fail
 refine Calls.mono KW.out ?_;rintro e w1 ⟨rfl,s1⟩;have S1:Hid (Sep w.heap.size w w1 []):=s1;have KO:Hid _:=R8 (HA.out.below s1.F4 (Nat.le_refl _));clear KW s1
 go_wp2_with fail
 refine Calls.mono KO.out ?_;rintro e w2 ⟨rfl,b2⟩;have S2:Hid (Sep w.heap.size w w2 []):=S1.out.below b2;clear KO S1 b2;by_cases hov:nS l=true
 ·rw[hov];go_wp2;go_ret;exact⟨rfl,S2.out.F4⟩
 have KN:nS l=false:=by simpa using hov
 have HL:Hid (l.length<=200):=by
  unfold nS at KN;rw[Bool.or_eq_false_iff]at KN;have:=KN.1;show _<=_;simpa using this
 rw[KN];clear hov KN;have S3:Hid (Sep w.heap.size w w2 (lU (.slice none 0 0) []::[])):=Sep.PR S2.out (Below.refl _ _) N.Own.nil;clear S2;go_wp2
 go_loopg [5,6] l.length (fun kx s5 s6 wr=>∃(ii:Nat) (M:List En) (ao:Option Addr) (c:Nat),s5=.slice ao M.length c∧s6=.int .i64 (ii:Int)∧ii<=l.length∧l.length-ii<=kx∧Hid (M.length<=ii∧Rg M)∧Hid (Sep w.heap.size w wr (lU (.slice ao M.length c) M::[])))
 case atStart=>exact⟨0,[],none,0,rfl,rfl,Nat.zero_le _,Nat.le_refl _,⟨Nat.le_refl _,Rg.nil⟩,S3.out⟩
 case round=>
  obtain⟨ii,M,ao,cc,rfl,rfl,hi,hix,HM,HS⟩:=hrel;clear S3;by_cases hlt:ii<l.length
  ·have o0:(ii:Int)< (l.length:Int):=by omega
   obtain⟨r,o,e1,hr,x0,x1,x2,z1,z2,z3⟩:=HA.out.at HS.out.F4 (Nat.le_refl _) hlt;subst e1;have DC:Hid (∀u,Below w.heap.size w u->r<u.heap.size∧u.cell? ⟨r,o+ii*3+1,none⟩=some (.string (l.getD ii ij).key)∧u.cell? ⟨r,o+ii*3+2,none⟩=some (.string (l.getD ii ij).val)):=fun u hu=>by
    obtain⟨r',o',e',hr',_,y1,y2,_⟩:=HA.out.at hu (Nat.le_refl _) hlt;cases e';exact⟨hr',y1,y2⟩
   have NT:IntKind.i64.wrap ((ii:Int)+1)=((ii+1:Nat):Int):=by rw[bf (by omega) (by have:=HL.out;omega)];rfl
   generalize l.getD ii ij=y at*;obtain⟨yk,iV,jZ⟩:=y;simp only at*;have sX:Hid (M.length<=200):=by have h1:=HM.out.1;have h2:=HL.out;show _<=_;omega
   have KG:Hid _:=N.Kn _ M iV wr (Sep.VN HS.out) (Nat.le_trans sX.out (by omega));have Kc:Hid (ii<l.length):=hlt;generalize kJ M iV=gv at*
   go_wp2_with fail
   refine Calls.mono KG.out ?_;rintro e w3 ⟨rfl,rfl⟩;clear KG;have HQ:Hid (∀m9,Sep w.heap.size w (wr.drewN m9) (lU (.slice ao M.length cc) M::[])):=fun m9=>HS.out.drewN m9;have Tj:Hid (M.length<=ii∧Rg M):=HM.out;clear HS HM;cases hf:fY M iV
   ·cases hm:cF iV jZ
    ·have Q1:Hid _:=N.xS iV jZ false hm wr;clear hm hf
     go_wp2_with fail
     go_quiet ((go_at_call 9;with_reducible exact Q1.out _))
     generalize hw8:wr.drewN _=w8 at*;have S8:Hid (Sep w.heap.size w w8 (lU (.slice ao M.length cc) M::[])):=by rw[<-hw8];exact HQ.out _
     clear HQ hw8 Q1 x0 x1 x2;go_wp2
     go_roundg (l.length- (ii+1))
     case measure=>have:=Kc.out;omega
     case rel=>exact⟨ii+1,M,ao,cc,rfl,by go_num,by have:=Kc.out;omega,Nat.le_refl _,⟨Nat.le_succ_of_le Tj.out.1,Tj.out.2⟩,S8.out⟩
    ·have Q1:Hid _:=N.xS iV jZ true hm wr;have HM2:Hid ((gp M iV jZ).length<=ii+1∧Rg (gp M iV jZ)):=⟨Nat.le_trans (Ti hm Tj.out.2) (Nat.succ_le_succ Tj.out.1),N.rD Tj.out.2 hm⟩;clear hm hf
     go_wp2_with fail
     go_quiet ((go_at_call 9;with_reducible exact Q1.out _))
     generalize hw8:wr.drewN _=w8 at*;have S8:Hid (Sep w.heap.size w w8 (lU (.slice ao M.length cc) M::[])):=by rw[<-hw8];exact HQ.out _
     clear HQ hw8 Q1 x0 x1 x2 hr;obtain⟨hr,x1,x2⟩:=DC.out w8 S8.out.F4;have KPU:Hid (∀u,Below w8.heap.size w8 u->Calls Tryz.prog 16 #[.slice ao M.length cc,.string iV,.string jZ] u (N.Gv u (gp M iV jZ))):=fun u hu=>N.Kq _ M iV jZ u (N.Row.below (Sep.VN S8.out) hu) (Nat.le_trans sX.out (by omega));have BX:Hid (Below w8.heap.size w8 w8.drew):=(Below.refl _ _).drew;have hS:=And.intro (DC.out w8.drew (S8.out.drew).F4).2.1 (DC.out w8.drew (S8.out.drew).F4).2.2
     go_wp2_with fail
     go_region_held3 (fun X=>X.cell? ⟨r,o+ii*3+1,none⟩=some (.string iV)∧X.cell? ⟨r,o+ii*3+2,none⟩=some (.string jZ)) (first|assumption|exact hS) ((go_at_call 16;refine Calls.mono (KPU.out _ BX.out) ?_;rintro e w9 ⟨v9,rfl,o9,b9⟩;obtain⟨a9,c9,rfl,_⟩:=id o9;have S9:Hid (Sep w.heap.size w w9 (lU (.slice a9 (gp M iV jZ).length c9) (gp M iV jZ)::[])):=Sep.drop (Sep.gf (Sep.PR (Sep.below S8.out BX.out) b9 o9));obtain⟨_,c91,c92⟩:=DC.out w9 S9.out.F4;have hS:=And.intro c91 c92))
     all_goals
      clear KPU S8 b9 o9 x1 x2 hr hS BX c91 c92;generalize gp M iV jZ=M2 at*;go_wp2
      go_roundg (l.length- (ii+1))
      case measure=>have:=Kc.out;omega
      case rel=>exact⟨ii+1,M2,a9,c9,rfl,by go_num,by have:=Kc.out;omega,Nat.le_refl _,HM2.out,S9.out⟩
   ·clear hf;have Q1:Hid _:=N.xS iV jZ _ rfl wr
    go_wp2_with fail
    go_quiet ((go_at_call 9;with_reducible exact Q1.out _))
    generalize hw8:wr.drewN _=w8 at*;have S8:Hid (Sep w.heap.size w w8 (lU (.slice ao M.length cc) M::[])):=by rw[<-hw8];exact HQ.out _
    clear HQ hw8 Q1 x0 x1 x2;go_wp2
    go_roundg (l.length- (ii+1))
    case measure=>have:=Kc.out;omega
    case rel=>exact⟨ii+1,M,ao,cc,rfl,by go_num,by have:=Kc.out;omega,Nat.le_refl _,⟨Nat.le_succ_of_le Tj.out.1,Tj.out.2⟩,S8.out⟩
  ·have o0:¬(ii:Int)< (l.length:Int):=by omega
   have sX:Hid (M.length<=200):=by have h1:=HM.out.1;have h2:=HL.out;show _<=_;omega
   have E9:Hid (Rg M):=HM.out.2;have KT:Hid _:=Bh (n:=900) (by omega) (by omega) HS.out;have HR:Hid ((Dk.new 900).room=900):=sT (by omega) (by omega);have KT2:Hid (∀u l,Sep w.heap.size w u l->_):=fun u l hu=>Bh (n:=900) (by omega) (by omega) hu;clear HS HM HA;generalize Dk.new 900=d0 at*;have TJ:Hid (d0.room<=16384):=by show _<=_;rw[HR.out];omega
   go_wp2_with fail
   refine Calls.mono KT.out ?_;rintro e w3 ⟨Ca,rfl,hCa,ra,xa,d1,Pa,Xa,Ha,s3,r3⟩;have KT3:Hid _:=KT2.out _ _ s3;have QX:Hid (Ca.err=0):=hCa;have R3:Hid _:=r3;clear KT KT2 s3 r3
   go_wp2_with fail
   refine Calls.mono KT3.out ?_;rintro e w4 ⟨Cb,rfl,hCb,h4⟩;have WL:Hid (Cb.err=0):=hCb;have S4:Hid (Tw w.heap.size w d0 Ca [] 0 Cb [] 0 (lU (.slice ao M.length cc) M::[]) w4):=Tw.swap ⟨ra,xa,d1,Pa,Xa,Ha,h4,R3.out⟩;clear KT3 R3 h4
   try unfold ptr at*
   go_wp2
   go_loopg [11] M.length (fun kx s11 wr=>∃(j:Nat) (Eb:List En),s11=.int .i64 (j:Int)∧j<=M.length∧M.length-j<=kx∧Hid (KS Eb M)∧Hid (wV Eb M (M.length-j))∧Hid (Tw w.heap.size w d0 Ca (M.take j) j Cb Eb j (lU (.slice ao M.length cc) M::[]) wr))
   case atStart=>exact⟨0,[],rfl,Nat.zero_le _,Nat.le_refl _,(fun x hx=>by cases hx),(fun i h1 h2=>by omega),by rw[List.take_zero];exact S4.out⟩
   case round=>
    obtain⟨j,Eb,rfl,hj,Pw,HK,HF,HS⟩:=hrel;clear S4;by_cases hjl:j<M.length
    ·have sU:(j:Int)< (M.length:Int):=by omega
     have lT:Hid (j<M.length):=hjl;obtain⟨rb,ro,rfl,hrb⟩:=KH (Tw.PS HS.out) hjl;obtain⟨y0,y1⟩:=sW (Tw.PS HS.out) hjl;have hw1:IntKind.i64.wrap ((M.length:Int)-1)=(M.length:Int)-1:=by rw[bf (by omega) (by have:=sX.out;omega)]
     have hw2:IntKind.i64.wrap ((M.length:Int)-1- (j:Int))=((M.length-1-j:Nat):Int):=by rw[bf (by omega) (by have:=sX.out;omega)];omega
     have NT:IntKind.i64.wrap ((j:Int)+1)=((j+1:Nat):Int):=by rw[bf (by omega) (by have:=sX.out;omega)];rfl
     have hi1:((M.length-1-j:Nat):Int)< (M.length:Int):=by omega
     have hi2:M.length-1-j<M.length:=by omega
     obtain⟨q0,q1⟩:=sW (Tw.PS HS.out) hi2;have hm1:M[j]! ∈M:=by rw[getElem!_pos M j hjl];exact List.getElem_mem hjl
     have hm2:M[M.length-1-j]! ∈M:=by rw[getElem!_pos M _ hi2];exact List.getElem_mem hi2
     have S7:Hid (Tw w.heap.size w d0 Ca (M.take j) j Cb Eb j (aF wr.heap.size (.cells #[.string M[M.length-1-j]!.1,.string M[M.length-1-j]!.2] 38)::lU (.slice (some ⟨rb,ro,none⟩) M.length cc) M::[]) (wr.alloc (.cells #[.string M[M.length-1-j]!.1,.string M[M.length-1-j]!.2] 38))):=Tw.blk HS.out _;have HC:Hid (∀q ka kb Ea Eb u,Tw w.heap.size w d0 Ca Ea ka Cb Eb kb (aF q (.cells #[.string M[M.length-1-j]!.1,.string M[M.length-1-j]!.2] 38)::lU (.slice (some ⟨rb,ro,none⟩) M.length cc) M::[]) u->u.cell? ⟨rb,ro+j*2,none⟩=some (.string M[j]!.1)∧u.cell? ⟨rb,ro+j*2+1,none⟩=some (.string M[j]!.2)∧u.cell? ⟨q,0,none⟩=some (.string M[M.length-1-j]!.1)):=fun q ka kb Ea Eb u t=>⟨(sW (Tw.rw2 t) lT.out).1,(sW (Tw.rw2 t) lT.out).2,(Tw.c2 t).1⟩;have KV:Eb.length<=200:=Nat.le_trans (KS.len HK.out (Tw.WJ HS.out) E9.out) sX.out;have KA:Hid (∀L u,Tw w.heap.size w d0 Ca (M.take j) j Cb Eb j L u->Calls Tryz.prog 10 #[ptr Ca.tq,.string M[j]!.1,.string M[j]!.2] u fun e w'=>e=.returned (.int .i64 0)∧Tw w.heap.size w d0 Ca (M.take (j+1)) (j+1) Cb Eb j L w'):=fun L u hu=>by
      rw[<-Kz E9.out lT.out];exact Tw.fst (R:=fun e=>e=.returned (.int .i64 0)) hu fun l' h=>mU TT.out TJ.out QX.out (E9.out.may _ hm1) (qy (by rw[List.length_take];have:=sX.out;omega) (by rw[HR.out];omega)) (by rw[List.length_take];have:=sX.out;omega) (by have:=sX.out;omega) h
     have KB:Hid (∀L u,Tw w.heap.size w d0 Ca (M.take (j+1)) (j+1) Cb Eb j L u->Calls Tryz.prog 10 #[ptr Cb.tq,.string M[M.length-1-j]!.1,.string ⟨#[111,116,104,101,114]⟩] u fun e w'=>e=.returned (.int .i64 0)∧Tw w.heap.size w d0 Ca (M.take (j+1)) (j+1) Cb (gp Eb M[M.length-1-j]!.1 ⟨#[111,116,104,101,114]⟩) (j+1) L w'):=fun L u hu=>
      Tw.snd (R:=fun e=>e=.returned (.int .i64 0)) hu fun l' h=>mU TT.out TJ.out WL.out (Ff (E9.out.may _ hm2) (by decide)) (qy KV (by rw[HR.out];omega)) KV (by have:=sX.out;omega) h
     have VO:Hid (KS (gp Eb M[M.length-1-j]!.1 ⟨#[111,116,104,101,114]⟩) M):=KS.put HK.out hm2;have VP:Hid (wV (gp Eb M[M.length-1-j]!.1 ⟨#[111,116,104,101,114]⟩) M (M.length- (j+1))):=by
      have e:M.length- (j+1)=M.length-1-j:=by omega
      show wV _ _ _;rw[e];exact wV.put (by rw[show M.length-1-j+1=M.length-j by omega];exact HF.out)
     clear HK HF KV hm1 hm2 HS;generalize M[j]! =ya at*;generalize M[M.length-1-j]! =yb at*
     try unfold ptr at*
     go_wp2_with fail
     clear y0 y1 q0 q1 hrb;have TA:Hid (Tw w.heap.size w d0 Ca (M.take j) j Cb Eb j (aF wr.heap.size (.cells #[.string yb.1,.string yb.2] 38)::lU (.slice (some ⟨rb,ro,none⟩) M.length cc) M::[]) (wr.alloc (.cells #[.string yb.1,.string yb.2] 38)).drew):=S7.out.below (Below.refl _ _).drew;clear S7;generalize wr.alloc (.cells #[.string yb.1,.string yb.2] 38)=w7 at*;generalize wr.heap.size=qx at*;have hS:=HC.out _ _ _ _ _ _ TA.out
     go_region_held3 (fun X=>X.cell? ⟨rb,ro+j*2,none⟩=some (.string ya.1)∧X.cell? ⟨rb,ro+j*2+1,none⟩=some (.string ya.2)∧X.cell? ⟨qx,0,none⟩=some (.string yb.1)) (first|assumption|exact hS) (first| (go_at_call 10;refine Calls.mono (KA.out _ _ TA.out) ?_;rintro e w5 ⟨rfl,t5⟩;have TB:Hid _:=t5;have hS:=HC.out _ _ _ _ _ _ TB.out;clear t5 KA TA)| (go_at_call 10;refine Calls.mono (KB.out _ _ TB.out) ?_;rintro e w6 ⟨rfl,t6⟩;have TC:Hid _:=t6;have hS:=HC.out _ _ _ _ _ _ TC.out;clear t6))
     all_goals
      have S9:Hid (Tw w.heap.size w d0 Ca (M.take (j+1)) (j+1) Cb (gp Eb yb.1 ⟨#[111,116,104,101,114]⟩) (j+1) (lU (.slice (some ⟨rb,ro,none⟩) M.length cc) M::[]) w6):=Tw.drop TC.out;clear KB TB TC hS HC;generalize gp Eb yb.1 ⟨#[111,116,104,101,114]⟩=E2 at*;go_wp2
      go_roundg (M.length- (j+1))
      case measure=>have:=lT.out;omega
      case rel=>exact⟨j+1,E2,by go_num,by have:=lT.out;omega,Nat.le_refl _,VO.out,VP.out,S9.out⟩
    ·have sU:¬(j:Int)< (M.length:Int):=by omega
     obtain rfl:j=M.length:=by omega
     rw[List.take_length]at HS;rw[Nat.sub_self]at HF;have VQ:Hid (KS Eb M):=HK.out;have HF0:Hid (wV Eb M 0):=HF.out;have S5:Hid (Tw w.heap.size w d0 Ca M M.length Cb Eb (M.length+0) (lU (.slice ao M.length cc) M::[]) wr):=HS.out;clear HK HF HS
     go_wp2_with fail
     go_loopg [13] M.length (fun kx s13 wr=>∃(j:Nat) (Eb:List En),s13=.int .i64 (j:Int)∧j<=M.length∧M.length-j<=kx∧Hid (KS Eb M)∧Hid (wV Eb M j)∧Hid (Tw w.heap.size w d0 Ca M M.length Cb Eb (M.length+j) (lU (.slice ao M.length cc) M::[]) wr))
     case atStart=>exact⟨0,Eb,rfl,Nat.zero_le _,Nat.le_refl _,VQ.out,HF0.out,S5.out⟩
     case round=>
      obtain⟨j,E3,rfl,hj,Pw,HK,HF,HS⟩:=hrel;clear S5 VQ HF0;by_cases hjl:j<M.length
      ·have sU:(j:Int)< (M.length:Int):=by omega
       have lT:Hid (j<M.length):=hjl;have NT:IntKind.i64.wrap ((j:Int)+1)=((j+1:Nat):Int):=by rw[bf (by omega) (by have:=sX.out;omega)];rfl
       by_cases h3:j%3=0
       ·have ht1:(((j:Int)%3)==0)=true:=beq_iff_eq.2 (by omega);obtain⟨rb,ro,rfl,hrb⟩:=KH (Tw.PS HS.out) hjl;obtain⟨y0,y1⟩:=sW (Tw.PS HS.out) hjl;have KV:E3.length<=200:=Nat.le_trans (KS.len HK.out (Tw.WJ HS.out) E9.out) sX.out;have KD:Hid _:=Tw.snd (R:=fun e=>e=.returned (.tuple #[.bool (fY E3 M[j]!.1),.int .i64 0])) HS.out fun l' h=>Dy (key:=M[j]!.1) TT.out TJ.out WL.out (qy KV (by rw[HR.out];omega)) KV (by have:=sX.out;omega) h;rw[HF.out j (Nat.le_refl _) hjl]at KD;have VO:Hid (KS (ie E3 M[j]!.1) M):=KS.del HK.out;have VP:Hid (wV (ie E3 M[j]!.1) M (j+1)):=wV.del HF.out E9.out hjl;clear HK HF HS KV h3;generalize M[j]! =ya at*
        try unfold ptr at*
        go_wp2_with fail
        refine Calls.mono KD.out ?_;rintro e w5 ⟨rfl,t5⟩;have S6:Hid (Tw w.heap.size w d0 Ca M M.length Cb (ie E3 ya.1) (M.length+(j+1)) (lU (.slice (some ⟨rb,ro,none⟩) M.length cc) M::[]) w5):=t5;clear KD t5 y0 y1 hrb;generalize ie E3 ya.1=E4 at*;go_wp2
        go_roundg (M.length- (j+1))
        case measure=>have:=lT.out;omega
        case rel=>exact⟨j+1,E4,by go_num,by have:=lT.out;omega,Nat.le_refl _,VO.out,VP.out,S6.out⟩
       ·have ht1:(((j:Int)%3)==0)=false:=beq_eq_false_iff_ne.2 (by omega);have VP:Hid (wV E3 M (j+1)):=wV.next HF.out;have S6:Hid (Tw w.heap.size w d0 Ca M M.length Cb E3 (M.length+(j+1)) (lU (.slice ao M.length cc) M::[]) wr):=Tw.more HS.out;clear HF HS h3;go_wp2
        go_roundg (M.length- (j+1))
        case measure=>have:=lT.out;omega
        case rel=>exact⟨j+1,E3,by go_num,by have:=lT.out;omega,Nat.le_refl _,HK.out,VP.out,S6.out⟩
      ·have sU:¬(j:Int)< (M.length:Int):=by omega
       obtain rfl:j=M.length:=by omega
       have VQ:Hid (KS E3 M):=HK.out;have S5:Hid (Tw w.heap.size w d0 Ca M M.length Cb E3 (M.length+M.length+0) (lU (.slice ao M.length cc) M::[]) wr):=HS.out;clear HK HF HS
       go_wp2_with fail
       go_loopg [16] M.length (fun kx s16 wr=>∃(j:Nat) (Eb:List En),s16=.int .i64 (j:Int)∧j<=M.length∧M.length-j<=kx∧Hid (KS Eb M)∧Hid (Th Eb M j)∧Hid (Tw w.heap.size w d0 Ca M M.length Cb Eb (M.length+M.length+j) (lU (.slice ao M.length cc) M::[]) wr))
       case atStart=>exact⟨0,E3,rfl,Nat.zero_le _,Nat.le_refl _,VQ.out,(fun i hi=>by omega),S5.out⟩
       case round=>
        obtain⟨j,E5,rfl,hj,Pw,HK,HI,HS⟩:=hrel;clear S5 VQ;by_cases hjl:j<M.length
        ·have sU:(j:Int)< (M.length:Int):=by omega
         have lT:Hid (j<M.length):=hjl;have NT:IntKind.i64.wrap ((j:Int)+1)=((j+1:Nat):Int):=by rw[bf (by omega) (by have:=sX.out;omega)];rfl
         obtain⟨rb,ro,rfl,hrb⟩:=KH (Tw.PS HS.out) hjl;obtain⟨y0,y1⟩:=sW (Tw.PS HS.out) hjl;have hm1:M[j]! ∈M:=by rw[getElem!_pos M j hjl];exact List.getElem_mem hjl
         have KV:E5.length<=200:=Nat.le_trans (KS.len HK.out (Tw.WJ HS.out) E9.out) sX.out;have HC:Hid (∀ka kb Ea Eb u,Tw w.heap.size w d0 Ca Ea ka Cb Eb kb (lU (.slice (some ⟨rb,ro,none⟩) M.length cc) M::[]) u->u.cell? ⟨rb,ro+j*2,none⟩=some (.string M[j]!.1)∧u.cell? ⟨rb,ro+j*2+1,none⟩=some (.string M[j]!.2)):=fun ka kb Ea Eb u t=>sW (Tw.PS t) lT.out;have KB:Hid (∀u,Tw w.heap.size w d0 Ca M M.length Cb E5 (M.length+M.length+j) (lU (.slice (some ⟨rb,ro,none⟩) M.length cc) M::[]) u->Calls Tryz.prog 10 #[ptr Cb.tq,.string M[j]!.1,.string M[j]!.2] u fun e w'=>e=.returned (.int .i64 0)∧Tw w.heap.size w d0 Ca M M.length Cb (gp E5 M[j]!.1 M[j]!.2) (M.length+M.length+j+1) (lU (.slice (some ⟨rb,ro,none⟩) M.length cc) M::[]) w'):=fun u hu=>
          Tw.snd (R:=fun e=>e=.returned (.int .i64 0)) hu fun l' h=>mU TT.out TJ.out WL.out (E9.out.may _ hm1) (qy KV (by rw[HR.out];omega)) KV (by have:=sX.out;omega) h
         have VO:Hid (KS (gp E5 M[j]!.1 M[j]!.2) M):=KS.put HK.out hm1;have HI2:Hid (Th (gp E5 M[j]!.1 M[j]!.2) M (j+1)):=Th.put HI.out E9.out hjl;have S7:Hid (Tw w.heap.size w d0 Ca M M.length Cb E5 (M.length+M.length+j) (lU (.slice (some ⟨rb,ro,none⟩) M.length cc) M::[]) wr.drew):=HS.out.below (Below.refl _ _).drew;clear HK HI KV hm1 HS;generalize M[j]! =ya at*;have hS:=HC.out _ _ _ _ _ S7.out
         try unfold ptr at*
         go_wp2_with fail
         go_region_held3 (fun X=>X.cell? ⟨rb,ro+j*2,none⟩=some (.string ya.1)∧X.cell? ⟨rb,ro+j*2+1,none⟩=some (.string ya.2)) (first|assumption|exact hS) ((go_at_call 10;refine Calls.mono (KB.out _ S7.out) ?_;rintro e w5 ⟨rfl,t5⟩;have TB:Hid _:=t5;have hS:=HC.out _ _ _ _ _ TB.out;clear t5))
         all_goals
          have S8:Hid (Tw w.heap.size w d0 Ca M M.length Cb (gp E5 ya.1 ya.2) (M.length+M.length+(j+1)) (lU (.slice (some ⟨rb,ro,none⟩) M.length cc) M::[]) w5):=TB.out;clear KB TB hS HC S7 y0 y1 hrb;generalize gp E5 ya.1 ya.2=E6 at*;go_wp2
          go_roundg (M.length- (j+1))
          case measure=>have:=lT.out;omega
          case rel=>exact⟨j+1,E6,by go_num,by have:=lT.out;omega,Nat.le_refl _,VO.out,HI2.out,S8.out⟩
        ·have sU:¬(j:Int)< (M.length:Int):=by omega
         obtain rfl:j=M.length:=by omega
         obtain rfl:E5=M:=all_in HI.out HK.out (Tw.WJ HS.out) E9.out;have K1:Hid _:=Tw.Kv TT.out TJ.out QX.out (Nat.le_trans sX.out (by omega)) HS.out;clear HK HI HS
         try unfold ptr at*
         go_wp2_with fail
         refine Calls.mono K1.out ?_;rintro e w5 ⟨a5,c5,rfl,t5⟩;have K2:Hid _:=Tw.Tf TT.out TJ.out WL.out (Nat.le_trans sX.out (by omega)) t5;clear K1 t5
         try unfold ptr at*
         go_wp2_with fail
         refine Calls.mono K2.out ?_;rintro e w6 ⟨a6,c6,rfl,t6⟩;have T6:Hid _:=t6;have K3:Hid _:=N.xR _ _ E5 E5 w6 (Tw.en2 T6.out) (Tw.rw3 T6.out) (Nat.le_trans sX.out (by omega)) (Nat.le_trans sX.out (by omega));rw[decide_eq_true rfl]at K3;clear K2 t6
         go_wp2_with fail
         refine Calls.mono K3.out ?_;rintro e w7 ⟨rfl,b7⟩;have T7:Hid _:=Tw.below T6.out b7;have K4:Hid _:=N.xR _ _ E5 E5 w7 (Tw.en1 T7.out) (Tw.rw3 T7.out) (Nat.le_trans sX.out (by omega)) (Nat.le_trans sX.out (by omega));rw[decide_eq_true rfl]at K4;clear K3 T6 b7
         go_wp2_with fail
         refine Calls.mono K4.out ?_;rintro e w8 ⟨rfl,b8⟩;have BE:Hid (Below w.heap.size w w8):=(Tw.sep (Tw.below T7.out b8)).F4;clear K4 T7 b8;go_wp2;go_ret;exact⟨rfl,BE.out⟩
end P
end Go.Proofs.YtceoeaemenhbhabGreatDoor
