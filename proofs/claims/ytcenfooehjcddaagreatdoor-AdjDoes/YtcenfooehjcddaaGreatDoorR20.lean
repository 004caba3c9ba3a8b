/- Walks of the package cowtree and of what it stands on: lemmas, made short. -/
import Derived.Test.YtcenfooehjcddaaGreatDoorR19
import Derived.Test.YtcenfooehjcddaaGreatDoorR3
set_option maxHeartbeats 16000000
set_option maxRecDepth 100000
set_option linter.unusedVariables false
set_option linter.unusedSimpArgs false
namespace Go.Proofs.YtcenfooehjcddaaGreatDoor
open Go.Shelf Go.RowKit Go.Lib Go.Sort
namespace P
open N (En)
theorem adjDoes (lv:Value)(l:List Qn)(w:World)(TB:uX w)(hL:ActR17 w lv l):
  Calls Tryz.prog 3 #[lv] w fun e w'=>e=.returned (.bool true)∧Below w.heap.size w w':=by
 obtain⟨al,cap,rfl,_⟩:=id hL;have HA:Hid (ActR17 w (.slice al l.length cap) l):=hL;have TT:Hid (bW w.heap.size w):=Np TB;have KW:Hid _:=Qd TT.out (Sep.nil (Nat.le_refl _) (Below.refl _ _));clear hL TB;go_enter Tryz.func3,Tryz.ntmps3
 go_wp2_with fail
 refine Calls.mono KW.out ?_;rintro e w1 ⟨rfl,s1⟩;have S1:Hid (Sep w.heap.size w w1 []):=s1;clear KW s1;by_cases hb:80<l.length
 ·have hbI:(80:Int)< (l.length:Int):=by omega
  go_wp2;go_ret;exact⟨rfl,S1.out.Ss⟩
 have hbI:¬(80:Int)< (l.length:Int):=by omega
 have HL:Hid (l.length<=80):=Nat.le_of_not_lt hb;clear hb;have KT:Hid _:=E6 (n:=2000) (by omega) (by omega) S1.out;have HR:Hid ((Dk.new 2000).room=2000):=ui (by omega) (by omega);clear S1;generalize Dk.new 2000=d0 at*;have XG:Hid (d0.room<=16384):=by have:=HR.out;show _<=_;omega
 have HCP:Hid (∀E':List En,E'.length<=200->Cap d0.room d0 E'):=fun E' h=>PV h (by rw[HR.out];omega)
 go_wp2_with fail
 refine Calls.mono KT.out ?_;rintro e w3 ⟨C,q,rfl,hC,h3⟩;have C0:Hid (C.err=0):=hC;have S6:Hid (df w.heap.size w d0 C q w3.heap.size 0 [] (w3.alloc (.cells #[.slice none 0 0,.slice none 0 0] 31))):=df.new h3;clear KT hC h3;unfold ptr at*;go_wp2;generalize w3.alloc (.cells #[.slice none 0 0,.slice none 0 0] 31)=w4 at*;generalize w3.heap.size=sp at*
 go_loopg [7] l.length (fun kx s7 wr=>∃(ii:Nat),s7=.int .i64 (ii:Int)∧ii<=l.length∧l.length-ii<=kx∧Hid (df w.heap.size w d0 C q sp ii [] wr))
 case atStart=>exact⟨0,rfl,Nat.zero_le _,Nat.le_refl _,S6.out⟩
 case round=>
  obtain⟨ii,rfl,hi,hix,HS⟩:=hrel;clear S6;by_cases hlt:ii<l.length
  ·have uh:(ii:Int)< (l.length:Int):=by omega
   have aaD:(0:Int)<=(ii:Int):=by omega
   obtain⟨r,o,e1,hr,hc⟩:=HA.out.at hlt;subst e1;have hwj:IntKind.i64.wrap ((ii:Int)+1)=((ii+1:Nat):Int):=by rw[bM (by omega) (by have:=HL.out;omega)];rfl
   generalize l.getD ii a17=y at*;obtain⟨yk,yu,yv,yt⟩:=y;obtain⟨x0,x1,x2,x3,wu,wv⟩:=hc wr HS.out.sep.Ss;simp only at x0 x1 x2 x3 wu wv;have WU:Hid (Wf yu):=wu;have WV:Hid (Wf yv):=wv;have KP:Hid (∀w,Calls Tryz.prog 7 #[.int .i64 yu,.int .i64 yv] w fun e w'=>e=.returned (.agg #[.int .i64 (min yu yv),.int .i64 (max yu yv)])∧Below w.heap.size w w'):=fun w=>oO yu yv w;have KR:Hid (∀w,Calls Tryz.prog 8 #[.int .i64 yu,.int .i64 yv] w fun e w'=>e=.returned (.int .i64 (dy yu yv))∧w=w'):=fun w=>sW yu yv w;clear hc wu wv;have H5:Hid (df w.heap.size w d0 C q sp ii (aF wr.heap.size (.cells #[.int .i64 yk,.int .i64 yu,.int .i64 yv,.bool yt] 33)::[]) (wr.alloc (.cells #[.int .i64 yk,.int .i64 yu,.int .i64 yv,.bool yt] 33))):=HS.out.blk _;clear HS
   go_wp2_with fail
   refine Calls.mono (KP.out _) ?_;rintro e w6 ⟨rfl,b6⟩;have H6:Hid _:=df.below H5.out b6;clear H5 b6 KP x0 x1 x2 x3;generalize wr.alloc (.cells #[.int .i64 yk,.int .i64 yu,.int .i64 yv,.bool yt] 33)=w5 at*;generalize wr.heap.size=xb at*;obtain⟨hxb,⟨x0,x1,x2,x3⟩,_⟩:=Sep.c4 (df.sep H6.out);have H7:Hid _:=df.blk H6.out (.cells #[.int .i64 (min yu yv),.int .i64 (max yu yv)] 35);clear H6
   go_wp2_with fail
   refine Calls.mono (KR.out _) ?_;rintro e w7 ⟨rfl,rfl⟩;clear KR x0 x1 x2 x3;generalize w6.alloc (.cells #[.int .i64 (min yu yv),.int .i64 (max yu yv)] 35)=w7 at*;generalize w6.heap.size=pb at*;have hii:ii<80:=by have:=HL.out;omega
   have KS:Hid _:=df.set TT.out XG.out C0.out HCP.out hii yu yv yt H7.out;have KC:Hid _:=df.clr TT.out XG.out C0.out HCP.out hii yu yv H7.out;generalize dy yu yv=X at*;generalize min yu yv=mi at*;generalize max yu yv=ma at*;have hXX:(X != X)=false:=by simp
   have L5:Hid (∀W,Sep w.heap.size w W (aF pb (.cells #[.int .i64 mi,.int .i64 ma] 35)::aF xb (.cells #[.int .i64 yk,.int .i64 yu,.int .i64 yv,.bool yt] 33)::[])->(W.cell? ⟨xb,0,none⟩=some (.int .i64 yk)∧W.cell? ⟨xb,1,none⟩=some (.int .i64 yu)∧W.cell? ⟨xb,2,none⟩=some (.int .i64 yv)∧W.cell? ⟨xb,3,none⟩=some (.bool yt))∧W.cell? ⟨pb,0,none⟩=some (.int .i64 mi)∧W.cell? ⟨pb,1,none⟩=some (.int .i64 ma)):=fun W h=>by
    obtain⟨p0,p1,_⟩:=Sep.two h;exact⟨(Sep.c4 (Sep.drop h)).2.1,p0,p1⟩
   obtain⟨⟨x0,x1,x2,x3⟩,p0,p1⟩:=L5.out _ (df.sep H7.out);have hsw:(yk.tmod 4==0)=true∨((yk.tmod 4==0)=false∧(yk.tmod 4==1)=true)∨((yk.tmod 4==0)=false∧(yk.tmod 4==1)=false∧(yk.tmod 4==2)=true)∨((yk.tmod 4==0)=false∧(yk.tmod 4==1)=false∧(yk.tmod 4==2)=false):=by
    cases(yk.tmod 4==0)<;>cases(yk.tmod 4==1)<;>cases(yk.tmod 4==2)<;>simp
   rcases hsw with k0| ⟨k0,k1⟩| ⟨k0,k1,k2⟩| ⟨k0,k1,k2⟩
   case' inl|inr.inl=>
    go_wp2_with fail
    refine Calls.mono KS.out ?_;rintro e w8 ⟨rfl,s8,hno,G5⟩;clear KS KC H7 x0 x1 x2 x3 p0 p1;obtain⟨⟨x0,x1,x2,x3⟩,p0,p1⟩:=L5.out _ s8;have hS:=L5.out _ s8.drew;by_cases hm:X=0
    case' neg=>
     have hz:(X==0)=false:=by simpa using hm
     have HN:Hid _:=hno hm;clear hno G5 hm s8 hS
     go_wp2_with fail
    case' pos=>
     have HY:Hid _:=G5 hm;subst hm;clear hno G5
     go_wp2_with fail
     refine Calls.mono (HY.out _ (Below.refl _ _)) ?_;rintro e w9 ⟨rfl,h9⟩;have HN:Hid _:=h9;clear HY h9 x0 x1 x2 x3 p0 p1 hS s8;obtain⟨⟨x0,x1,x2,x3⟩,p0,p1⟩:=L5.out _ (df.sep HN.out)
     go_wp2_with fail
   case' inr.inr.inr=>
    have HN:Hid _:=df.up H7.out;clear KS KC H7
    go_wp2_with fail
   case' inr.inr.inl=>
    obtain⟨va,th,hh,hcl⟩:=KC.out;have HH:Hid _:=hh;have HC2:Hid _:=hcl;have YH:Hid _:=fun W (hW:Below w7.heap.size w7 W)=>L5.out W (df.sep (df.below H7.out hW));have BD:Hid (Below w7.heap.size w7 w7.drew):=(Below.refl _ _).drew;have hS:=And.intro (HH.out _ BD.out).1 (YH.out _ BD.out).2;clear hh hcl KS KC
    go_wp2_with fail
    go_region_held3 (fun W=>W.cell? ⟨sp,0,none⟩=some va∧W.cell? ⟨pb,0,none⟩=some (.int .i64 mi)∧W.cell? ⟨pb,1,none⟩=some (.int .i64 ma)) (first|assumption|exact hS) ((go_at_call 11;refine Calls.mono (HH.out _ BD.out).2 ?_;rintro e w8 ⟨rfl,b8⟩;have BE:Hid (Below w7.heap.size w7 w8):=BD.out.trans (b8.mono BD.out.size);have hS:=And.intro (HH.out _ BE.out).1 (YH.out _ BE.out).2))
    have KK:Hid _:=HC2.out _ BE.out;have h4:=YH.out _ BE.out;clear HC2 HH YH BD hS b8 x0 x1 x2 x3 p0 p1 H7;obtain⟨⟨x0,x1,x2,x3⟩,p0,p1⟩:=h4;by_cases hm:X=0
    case' neg=>
     have hz:(X==0)=false:=by simpa using hm
     have hx:(if X=0 then(if th=true then(0:Int)else 181)else X)=X:=if_neg hm;have hn:¬(X=0∧th=true):=fun h=>hm h.1;rw[hx]at KK;clear hx hm
     go_wp2_with fail
     refine Calls.mono KK.out ?_;rintro e w9 ⟨rfl,s9,hno,_⟩;have HN:Hid _:=hno hn;clear KK hno hn x0 x1 x2 x3 p0 p1;obtain⟨⟨x0,x1,x2,x3⟩,p0,p1⟩:=L5.out _ s9;clear s9
     go_wp2_with fail
    case' pos=>
     subst hm;rw[if_pos rfl]at KK;cases th
     case' false=>
      rw[if_neg (by simp)]at KK
      go_wp2_with fail
      refine Calls.mono KK.out ?_;rintro e w9 ⟨rfl,s9,hno,_⟩;have HN:Hid _:=hno (by simp);clear KK hno x0 x1 x2 x3 p0 p1;obtain⟨⟨x0,x1,x2,x3⟩,p0,p1⟩:=L5.out _ s9;clear s9
      go_wp2_with fail
     case' true=>
      rw[if_pos rfl]at KK
      go_wp2_with fail
      refine Calls.mono KK.out ?_;rintro e w9 ⟨rfl,s9,_,G5⟩;have HY:Hid _:=G5 (by simp);clear KK G5 x0 x1 x2 x3 p0 p1;obtain⟨⟨x0,x1,x2,x3⟩,p0,p1⟩:=L5.out _ s9
      go_wp2_with fail
      refine Calls.mono (HY.out _ (Below.refl _ _)) ?_;rintro e wz ⟨rfl,h9⟩;have HN:Hid _:=h9;clear HY h9 x0 x1 x2 x3 p0 p1 s9;obtain⟨⟨x0,x1,x2,x3⟩,p0,p1⟩:=L5.out _ (df.sep HN.out)
      go_wp2_with fail
   all_goals
    clear x0 x1 x2 x3 p0 p1;refine Calls.mono (df.ask TT.out XG.out C0.out (by omega) yu yv WV.out HN.out) ?_;rintro e wA ⟨rfl,hA⟩;have HNA:Hid _:=hA;clear HN hA;obtain⟨⟨x0,x1,x2,x3⟩,p0,p1⟩:=L5.out _ (df.sep HNA.out)
    go_wp2_with fail
    refine Calls.mono (df.ask TT.out XG.out C0.out (by omega) yv yu WU.out HNA.out) ?_;rintro e wB ⟨rfl,hB⟩;have HNB:Hid _:=df.drop (df.drop hB);clear HNA hB L5;go_wp2
    go_roundg (l.length- (ii+1))
    case measure=>omega
    case rel=>exact⟨ii+1,by go_num,by omega,Nat.le_refl _,HNB.out⟩
  ·have uh:¬(ii:Int)< (l.length:Int):=by omega
   have KE:Hid _:=df.edg TT.out XG.out C0.out (by have:=HL.out;omega) HS.out;clear HS
   go_wp2_with fail
   refine Calls.mono KE.out ?_;rintro e w5 ⟨v5,va,rfl,s5,hs5⟩;have S5:Hid _:=s5;have Lr:Hid _:=hs5;clear KE s5 hs5;have c0:=(Lr.out _ (Below.refl _ _)).1
   go_wp2_with fail
   refine Calls.mono (Lr.out _ (Below.refl _ _)).2 ?_;rintro e w6 ⟨rfl,b6⟩;have HB:Hid (Below w.heap.size w w6):=(Sep.Ss S5.out).trans (b6.mono (Sep.Ss S5.out).size);clear Lr S5 b6 c0;go_wp2;go_ret;exact⟨rfl,HB.out⟩
end P
end Go.Proofs.YtcenfooehjcddaaGreatDoor
