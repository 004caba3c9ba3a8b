/- Walks of the package cowtree and of what it stands on: lemmas, made short. -/
import Derived.Test.YtceoeaemenhbhaaGreatDoorR16
import Derived.Deep.QuietTactic
import Derived.BigQuiet
set_option maxHeartbeats 16000000
set_option maxRecDepth 100000
set_option linter.unusedVariables false
set_option linter.unusedSimpArgs false
namespace Go.Proofs.YtceoeaemenhbhaaGreatDoor
open Go.Shelf Go.RowKit Go.Lib Go.Sort
namespace P
open N (Nd nd0 En fk)
theorem treeRaw (lv:Value)(l:List Nd)(root:Int)(key:ByteArray)(w:World)(TB:tv w)(hL:N.NdsR w lv l)(hroot:Wf root)(hk:key.size<=maxLen):
  Calls Tryz.prog 7 #[lv,.int .i64 root,.string key] w fun e w'=>e=.returned (.bool true)∧Below w.heap.size w w':=by
 obtain⟨al,cap,rfl,_⟩:=id hL;have HA:Hid (N.NdsR w (.slice al l.length cap) l):=hL;have TT:Hid (bW w.heap.size w):=Kk TB;have XP:Hid (Wf root):=hroot;have KW:Hid _:=Ny TT.out (Sep.nil (Nat.le_refl _) (Below.refl _ _));unfold maxLen at hk;clear hL TB hroot;go_enter Tryz.func7,Tryz.ntmps7
 go_wp2_with fail
 refine Calls.mono KW.out ?_;rintro e w1 ⟨rfl,s1⟩;have S1:Hid (Sep w.heap.size w w1 []):=s1;clear KW s1;by_cases h4:4<l.length
 ·have h4z:(4:Int)< (l.length:Int):=by omega
  go_wp2;go_ret;exact⟨rfl,S1.out.AX⟩
 have h4z:¬(4:Int)< (l.length:Int):=by omega
 have HL:Hid (l.length<=4):=by show _<=_;omega
 by_cases Xn:60<key.size
 ·have QS:(60:Int)< (key.size:Int):=by omega
  go_wp2;go_ret;exact⟨rfl,S1.out.AX⟩
 have QS:¬(60:Int)< (key.size:Int):=by omega
 have KD:Hid _:=NF 20 S1.out
 go_wp2_with fail
 refine Calls.mono KD.out ?_;rintro e w2 ⟨b,rfl,s2⟩;have KF:Hid _:=NH s2;clear KD s2 S1
 go_wp2_with fail
 refine Calls.mono KF.out ?_;rintro e w3 ⟨f,rfl,s3⟩;have S3:Hid (Sep w.heap.size w w3 [File f b (Dk.new 20)]):=s3;have HU:Hid (Up 20 (Dk.new 20)):=Up.new 20 (by omega);clear KF s3 h4 Xn;unfold ptr at*;go_wp2
 go_loopg [9] l.length (fun kx s6 wr=>∃(j:Nat) (d:Dk),s6=.int .i64 (j:Int)∧j<=l.length∧l.length-j<=kx∧Hid (Up 20 d∧d.pend.length<=j)∧Hid (Sep w.heap.size w wr [File f b d]))
 case atStart=>exact⟨0,_,rfl,Nat.zero_le _,Nat.le_refl _,⟨HU.out,Nat.le_refl _⟩,S3.out⟩
 case round=>
  obtain⟨j,d,rfl,hj,Xk,HD,HS⟩:=hrel;clear S3 HU;by_cases hlt:j<l.length
  ·have vF:(j:Int)< (l.length:Int):=by omega
   obtain⟨r,o,e1,hr,ve,vk,vs,c0,c1,c2,c3,hn,hz⟩:=HA.out.at HS.out.AX (Nat.le_refl _) hlt;subst e1;obtain⟨ae,ce,rfl,hae⟩:=N.ar hn.e;obtain⟨ak,ck,rfl,hak⟩:=N.ar hn.k;obtain⟨az,cz,rfl,haz⟩:=N.ar hn.s;have Xl:IntKind.i64.wrap ((j:Int)+1)=((j+1:Nat):Int):=by rw[bE (by omega) (by have:=HL.out;omega)];rfl
   have hwp:IntKind.i64.wrap (2+(j:Int))=2+(j:Int):=bE (by omega) (by have:=HL.out;omega);have HJ:Hid (j<l.length):=hlt;generalize l.getD j nd0=n at*;have HZ:Hid (∀e∈n.es,e.1.size<=maxLen∧e.2.size<=maxLen):=hz;have HN:Hid (N.gh wr (.slice ae n.es.length ce) (.slice ak n.ks.length ck) (.slice az n.ss.length cz) n):=hn;clear hn hz hae hak haz;by_cases b1:3<n.ks.length
   ·have b1z:(3:Int)< (n.ks.length:Int):=by omega
    go_wp2;go_ret;exact⟨rfl,HS.out.AX⟩
   have b1z:¬(3:Int)< (n.ks.length:Int):=by omega
   by_cases b2:5<n.es.length
   ·have b2z:(5:Int)< (n.es.length:Int):=by omega
    go_wp2;go_ret;exact⟨rfl,HS.out.AX⟩
   have b2z:¬(5:Int)< (n.es.length:Int):=by omega
   by_cases b3:3<n.ss.length
   ·have b3z:(3:Int)< (n.ss.length:Int):=by omega
    go_wp2;go_ret;exact⟨rfl,HS.out.AX⟩
   have b3z:¬(3:Int)< (n.ss.length:Int):=by omega
   have HB:Hid (n.ks.length<=3∧n.es.length<=5∧n.ss.length<=3):=⟨by omega,by omega,by omega⟩;clear b1 b2 b3;go_wp2
   go_loopg [10] n.es.length (fun kx s7 wr2=>∃(k:Nat),s7=.int .i64 (k:Int)∧k<=n.es.length∧n.es.length-k<=kx∧Hid (∀i,i<k->n.es[i]!.1.size<=60∧n.es[i]!.2.size<=60)∧wr2=wr)
   case atStart=>exact⟨0,rfl,Nat.zero_le _,Nat.le_refl _,(by intro i hi;omega),rfl⟩
   case round=>
    obtain⟨k,rfl,T6,hkx,Sp,rfl⟩:=hrel;by_cases hlk:k<n.es.length
    ·have X6:(k:Int)< (n.es.length:Int):=by omega
     obtain⟨ae',ce',e',_,_,h3⟩:=id HN.out.e;obtain⟨rb,UF,hae,hrb,z0,z1⟩:=N.dw h3 k hlk (Below.refl _ _);have e2:ae=ae':=by injection e'
     subst e2;subst hae;have hwk:IntKind.i64.wrap ((k:Int)+1)=((k+1:Nat):Int):=by rw[bE (by omega) (by have:=HB.out;omega)];rfl
     have hym:n.es[k]! ∈n.es:=by rw[getElem!_pos n.es k hlk];exact List.getElem_mem hlk
     obtain⟨y1,y2⟩:=HZ.out _ hym;have X7:Hid (k<n.es.length):=hlk;unfold maxLen at y1 y2;clear h3 hym e';generalize hy:n.es[k]! =y at*;have HY:Hid (n.es[k]! =y):=hy;clear hy;obtain⟨yk,yv⟩:=y;simp only at z0 z1 y1 y2;by_cases d1:60<yk.size
     ·have d1z:(60:Int)< (yk.size:Int):=by omega
      go_wp2;go_ret;exact⟨rfl,HS.out.AX⟩
     have d1z:¬(60:Int)< (yk.size:Int):=by omega
     by_cases d2:60<yv.size
     ·have d2z:(60:Int)< (yv.size:Int):=by omega
      go_wp2;go_ret;exact⟨rfl,HS.out.AX⟩
     have d2z:¬(60:Int)< (yv.size:Int):=by omega
     have HK2:Hid (∀i,i<k+1->n.es[i]!.1.size<=60∧n.es[i]!.2.size<=60):=fun i hi=>by
      rcases Nat.lt_succ_iff_lt_or_eq.1 hi with h|rfl
      ·exact Sp.out i h
      ·rw[HY.out];exact⟨by show yk.size<=60;omega,by show yv.size<=60;omega⟩
     clear Sp d1 d2;go_wp2
     go_roundg (n.es.length- (k+1))
     case measure=>omega
     case rel=>exact⟨k+1,by go_num,by omega,Nat.le_refl _,HK2.out,rfl⟩
    ·have X6:¬(k:Int)< (n.es.length:Int):=by omega
     have hk:k=n.es.length:=by omega
     have ZF:∀e∈n.es,e.1.size<=60∧e.2.size<=60:=fun e he=>by
      obtain⟨i,hi,rfl⟩:=List.getElem_of_mem he;have:=Sp.out i (by omega)
      rwa [getElem!_pos n.es i hi]at this
     have KE:Hid _:=Nz HN.out HB.out.2.1 HB.out.1 HB.out.2.2 ZF;clear ZF Sp HZ hk;generalize wB:N.kX n=ee at*
     go_wp2_with fail
     refine Calls.mono KE.out ?_;rintro e w4 ⟨rfl,b4⟩;have S4:Hid (Sep w.heap.size w w4 [File f b d]):=HS.out.below b4;clear KE b4 c0 c1 c2 c3;by_cases he:ee=0
     ·subst he;obtain⟨k1,k2,k3⟩:=RM HD.out.1 (i:=j) (by have:=HL.out;have:=HJ.out;omega) wB;have KW:=MN TT.out S4.out (2+(j:Int)) (N.jq n).toNat.toUInt8 (N.ia n) (by have:=Dd wB;unfold maxLen;omega) (by have:=HD.out.2;have:=HL.out;omega);rw[k1,Im]at KW;have ZG:Hid _:=KW;have HU2:Hid (Up 20 (d.wr (2+(j:Int)) (N.jq n).toNat.toUInt8 (N.ia n)).2∧(d.wr (2+(j:Int)) (N.jq n).toNat.toUInt8 (N.ia n)).2.pend.length<=j+1):=⟨k2,by have:=HD.out.2;omega⟩;clear k1 k2 k3 KW HD HS wB;generalize(d.wr (2+(j:Int)) (N.jq n).toNat.toUInt8 (N.ia n)).2=d2 at*;unfold ptr at*
      go_wp2_with fail
      refine Calls.mono ZG.out ?_;rintro e w5 ⟨rfl,s5⟩;have S5:Hid (Sep w.heap.size w w5 [File f b d2]):=s5;clear ZG s5 S4;go_wp2
      go_roundg (l.length- (j+1))
      case measure=>omega
      case rel=>exact⟨j+1,d2,by go_num,by omega,Nat.le_refl _,HU2.out,S5.out⟩
     ·have heb:(ee==0)=false:=beq_eq_false_iff_ne.2 he;have HD2:Hid (Up 20 d∧d.pend.length<=j+1):=⟨HD.out.1,by have:=HD.out.2;omega⟩;clear HD HS wB he;go_wp2
      go_roundg (l.length- (j+1))
      case measure=>omega
      case rel=>exact⟨j+1,d,by go_num,by omega,Nat.le_refl _,HD2.out,S4.out⟩
  ·have vF:¬(j:Int)< (l.length:Int):=by omega
   have hr:=vV HD.out.1;have CT:=TN HS.out (by rw[hr];omega) (v:=.slice none 0 0) (fr:=[]) ⟨none,0,rfl,Nat.le_refl _,fun _=>rfl,fun h=>absurd rfl h⟩ (by simp) 10;rw[hr]at CT;have UT:Hid _:=CT;have HX:Hid ((TX.new [] 10 20).Ok 20∧∀p,(TX.new [] 10 20).fresh p=none):=⟨TX.uz [] 10 (by omega),fun _=>rfl⟩;clear CT HS hr;generalize TX.new [] 10 20=x at*;unfold ptr at*
   go_wp2_with fail
   refine Calls.mono UT.out ?_;rintro e w4 ⟨t,rfl,s4⟩;have CN:Hid _:=Og (root:=root) s4;clear UT s4;unfold ptr at*
   go_wp2_with fail
   refine Calls.mono CN.out ?_;rintro e w5 ⟨tq,rfl,s5⟩;have KG:Hid _:=NC (key:=key) TT.out HD.out.1 HX.out.2 HX.out.1 rfl XP.out (bf.refl d) s5;clear CN s5;unfold ptr at*
   go_wp2_with fail
   refine Calls.mono KG.out ?_;rintro e w6 ⟨gv,gb,er,rfl,he,P',d',hd,s6⟩;have KN:Hid _:=Jz (key:=key) TT.out HD.out.1 HX.out.2 HX.out.1 rfl XP.out hd s6;have HE:Hid (er=0∨er=3):=he;clear KG s6 he hd;unfold ptr at*
   go_wp2_with fail
   refine Calls.mono KN.out ?_;rintro e w7 ⟨nk,nv,nb,ZH,rfl,he2,P2,d2,hd2,s7⟩;have S7:Hid (Below w.heap.size w w7):=s7.AX;have hs7:w.heap.size<=w7.heap.size:=s7.AX.size;have HE2:Hid (ZH=0∨ZH=3):=he2;have KC:Hid (∀W,Calls Tryz.prog 38 #[.string ⟨#[97]⟩,.string ⟨#[]⟩] W fun e w'=>e=.returned (.int .i64 0)∧W=w'):=fun W=>by
    have:=N.fL ⟨#[97]⟩ ⟨#[]⟩ W
    rwa [show fk ⟨#[97]⟩ ⟨#[]⟩=0 by decide+kernel]at this
   clear KN s7 he2 hd2;rcases HE.out with rfl|rfl<;>rcases HE2.out with rfl|rfl
   all_goals
    go_wp2_with fail
    refine Calls.mono (KC.out _) ?_;rintro e w8 ⟨rfl,rfl⟩;go_wp2;go_ret;exact⟨rfl,S7.out.alloc hs7 _⟩
end P
end Go.Proofs.YtceoeaemenhbhaaGreatDoor
