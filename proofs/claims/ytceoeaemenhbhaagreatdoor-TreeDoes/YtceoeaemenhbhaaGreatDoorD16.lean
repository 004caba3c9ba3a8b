/- Walks of the package cowtree and of what it stands on: lemmas, made short. -/
import Derived.Test.YtceoeaemenhbhaaGreatDoorD15
import Derived.Test.YtceoeaemenhbhaaGreatDoorD5
import Derived.Test.YtceoeaemenhbhaaGreatDoorD3
set_option maxHeartbeats 16000000
set_option maxRecDepth 100000
set_option linter.unusedVariables false
set_option linter.unusedSimpArgs false
namespace Go.Proofs.YtceoeaemenhbhaaGreatDoor
open Go.Shelf Go.RowKit Go.Lib Go.Sort
namespace P
open N (Nd En eH cH mi ju gT j8 Rg bf cx)
section
variable {B:Nat}{w0 w w':World}{C:Cx}{d:Dk}{l:List aP}{E:List En}{k:Nat}
theorem bY.blk (h:bY B w0 d C E k l w)(o:Obj):bY B w0 d C E k (aF w.heap.size o::l) (w.alloc o):=h.of fun _ _ _ _ s=>Sep.pb [_,_,_,_] (s.aO o)
theorem bY.sep (h:bY B w0 d C E k l w):Sep B w0 w l:=by
 obtain⟨r,x,d1,P,X,H,s,_⟩:=h;exact Sep.drop (Sep.drop (Sep.drop (Sep.drop s)))
theorem Sw {V:List kH}{r:Int}{X:List Int}{H:Nat}{P:List NV}{x:TX}{d1:Dk}(hw:Sv (V.map uP) r E X H):V.length=X.length:=by
 rcases hw with⟨_,h1,_,h2,_⟩| ⟨_,h,u,_,h1,_,_,h2,_⟩
 ·have:=congrArg List.length h1;rw[List.length_map]at this;rw[this,h2];rfl
 ·have:=congrArg List.length h1;rw[List.length_map,wW,h2]at this;exact this
theorem WJ.one {V:List kH}{r:Int}{X:List Int}{H:Nat}(h:WJ B w0 d C E k l V r X H w)(hE:E.length<=3)(hz:cx E<80)(hne:E≠[]):V.length=1:=by
 obtain⟨x,d1,P,s,hd,TT,M,hc,hw,_⟩:=h;rw[Sw (P:=P) (x:=x) (d1:=d1) hw];have h1:=(TT.ts.flat hE hz).2;rcases hw with⟨_,_,h2,_⟩| ⟨_,hh,u,_,_,_,_,h2,_⟩
 ·exact absurd h2 hne
 ·rw[<-h2,bZ]at h1⊢;simp at h1⊢;exact h1
abbrev sA:ByteArray:=⟨#[97]⟩
abbrev sB:ByteArray:=⟨#[98]⟩
abbrev s1:ByteArray:=⟨#[49]⟩
abbrev s2:ByteArray:=⟨#[50]⟩
abbrev s0:ByteArray:=⟨#[]⟩
theorem xE1:mi [] sB s2=[(sB,s2)]:=by decide+kernel
theorem xE2:mi [(sB,s2)] sA s1=[(sA,s1),(sB,s2)]:=by decide+kernel
theorem xSc:fJ s0 s0 [(sA,s1),(sB,s2)]=[(sA,s1),(sB,s2)]:=by decide+kernel
theorem xNx:(fJ ⟨#[97,97]⟩ s0 [(sA,s1),(sB,s2)]).head?=some (sB,s2):=by decide+kernel
theorem ZB:j8 [(sA,s1),(sB,s2)] sA=s1∧gT [(sA,s1),(sB,s2)] sA=true:=by decide+kernel
theorem xDl:ju [(sA,s1),(sB,s2)] sA=[(sB,s2)]:=by decide+kernel
theorem xGo:gT [(sB,s2)] sA=false:=by decide+kernel
theorem XC:cH sB s2=true∧cH sA s1=true∧eH s0 s0=110:=by decide+kernel
theorem XD:cx ([]:List En)<80∧cx [(sB,s2)]<80∧cx [(sA,s1),(sB,s2)]<80:=by decide+kernel
theorem Ow (T:cB B w0)(h:Sep B w0 w l):Calls Tryz.prog 9 #[] w fun e w'=>e=.returned (.bool true)∧Sep B w0 w' l:=by
 have HT:Hid (cB B w0):=T;have ZC:(Dk.new 9).room=9:=sS (by omega) (by omega);have HC:Hid (Cap (Dk.new 9).room (Dk.new 9) []∧Cap (Dk.new 9).room (Dk.new 9) [(sB,s2)]∧Cap (Dk.new 9).room (Dk.new 9) [(sA,s1),(sB,s2)]∧(Dk.new 9).room<=16384):=by
  rw[ZC];exact⟨sR (by simp) XD.1 (by omega),sR (by simp) XD.2.1 (by omega),sR (by simp) XD.2.2 (by omega),by omega⟩
 have KT:Hid _:=Ki (n:=9) (by omega) (by omega) h;clear h T ZC;generalize Dk.new 9=d0 at*;go_enter Tryz.func9,Tryz.ntmps9
 go_wp2_with fail
 refine Calls.mono KT.out ?_;rintro e w1 ⟨C,rfl,hC,h1⟩;have C0:Hid (C.err=0):=hC;have K1:Hid _:=wX (key:=sB) (val:=s2) HT.out HC.out.2.2.2 hC XC.1 HC.out.1 (by simp) (by omega) h1;rw[xE1]at K1;clear KT h1 hC;unfold ptr at*
 go_wp2_with fail
 refine Calls.mono K1.out ?_;rintro e w2 ⟨rfl,h2⟩;have K2:Hid _:=wX (key:=sA) (val:=s1) HT.out HC.out.2.2.2 C0.out XC.2.1 HC.out.2.1 (by simp) (by omega) h2;rw[xE2]at K2;clear K1 h2;unfold ptr at*
 go_wp2_with fail
 refine Calls.mono K2.out ?_;rintro e w3 ⟨rfl,h3⟩;have K3:Hid _:=zy (fr:=s0) (tt:=s0) HT.out HC.out.2.2.2 C0.out (by simp) h3;rw[xSc]at K3;clear K2 h3;unfold ptr at*
 go_wp2_with fail
 refine Calls.mono K3.out ?_;rintro e w4 ⟨ao,c,rfl,h4⟩;have K4:Hid _:=zA (fr:=⟨#[97,97]⟩) HT.out HC.out.2.2.2 C0.out (by simp) h4;rw[xNx]at K4;clear K3 h4;unfold ptr at*
 go_wp2_with fail
 refine Calls.mono K4.out ?_;rintro e w5 ⟨rfl,h5⟩;have H6:Hid _:=bY.blk h5 (.cells #[.string sB,.string s2] 45);have K6:Hid _:=wY (key:=sA) HT.out HC.out.2.2.2 C0.out (by simp) H6.out;rw[ZB.1,ZB.2]at K6;clear K4 h5;unfold ptr at*;simp only[Option.getD_some,Option.isSome_some]
 go_wp2_with fail
 generalize w5.alloc (.cells #[.string sB,.string s2] 45)=w6 at*;generalize w5.heap.size=q6 at*;refine Calls.mono K6.out ?_;rintro e w7 ⟨rfl,h7⟩;have K7:Hid _:=DK (key:=sA) HT.out HC.out.2.2.2 C0.out HC.out.2.2.1 (by simp) (by omega) h7;rw[ZB.2,xDl]at K7;clear K6 h7 H6;unfold ptr at*
 go_wp2_with fail
 refine Calls.mono K7.out ?_;rintro e w8 ⟨rfl,h8⟩;have K8:Hid _:=wY (key:=sA) HT.out HC.out.2.2.2 C0.out (by simp) h8;rw[xGo]at K8;clear K7 h8;generalize j8 [(sB,s2)] sA=gv at*;unfold ptr at*
 go_wp2_with fail
 refine Calls.mono K8.out ?_;rintro e w9 ⟨rfl,h9⟩;have K9:Hid _:=zB HT.out HC.out.2.2.2 C0.out (by simp) h9;clear K8 h9;unfold ptr at*
 go_wp2_with fail
 refine Calls.mono K9.out ?_;rintro e Uv ⟨aw,cw,V,r,X,H,rfl,h10⟩;have hV:V.length=1:=h10.one (by simp) XD.2.1 (by simp);have XE:Hid _:=h10.ZA;have ZE:Hid _:=Kg (key:=s0) (val:=s0) C0.out (by rw[XC.2.2];decide) h10.ZA;rw[XC.2.2]at ZE;have hs:=h10.ZA.sep;obtain⟨_,⟨b0,b1⟩,_⟩:=Sep.c2 (Sep.pk [_] hs);obtain⟨cR,cap',e',_,_,h3⟩:=Sep.Dz (Sep.pk [_,_] hs);obtain⟨rb,XA,hae,hrb,z0,_⟩:=N.cC h3 0 (by simp) (Below.refl _ _);obtain⟨rb2,ZF,Fy,ZG,z2,_⟩:=N.cC h3 1 (by simp) (Below.refl _ _);have e2:ao=cR:=by injection e'
 subst e2;subst hae;obtain⟨rfl,rfl⟩:rb=rb2∧XA=ZF:=by cases Fy;exact⟨rfl,rfl⟩
 have z0':Uv.cell? ⟨rb,XA,none⟩=some (.string sA):=z0;have z1':Uv.cell? ⟨rb,XA+2,none⟩=some (.string sB):=z2;clear K9 h10 hs h3 e' Fy z0 z2;rw[hV];unfold ptr at*
 go_wp2_with fail
 refine Calls.mono ZE.out ?_;rintro e w11 ⟨rfl,h11⟩;have H11:Hid _:=h11.sep;have K11:Hid _:=DM h11 C0.out;clear ZE h11 b0 b1 z0' z1' hrb ZG XE;unfold ptr at*
 go_wp2_with fail
 refine Calls.mono K11.out ?_;rintro e w12 ⟨rfl,rfl⟩;clear K11;go_wp2;go_ret;exact⟨rfl,Sep.drop (Sep.drop (Sep.drop H11.out))⟩
end
end P
namespace N
theorem Ox {l:List En}{k:ByteArray}{i:Nat}(h:i<l.length):j8 (l.drop i) k=(if l[i]!.1=k then l[i]!.2 else j8 (l.drop (i+1)) k)∧gT (l.drop i) k=(decide (l[i]!.1=k)||gT (l.drop (i+1)) k):=by
 rw[gJ h];exact⟨rfl,by simp[gT]⟩
theorem zC (v:Value)(l:List En)(k:ByteArray)(w:World)(h:Row aG 2 w v l)(hl:l.length<=1000000):
  Calls Tryz.prog 16 #[v,.string k] w fun e w'=>e=.returned (.tuple #[.string (j8 l k),.bool (gT l k)])∧w=w':=by
 obtain⟨ao,cap,rfl,h1,h2,h3⟩:=h;have H3:Aside (l≠[]->∃b off,ao=some ⟨b,off,none⟩∧b<w.heap.size∧bI aG 2 w b off l):=h3;clear h3;go_enter Tryz.func16,Tryz.ntmps16;go_wp2
 go_loopg [6] l.length (fun kx s6 wr=>∃(i:Nat),s6=.int .i64 i∧i<=l.length∧l.length-i<=kx∧w=wr∧Hid (j8 l k=j8 (l.drop i) k∧gT l k=gT (l.drop i) k))
 case atStart=>exact⟨0,rfl,Nat.zero_le _,Nat.le_refl _,rfl,rfl,rfl⟩
 case round=>
  obtain⟨i,rfl,hi,hki,rfl,HN⟩:=hrel;by_cases hil:i<l.length
  ·have dy:(i:Int)< (l.length:Int):=by omega
   obtain⟨b,off,rfl,hb,x1,x2⟩:=cC H3.out i hil (Below.refl _ w);have T:Hid _:=Ox (k:=k) hil;generalize l[i]! =x at*;by_cases he:x.1=k
   ·have hs:(x.1.toList==k.toList)=true:=by rw[he];simp
    have E:Hid (j8 l k=x.2∧gT l k=true):=by
     obtain⟨t1,t2⟩:=T.out;rw[if_pos he]at t1;rw[decide_eq_true he,Bool.true_or]at t2;exact⟨HN.out.1.trans t1,HN.out.2.trans t2⟩
    have he2:x.1.toList=k.toList:=by rw[he]
    clear HN T he;go_wp2;go_ret2;exact⟨by rw[E.out.1,E.out.2];rfl,rfl⟩
   ·have hs:(x.1.toList==k.toList)=false:=Ar he;have he2:¬x.1.toList=k.toList:=fun e=>he (dY e);have N2:Hid (j8 l k=j8 (l.drop (i+1)) k∧gT l k=gT (l.drop (i+1)) k):=by
     obtain⟨t1,t2⟩:=T.out;rw[if_neg he]at t1;rw[decide_eq_false he,Bool.false_or]at t2;exact⟨HN.out.1.trans t1,HN.out.2.trans t2⟩
    clear HN T he;go_wp2
    go_roundg (l.length- (i+1))
    case measure=>omega
    case rel=>exact⟨i+1,by go_num,by omega,Nat.le_refl _,rfl,N2⟩
  ·have dy:¬(i:Int)< (l.length:Int):=by omega
   obtain rfl:i=l.length:=by omega
   rw[List.drop_length]at HN;go_wp2;go_ret2;exact⟨by rw[HN.out.1,HN.out.2];rfl,rfl⟩
theorem Oy {l:List En}{k:ByteArray}{i:Nat}(h:i<l.length):ju (l.take (i+1)) k=ju (l.take i) k++(if l[i]!.1=k then []else [l[i]!]):=by
 rw[cJ h];unfold ju;rw[List.filter_append]
 congr 1
 generalize l[i]! =x;by_cases c:x.1=k
 ·rw[if_pos c];simp[c]
 ·rw[if_neg c];simp[c]
theorem zD (v:Value)(l:List En)(k:ByteArray)(w:World)(h:Row aG 2 w v l)(hl:l.length<=100000):
  Calls Tryz.prog 17 #[v,.string k] w (Gv w (ju l k)):=by
 obtain⟨ao,cap,rfl,h1,h2,h3⟩:=h;have H3:Aside (l≠[]->∃b off,ao=some ⟨b,off,none⟩∧b<w.heap.size∧bI aG 2 w b off l):=h3;clear h3;go_enter Tryz.func17,Tryz.ntmps17;go_wp2
 go_loopg [5,6] l.length (fun kx s5 s6 wr=>∃(i:Nat) (cR:Option Addr) (n' c':Nat) (out:List En),s5=.slice cR n' c'∧s6=.int .i64 i∧i<=l.length∧l.length-i<=kx∧out.length<=i∧Hid (ju (l.take i) k=out)∧Aside (cX w.heap.size wr (.slice cR n' c') out)∧Hid (Below w.heap.size w wr))
 case atStart=>exact⟨0,none,0,0,[],rfl,rfl,Nat.zero_le _,Nat.le_refl _,Nat.le_refl _,rfl,cX.empty _ _ _,Below.refl _ _⟩
 case round=>
  obtain⟨i,cR,n',c',out,rfl,rfl,hi,hki,hol,HD,HO,HB⟩:=hrel;by_cases hil:i<l.length
  ·have dy:(i:Int)< (l.length:Int):=by omega
   obtain⟨b,off,rfl,hb,x1,x2⟩:=cC H3.out i hil HB.out;have T:Hid _:=Oy (k:=k) hil;rw[HD.out]at T;generalize l[i]! =x at*;by_cases he:x.1=k
   ·have hs:(x.1.toList==k.toList)=true:=by rw[he];simp
    have he2:x.1.toList=k.toList:=by rw[he]
    have T2:Hid (ju (l.take (i+1)) k=out):=by
     have:=T.out;rw[if_pos he,List.append_nil]at this;exact this
    clear T he;go_wp2
    go_roundg (l.length- (i+1))
    case measure=>omega
    case rel=>exact⟨i+1,cR,n',c',out,rfl,by go_num,by omega,Nat.le_refl _,by omega,T2,HO,HB⟩
   ·have hs:(x.1.toList==k.toList)=false:=Ar he;have he2:¬x.1.toList=k.toList:=fun e=>he (dY e);obtain⟨o2,ho2⟩:∃o2,out++[x]=o2:=⟨_,rfl⟩;have O2:Hid (out++[x]=o2):=ho2;have l2:o2.length<=i+1:=by rw[<-ho2];simp;omega
    have T2:Hid (ju (l.take (i+1)) k=o2):=by
     have:=T.out;rw[if_neg he,ho2]at this;exact this
    have B2:Hid (Below w.heap.size w (wr.alloc (.cells #[.string x.1,.string x.2] 45))):=HB.out.alloc HB.out.size _;have OA:Aside (cX w.heap.size (wr.alloc (.cells #[.string x.1,.string x.2] 45)) (.slice cR n' c') out):=HO.out.below ((Below.refl _ wr).alloc (Nat.le_refl _) _);have RO:Hid (Row aG 2 (wr.alloc (.cells #[.string x.1,.string x.2] 45)) (.slice (some ⟨wr.heap.size,0,none⟩) 1 1) [x]):=(Cl.new wr #[.string x.1,.string x.2] 45).row;have hsz:=B2.out.size;clear T he ho2 HO HD
    go_wp2_with (at_builtin;refine jO rfl _ _ rfl w.heap.size _ out rfl OA.out _ [x] rfl RO.out (by simp;omega) hsz o2 O2.out ?_)
    intro a3 n3 c3 w3 O3 B3;have O4:Aside (cX w.heap.size w3 (.slice a3 n3 c3) o2):=O3;have B4:Hid (Below w.heap.size w w3):=B3 _ B2.out;clear O3 B3 OA RO B2 hsz O2;go_wp2
    go_roundg (l.length- (i+1))
    case measure=>omega
    case rel=>exact⟨i+1,a3,n3,c3,o2,rfl,by go_num,by omega,Nat.le_refl _,by omega,T2,O4,B4⟩
  ·have dy:¬(i:Int)< (l.length:Int):=by omega
   obtain rfl:i=l.length:=by omega
   rw[List.take_length]at HD;go_wp2;go_ret;exact⟨_,rfl,by rw[HD.out];exact HO.out.own,HB.out⟩
theorem qx {a b:ByteArray}:bf a b=!(bf b a||decide (b=a)):=by
 cases h:bf a b
 ·by_cases e:b=a
  ·simp[e]
  ·rw[fP h fun e2=>e e2.symm];rfl
 ·rw[fO h,decide_eq_false fun e=>fk h e.symm];rfl
theorem Kj {r:List En}{x:En}{i:Nat}(h:i<r.length):gU x (r.drop i)=(if bf x.1 r[i]!.1=true then x::r[i]! ::r.drop (i+1)else r[i]! ::gU x (r.drop (i+1))):=by
 rw[gJ h];rfl
theorem Kk (vl:Value)(l:List En)(k v:ByteArray)(w:World)(h:Row aG 2 w vl l)(hl:l.length<=100000):
  Calls Tryz.prog 14 #[vl,.string k,.string v] w (Gv w (mi l k v)):=by
 have C:Hid _:=zD vl l k w h hl;obtain⟨ao,c,rfl,_⟩:=h.shape;have hr:=Au l k;unfold mi;generalize ju l k=r at*;obtain⟨P,hP⟩:∃P,gU (k,v) r=P:=⟨_,rfl⟩;rw[hP];have HP:Hid (gU (k,v) r=P):=hP;have hrl:r.length<=100000:=by omega
 clear h hP hl hr;go_enter Tryz.func14,Tryz.ntmps14
 go_upto_region 2 with(go_at_call 17;refine Calls.mono C.out ?_;rintro e w1 ⟨v1,rfl,ho,hb⟩)
 obtain⟨ro,rc,rfl,h1,h2,h3⟩:=ho.row;have H3:Aside (r≠[]->∃b off,ro=some ⟨b,off,none⟩∧b<w1.heap.size∧bI aG 2 w1 b off r):=h3;have B1:Hid (Below w.heap.size w w1):=hb;clear h3 hb ho C;go_wp2
 go_loopg [8,9,10] r.length (fun kx s8 s9 s10 wr=>∃(i:Nat) (d:Bool) (cR:Option Addr) (n' c':Nat) (out:List En),s8=.slice cR n' c'∧s9=.bool d∧s10=.int .i64 i∧i<=r.length∧r.length-i<=kx∧out.length<=2*i∧Hid (out++(if d=true then r.drop i else gU (k,v) (r.drop i))=P)∧Aside (cX w1.heap.size wr (.slice cR n' c') out)∧Hid (Below w1.heap.size w1 wr))
 case atStart=>exact⟨0,false,none,0,0,[],rfl,rfl,rfl,Nat.zero_le _,Nat.le_refl _,by simp,HP,cX.empty _ _ _,Below.refl _ _⟩
 case round=>
  clear HP;obtain⟨i,d,cR,n',c',out,rfl,rfl,rfl,hi,hki,hol,HE,HO,HB⟩:=hrel;by_cases hil:i<r.length
  ·have dy:(i:Int)< (r.length:Int):=by omega
   obtain⟨b,off,rfl,hb,x1,x2⟩:=cC H3.out i hil HB.out;have T:Hid _:=Kj (x:=(k,v)) hil;have T2:Hid (r.drop i=r[i]! ::r.drop (i+1)):=gJ hil;obtain⟨y,hy⟩:∃y,r[i]! =y:=⟨_,rfl⟩;rw[hy]at x1 x2 T T2;have Y:Hid (r[i]! =y):=hy;clear hy;cases d with
   |true=>
    obtain⟨o2,ho2⟩:∃o2,out++[y]=o2:=⟨_,rfl⟩;have O2:Hid (out++[y]=o2):=ho2;have l2:o2.length<=2*i+1:=by rw[<-ho2];simp;omega
    have E2:Hid (o2++(if true=true then r.drop (i+1)else gU (k,v) (r.drop (i+1)))=P):=by
     have:=HE.out;rw[if_pos rfl,T2.out]at this;show _=_;rw[if_pos rfl,<-ho2,<-this,List.append_assoc];rfl
    have B2:Hid (Below w1.heap.size w1 (wr.alloc (.cells #[.string y.1,.string y.2] 45))):=HB.out.alloc HB.out.size _;have OA:Aside (cX w1.heap.size (wr.alloc (.cells #[.string y.1,.string y.2] 45)) (.slice cR n' c') out):=HO.out.below ((Below.refl _ wr).alloc (Nat.le_refl _) _);have RO:Hid (Row aG 2 (wr.alloc (.cells #[.string y.1,.string y.2] 45)) (.slice (some ⟨wr.heap.size,0,none⟩) 1 1) [y]):=(Cl.new wr #[.string y.1,.string y.2] 45).row;have hsz:=B2.out.size;clear T T2 ho2 HO HE
    go_wp2_with (at_builtin;refine jO rfl _ _ rfl w1.heap.size _ out rfl OA.out _ [y] rfl RO.out (by simp;omega) hsz o2 O2.out ?_)
    intro a3 n3 c3 w3 O3 B3;have O4:Aside (cX w1.heap.size w3 (.slice a3 n3 c3) o2):=O3;have B4:Hid (Below w1.heap.size w1 w3):=B3 _ B2.out;clear O3 B3 OA RO B2 hsz O2;go_wp2
    go_roundg (r.length- (i+1))
    case measure=>omega
    case rel=>exact⟨i+1,true,a3,n3,c3,o2,rfl,rfl,by go_num,by omega,Nat.le_refl _,by omega,E2,O4,B4⟩
   |false=>
    cases hg:bf k y.1 with
    |false=>
     have hgt:(!(Op.bytesLess y.1.toList k.toList||y.1.toList==k.toList))=false:=by
      rw[str_eq];have:=qx (a:=k) (b:=y.1);rw[hg]at this;exact this.symm
     obtain⟨o2,ho2⟩:∃o2,out++[y]=o2:=⟨_,rfl⟩;have O2:Hid (out++[y]=o2):=ho2;have l2:o2.length<=2*i+1:=by rw[<-ho2];simp;omega
     have E2:Hid (o2++(if false=true then r.drop (i+1)else gU (k,v) (r.drop (i+1)))=P):=by
      have:=HE.out;rw[if_neg (by simp),T.out,if_neg (by rw[hg];simp)]at this;show _=_;rw[if_neg (by simp),<-ho2,<-this,List.append_assoc];rfl
     have B2:Hid (Below w1.heap.size w1 (wr.alloc (.cells #[.string y.1,.string y.2] 45))):=HB.out.alloc HB.out.size _;have OA:Aside (cX w1.heap.size (wr.alloc (.cells #[.string y.1,.string y.2] 45)) (.slice cR n' c') out):=HO.out.below ((Below.refl _ wr).alloc (Nat.le_refl _) _);have RO:Hid (Row aG 2 (wr.alloc (.cells #[.string y.1,.string y.2] 45)) (.slice (some ⟨wr.heap.size,0,none⟩) 1 1) [y]):=(Cl.new wr #[.string y.1,.string y.2] 45).row;have hsz:=B2.out.size;clear T T2 ho2 HO HE hg
     go_upto_region 10 with fail
     go_wp2_with (at_builtin;refine jO rfl _ _ rfl w1.heap.size _ out rfl OA.out _ [y] rfl RO.out (by simp;omega) hsz o2 O2.out ?_)
     intro a3 n3 c3 w3 O3 B3;have O4:Aside (cX w1.heap.size w3 (.slice a3 n3 c3) o2):=O3;have B4:Hid (Below w1.heap.size w1 w3):=B3 _ B2.out;clear O3 B3 OA RO B2 hsz O2;go_wp2
     go_roundg (r.length- (i+1))
     case measure=>omega
     case rel=>exact⟨i+1,false,a3,n3,c3,o2,rfl,rfl,by go_num,by omega,Nat.le_refl _,by omega,E2,O4,B4⟩
    |true=>
     have hgt:(!(Op.bytesLess y.1.toList k.toList||y.1.toList==k.toList))=true:=by
      rw[str_eq];have:=qx (a:=k) (b:=y.1);rw[hg]at this;exact this.symm
     obtain⟨o2,ho2⟩:∃o2,out++[(k,v)]=o2:=⟨_,rfl⟩;obtain⟨o3,ho3⟩:∃o3,o2++[y]=o3:=⟨_,rfl⟩;have O2:Hid (out++[(k,v)]=o2):=ho2;have O3:Hid (o2++[y]=o3):=ho3;have l2:o2.length<=2*i+1:=by rw[<-ho2];simp;omega
     have l3:o3.length<=2*i+2:=by rw[<-ho3];simp;omega
     have E2:Hid (o3++(if true=true then r.drop (i+1)else gU (k,v) (r.drop (i+1)))=P):=by
      have:=HE.out;rw[if_neg (by simp),T.out,if_pos hg]at this;show _=_;rw[if_pos rfl,<-ho3,<-ho2,<-this,List.append_assoc,List.append_assoc];rfl
     have B2:Hid (Below w1.heap.size w1 (wr.alloc (.cells #[.string k,.string v] 45))):=HB.out.alloc HB.out.size _;have OA:Aside (cX w1.heap.size (wr.alloc (.cells #[.string k,.string v] 45)) (.slice cR n' c') out):=HO.out.below ((Below.refl _ wr).alloc (Nat.le_refl _) _);have RO:Hid (Row aG 2 (wr.alloc (.cells #[.string k,.string v] 45)) (.slice (some ⟨wr.heap.size,0,none⟩) 1 1) [(k,v)]):=(Cl.new wr #[.string k,.string v] 45).row;have hsz:=B2.out.size;clear T T2 ho2 ho3 HO HE hg
     go_upto_region 8 with fail
     go_wp2_with (at_builtin;refine jO rfl _ _ rfl w1.heap.size _ out rfl OA.out _ [(k,v)] rfl RO.out (by simp;omega) hsz o2 O2.out ?_)
     intro a3 n3 c3 w3 P3 Q3;have P4:Aside (cX w1.heap.size w3 (.slice a3 n3 c3) o2):=P3;have B4:Hid (Below w1.heap.size w1 w3):=Q3 _ B2.out;clear P3 Q3 OA RO B2 hsz O2 x1 x2;obtain⟨b5,aaF,e5,_,y1,y2⟩:=cC H3.out i hil B4.out;cases e5;rw[Y.out]at y1 y2;have B5:Hid (Below w1.heap.size w1 (w3.alloc (.cells #[.string y.1,.string y.2] 45))):=B4.out.alloc B4.out.size _;have OB:Aside (cX w1.heap.size (w3.alloc (.cells #[.string y.1,.string y.2] 45)) (.slice a3 n3 c3) o2):=P4.out.below ((Below.refl _ w3).alloc (Nat.le_refl _) _);have RB:Hid (Row aG 2 (w3.alloc (.cells #[.string y.1,.string y.2] 45)) (.slice (some ⟨w3.heap.size,0,none⟩) 1 1) [y]):=(Cl.new w3 #[.string y.1,.string y.2] 45).row;have hsz:=B5.out.size;clear P4
     go_wp2_with (at_builtin;refine jO rfl _ _ rfl w1.heap.size _ o2 rfl OB.out _ [y] rfl RB.out (by simp;omega) hsz o3 O3.out ?_)
     intro a6 n6 c6 w6 P6 Q6;have P7:Aside (cX w1.heap.size w6 (.slice a6 n6 c6) o3):=P6;have B7:Hid (Below w1.heap.size w1 w6):=Q6 _ B5.out;clear P6 Q6 OB RB B5 hsz O3 y1 y2;go_wp2
     go_roundg (r.length- (i+1))
     case measure=>omega
     case rel=>exact⟨i+1,true,a6,n6,c6,o3,rfl,rfl,by go_num,by omega,Nat.le_refl _,by omega,E2,P7,B7⟩
  ·have dy:¬(i:Int)< (r.length:Int):=by omega
   obtain rfl:i=r.length:=by omega
   rw[List.drop_length]at HE;cases d with
   |true=>
    have E2:Hid (out=P):=by have:=HE.out;rw[if_pos rfl,List.append_nil]at this;exact this
    clear HE;go_wp2;go_ret;exact⟨_,rfl,by rw[<-E2.out];exact HO.out.own.mono B1.out.size,B1.out.trans (HB.out.mono B1.out.size)⟩
   |false=>
    have E2:Hid (out++[(k,v)]=P):=by have:=HE.out;rw[if_neg (by simp)]at this;exact this
    have B2:Hid (Below w1.heap.size w1 (wr.alloc (.cells #[.string k,.string v] 45))):=HB.out.alloc HB.out.size _;have OA:Aside (cX w1.heap.size (wr.alloc (.cells #[.string k,.string v] 45)) (.slice cR n' c') out):=HO.out.below ((Below.refl _ wr).alloc (Nat.le_refl _) _);have RO:Hid (Row aG 2 (wr.alloc (.cells #[.string k,.string v] 45)) (.slice (some ⟨wr.heap.size,0,none⟩) 1 1) [(k,v)]):=(Cl.new wr #[.string k,.string v] 45).row;have hsz:=B2.out.size;clear HE HO
    go_wp2_with (at_builtin;refine jO rfl _ _ rfl w1.heap.size _ out rfl OA.out _ [(k,v)] rfl RO.out (by simp;omega) hsz P E2.out ?_)
    intro a3 n3 c3 w3 P3 Q3;have P4:Aside (cX w1.heap.size w3 (.slice a3 n3 c3) P):=P3;have B4:Hid (Below w1.heap.size w1 w3):=Q3 _ B2.out;clear P3 Q3 OA RO B2 hsz;go_wp2;go_ret;exact⟨_,rfl,P4.out.own.mono B1.out.size,B1.out.trans (B4.out.mono B1.out.size)⟩
theorem Fz (v:Value)(l:List En)(w:World)(h:Row aG 2 w v l)(hl:l.length<=1000000)(hs:cx l<=1000000000):
  Calls Tryz.prog 164 #[v] w fun e w'=>e=.returned (.int .i64 (cx l))∧Below w.heap.size w w':=by
 obtain⟨ao,cap,rfl,h1,h2,h3⟩:=h;have H3:Aside (l≠[]->∃b off,ao=some ⟨b,off,none⟩∧b<w.heap.size∧bI aG 2 w b off l):=h3;clear h3;go_enter Tryz.func164,Tryz.ntmps164;go_wp2
 go_loopg [3,4] l.length (fun kx s3 s4 wr=>∃(i n:Nat),s3=.int .i64 n∧s4=.int .i64 i∧i<=l.length∧l.length-i<=kx∧Hid (cx (l.take i)=n)∧Hid (GR w wr))
 case atStart=>exact⟨0,0,rfl,rfl,Nat.zero_le _,Nat.le_refl _,rfl,GR.refl _⟩
 case round=>
  obtain⟨i,n,rfl,rfl,hi,hki,HS,HG⟩:=hrel;by_cases hil:i<l.length
  ·have dy:(i:Int)< (l.length:Int):=by omega
   obtain⟨b,off,rfl,hb,x1,x2⟩:=cC H3.out i hil HG.out.below;have hle:=k6 hil;have T:Hid (cx (l.take (i+1))=cx (l.take i)+kf l[i]!):=jN hil;rw[HS.out]at T hle;generalize l[i]! =x at*;unfold kf at T hle;have hx:n+(2+x.1.size+x.2.size)<=1000000000:=by omega
   clear hle
   go_wp2_with fail
   go_quiet (fail)
   go_wp2
   go_roundg (l.length- (i+1))
   case measure=>omega
   case rel=>exact⟨i+1,n+(2+x.1.size+x.2.size),by go_num,by go_num,by omega,Nat.le_refl _,T,HG.out.drewN _⟩
  ·have dy:¬(i:Int)< (l.length:Int):=by omega
   obtain rfl:i=l.length:=by omega
   rw[List.take_length]at HS;go_wp2;go_ret;exact⟨iH (by rw[HS.out]),HG.out.below⟩
theorem Bt (n:Nd)(ve vk vs:Value)(w:World)(h:gY w ve vk vs n)(hs:Sm n):
  Calls Tryz.prog 130 #[.agg #[.bool n.leaf,ve,vk,vs]] w fun e w'=>e=.returned (.int .i64 (dI n))∧Below w.heap.size w w':=by
 obtain⟨lf,es,ks,ss⟩:=n;obtain⟨he,hk,hss⟩:=h;obtain⟨s1,s2,s3,s4,s5⟩:=hs;simp only at he hk hss s1 s2 s3 s4 s5;obtain⟨B,c0,c1,c2,c3,hlt⟩:=rT w lf ve vk vs 98;have CE:Hid _:=Fz ve es _ (he.below B) (by omega) (by omega);have zM:=hss.below B;obtain⟨ae,ce,rfl,_⟩:=ax he;obtain⟨ak,ck,rfl,_⟩:=ax hk;obtain⟨az,cz,rfl,_⟩:=ax hss;have HB:Hid _:=B;clear he hk hss;cases lf with
 |true=>
  have E:Hid (dI ⟨true,es,ks,ss⟩=cx es):=by show _=_;unfold dI;rw[if_pos rfl]
  clear zM;go_enter Tryz.func130,Tryz.ntmps130
  go_upto_region 1 with fail
  generalize w.alloc (.cells #[.bool true,.slice ae es.length ce,.slice ak ks.length ck,.slice az ss.length cz] 98)=W at*
  go_wp2_with (go_at_call 164;refine Calls.mono CE.out ?_;rintro e w1 ⟨rfl,hb⟩)
  go_ret;exact⟨iH (by rw[E.out]),HB.out.trans (hb.mono HB.out.size)⟩
 |false=>
  have E:Hid (dI ⟨false,es,ks,ss⟩=4+bO ss):=by show _=_;unfold dI;rw[if_neg (by simp)]
  obtain⟨lN,lO,e1,h1,h2,h3⟩:=zM;cases e1;have H3:Aside (ss≠[]->∃b off,az=some ⟨b,off,none⟩∧b< (w.alloc (.cells #[.bool false,.slice ae es.length ce,.slice ak ks.length ck,.slice az ss.length cz] 98)).heap.size∧bI encS 1 (w.alloc (.cells #[.bool false,.slice ae es.length ce,.slice ak ks.length ck,.slice az ss.length cz] 98)) b off ss):=h3;clear h3 CE B;go_enter Tryz.func130,Tryz.ntmps130
  go_upto_region 1 with fail
  generalize w.alloc (.cells #[.bool false,.slice ae es.length ce,.slice ak ks.length ck,.slice az ss.length cz] 98)=W at*;go_wp2
  go_loopg [3,4] ss.length (fun kx s3 s4 wr=>∃(i m:Nat),s3=.int .i64 m∧s4=.int .i64 i∧i<=ss.length∧ss.length-i<=kx∧Hid (4+bO (ss.take i)=m)∧W=wr)
  case atStart=>exact⟨0,4,rfl,rfl,Nat.zero_le _,Nat.le_refl _,rfl,rfl⟩
  case round=>
   obtain⟨i,m,rfl,rfl,hi,hki,HS,rfl⟩:=hrel;by_cases hil:i<ss.length
   ·have dy:(i:Int)< (ss.length:Int):=by omega
    obtain⟨b,off,rfl,hb,x1⟩:=gB H3.out i hil (Below.refl _ W);have T:Hid (bO (ss.take (i+1))=bO (ss.take i)+(5+ss[i]!.size)):=xY hil;have hle:bO (ss.take (i+1))<=bO ss:=jR _ _;rw[T.out]at hle;generalize ss[i]! =x at*;have hm:=HS.out;have hx:m+5+x.size<=1000004:=by omega
    have T2:Hid (4+bO (ss.take (i+1))=m+5+x.size):=by show _=_;rw[T.out];omega
    clear hle HS hm;go_wp2
    go_roundg (ss.length- (i+1))
    case measure=>omega
    case rel=>exact⟨i+1,m+5+x.size,by go_num,by go_num,by omega,Nat.le_refl _,T2,rfl⟩
   ·have dy:¬(i:Int)< (ss.length:Int):=by omega
    obtain rfl:i=ss.length:=by omega
    rw[List.take_length]at HS;go_wp2;go_ret;exact⟨iH (by rw[E.out,HS.out]),HB.out⟩
theorem zE (n:Nd)(ve vk vs:Value)(w:World)(h:gY w ve vk vs n)(hs:Sm n):
  Calls Tryz.prog 129 #[.agg #[.bool n.leaf,ve,vk,vs]] w fun e w'=>e=.returned (.bool (cG n))∧Below w.heap.size w w':=by
 obtain⟨lf,es,ks,ss⟩:=n;obtain⟨he,hk,hss⟩:=h;obtain⟨s1,s2,s3,s4,s5⟩:=hs;simp only at he hk hss s1 s2 s3 s4 s5;obtain⟨B,c0,c1,c2,c3,hlt⟩:=rT w lf ve vk vs 98;have CE:Hid _:=k7 ve es _ (he.below B) (by omega);have OZ:=hk.below B;have zM:=hss.below B;obtain⟨ae,ce,rfl,_⟩:=ax he;obtain⟨ak,ck,rfl,_⟩:=ax hk;obtain⟨az,cz,rfl,_⟩:=ax hss;have HB:Hid _:=B;clear he hk hss B;cases lf with
 |true=>
  clear OZ zM;cases hr:gi es with
  |false=>
   have E:Hid (cG ⟨true,es,ks,ss⟩=false):=by
    show _=_;unfold cG;rw[if_pos rfl,hr];simp
   rw[hr]at CE;clear hr;go_enter Tryz.func129,Tryz.ntmps129
   go_upto_region 1 with fail
   generalize w.alloc (.cells #[.bool true,.slice ae es.length ce,.slice ak ks.length ck,.slice az ss.length cz] 98)=W at*
   go_wp2_with (go_at_call 89;refine Calls.mono CE.out ?_;rintro e w1 ⟨rfl,hb⟩)
   go_ret;exact⟨bT E.out.symm,HB.out.trans (hb.mono HB.out.size)⟩
  |true=>
   rw[hr]at CE;by_cases k1:ks.length=0
   ·have z1:((ks.length:Int)==0)=true:=by rw[beq_iff_eq];omega
    by_cases k2:ss.length=0
    ·have E:Hid (cG ⟨true,es,ks,ss⟩=true):=by
      show _=_;unfold cG;rw[if_pos rfl,hr,decide_eq_true k1,decide_eq_true k2];simp
     have z2:((ss.length:Int)==0)=true:=by rw[beq_iff_eq];omega
     clear hr k1 k2;go_enter Tryz.func129,Tryz.ntmps129
     go_upto_region 1 with fail
     generalize w.alloc (.cells #[.bool true,.slice ae es.length ce,.slice ak ks.length ck,.slice az ss.length cz] 98)=W at*
     go_upto_region 3 with(go_at_call 89;refine Calls.mono CE.out ?_;rintro e w1 ⟨rfl,hb⟩)
     have d2:w1.cell? ⟨w.heap.size,2,none⟩=some (.slice ak ks.length ck):=(hb.cell (p:=⟨w.heap.size,2,none⟩) hlt).trans c2;have d3:w1.cell? ⟨w.heap.size,3,none⟩=some (.slice az ss.length cz):=(hb.cell (p:=⟨w.heap.size,3,none⟩) hlt).trans c3;have B1:Hid (Below w.heap.size w w1):=HB.out.trans (hb.mono HB.out.size);clear hb CE;go_wp2;go_ret;exact⟨bT E.out.symm,B1.out⟩
    ·have E:Hid (cG ⟨true,es,ks,ss⟩=false):=by
      show _=_;unfold cG;rw[if_pos rfl,decide_eq_false k2];simp
     have z2:((ss.length:Int)==0)=false:=by rw[beq_eq_false_iff_ne];omega
     clear hr k1 k2;go_enter Tryz.func129,Tryz.ntmps129
     go_upto_region 1 with fail
     generalize w.alloc (.cells #[.bool true,.slice ae es.length ce,.slice ak ks.length ck,.slice az ss.length cz] 98)=W at*
     go_upto_region 3 with(go_at_call 89;refine Calls.mono CE.out ?_;rintro e w1 ⟨rfl,hb⟩)
     have d2:w1.cell? ⟨w.heap.size,2,none⟩=some (.slice ak ks.length ck):=(hb.cell (p:=⟨w.heap.size,2,none⟩) hlt).trans c2;have d3:w1.cell? ⟨w.heap.size,3,none⟩=some (.slice az ss.length cz):=(hb.cell (p:=⟨w.heap.size,3,none⟩) hlt).trans c3;have B1:Hid (Below w.heap.size w w1):=HB.out.trans (hb.mono HB.out.size);clear hb CE;go_wp2;go_ret;exact⟨bT E.out.symm,B1.out⟩
   ·have z1:((ks.length:Int)==0)=false:=by rw[beq_eq_false_iff_ne];omega
    have E:Hid (cG ⟨true,es,ks,ss⟩=false):=by
     show _=_;unfold cG;rw[if_pos rfl,decide_eq_false k1];simp
    clear hr k1;go_enter Tryz.func129,Tryz.ntmps129
    go_upto_region 1 with fail
    generalize w.alloc (.cells #[.bool true,.slice ae es.length ce,.slice ak ks.length ck,.slice az ss.length cz] 98)=W at*
    go_upto_region 3 with(go_at_call 89;refine Calls.mono CE.out ?_;rintro e w1 ⟨rfl,hb⟩)
    have d2:w1.cell? ⟨w.heap.size,2,none⟩=some (.slice ak ks.length ck):=(hb.cell (p:=⟨w.heap.size,2,none⟩) hlt).trans c2;have d3:w1.cell? ⟨w.heap.size,3,none⟩=some (.slice az ss.length cz):=(hb.cell (p:=⟨w.heap.size,3,none⟩) hlt).trans c3;have B1:Hid (Below w.heap.size w w1):=HB.out.trans (hb.mono HB.out.size);clear hb CE;go_wp2;go_ret;exact⟨bT E.out.symm,B1.out⟩
 |false=>
  clear CE;by_cases k1:es.length=0
  ·have k1z:¬(0:Int)< (es.length:Int):=by omega
   by_cases k2:0<ks.length
   ·have Yh:((ks.length:Int)==0)=false:=by rw[beq_eq_false_iff_ne];omega
    by_cases k3:ss.length+1=ks.length
    ·have z3:((ss.length:Int) != (ks.length:Int)-1)=false:=by rw[bne_eq_false_iff_eq];omega
     have E:Hid (cG ⟨false,es,ks,ss⟩=(Eh ks&&uq ss)):=by
      show _=_;unfold cG;rw[if_neg (by simp),decide_eq_true k1,decide_eq_true k2,decide_eq_true k3];simp
     clear k1 k3;obtain⟨my,ck1,e1,a1,a2,a3⟩:=OZ;cases e1;obtain⟨lN,lO,e1,b1,b2,b3⟩:=zM;cases e1;have K3:Aside (ks≠[]->∃b off,ak=some ⟨b,off,none⟩∧b< (w.alloc (.cells #[.bool false,.slice ae es.length ce,.slice ak ks.length ck,.slice az ss.length cz] 98)).heap.size∧bI encI 1 (w.alloc (.cells #[.bool false,.slice ae es.length ce,.slice ak ks.length ck,.slice az ss.length cz] 98)) b off ks):=a3;have S3:Aside (ss≠[]->∃b off,az=some ⟨b,off,none⟩∧b< (w.alloc (.cells #[.bool false,.slice ae es.length ce,.slice ak ks.length ck,.slice az ss.length cz] 98)).heap.size∧bI encS 1 (w.alloc (.cells #[.bool false,.slice ae es.length ce,.slice ak ks.length ck,.slice az ss.length cz] 98)) b off ss):=b3;clear a3 b3;generalize es.length=ne at*;go_enter Tryz.func129,Tryz.ntmps129
     go_upto_region 1 with fail
     generalize w.alloc (.cells #[.bool false,.slice ae ne ce,.slice ak ks.length ck,.slice az ss.length cz] 98)=W at*;go_wp2
     go_loopg [4] ks.length (fun kx s4 wr=>∃(i:Nat),s4=.int .i64 i∧i<=ks.length∧ks.length-i<=kx∧W=wr∧Hid (∀k∈ks.take i,mU k=true))
     case atStart=>exact⟨0,rfl,Nat.zero_le _,Nat.le_refl _,rfl,fun x hx=>by simp at hx⟩
     case round=>
      obtain⟨i,rfl,hi,hki,rfl,HN⟩:=hrel;by_cases hil:i<ks.length
      ·have dy:(i:Int)< (ks.length:Int):=by omega
       obtain⟨b,off,rfl,hb,x1⟩:=pH K3.out i hil (Below.refl _ W);have M:Hid (ks[i]! ∈ks):=iG hil;have T:Hid (mU ks[i]! =true->∀k∈ks.take (i+1),mU k=true):=fun e=>yq HN.out hil e;generalize ks[i]! =x at*;by_cases c1:x<2
       ·have E2:Hid (cG ⟨false,es,ks,ss⟩=false):=by show _=_;rw[E.out,vF M.out (vM (Or.inl c1))];rfl
        clear HN T;go_wp2;go_ret;exact⟨bT E2.out.symm,HB.out⟩
       ·by_cases c2:4294967295<x
        ·have E2:Hid (cG ⟨false,es,ks,ss⟩=false):=by show _=_;rw[E.out,vF M.out (vM (Or.inr c2))];rfl
         clear HN T;go_wp2;go_ret;exact⟨bT E2.out.symm,HB.out⟩
        ·have N2:Hid (∀k∈ks.take (i+1),mU k=true):=T.out (Cr c1 c2);clear HN T;go_wp2
         go_roundg (ks.length- (i+1))
         case measure=>omega
         case rel=>exact⟨i+1,by go_num,by omega,Nat.le_refl _,rfl,N2⟩
      ·have dy:¬(i:Int)< (ks.length:Int):=by omega
       obtain rfl:i=ks.length:=by omega
       rw[List.take_length]at HN;have E1:Hid (cG ⟨false,es,ks,ss⟩=uq ss):=by show _=_;rw[E.out,vE HN.out];rfl
       clear HN E;go_wp2
       go_loopg [5,6] ss.length (fun kx s5 s6 wr=>∃(i:Nat),s5=.int .i64 i∧i<=ss.length∧ss.length-i<=kx∧Hid (GR W wr)∧Hid (∀j,j<i->FH ss j=true))
       case atStart=>exact⟨0,rfl,Nat.zero_le _,Nat.le_refl _,GR.refl _,fun j hj=>absurd hj (Nat.not_lt_zero _)⟩
       case round=>
        obtain⟨i,rfl,hi,hki,HG,HN⟩:=hrel;have d3:wr.cell? ⟨w.heap.size,3,none⟩=some (.slice az ss.length cz):=(HG.out.below.cell (p:=⟨w.heap.size,3,none⟩) hlt).trans c3;by_cases hil:i<ss.length
        ·have dy:(i:Int)< (ss.length:Int):=by omega
         obtain⟨b,off,rfl,hb,x1⟩:=gB S3.out i hil HG.out.below;obtain⟨x,hx⟩:∃x,ss[i]! =x:=⟨_,rfl⟩;rw[hx]at x1;have X:Hid (ss[i]! =x):=hx;clear hx;have C:Hid _:=pG x ⟨#[]⟩ wr;cases hm:cH x ⟨#[]⟩with
         |false=>
          rw[hm]at C;have RF:Hid (uq ss=false):=vC i hil (jQ (b:=false) (c:=(i==0||bf ss[i-1]! ss[i]!)) (by rw[X.out];exact hm) rfl);clear HN hm
          go_wp2_with (go_at_call 13;refine Calls.mono C.out ?_;rintro e w1 ⟨rfl,rfl⟩)
          go_quiet (fail)
          go_wp2;go_ret;exact⟨bT (by rw[E1.out,RF.out]),HB.out.trans ((HG.out.drewN _).below.mono HB.out.size)⟩
         |true=>
          rw[hm]at C;have M:Hid (cH x ⟨#[]⟩=true):=hm;clear hm;rcases Nat.eq_zero_or_pos i with hi0|hi0
          ·have N2:Hid (∀j,j<i+1->FH ss j=true):=fun j hj=>by
            obtain rfl:j=i:=by omega
            rw[jQ (b:=true) (c:=true) (by rw[X.out];exact M.out) (by rw[hi0];rfl)];rfl
           have hd:decide ((0:Int)< (i:Int))=false:=by rw[hi0];decide
           have hd2:decide (0<i)=false:=by rw[hi0];decide
           clear HN hi0
           go_wp2_with (go_at_call 13;refine Calls.mono C.out ?_;rintro e w1 ⟨rfl,rfl⟩)
           go_quiet (fail)
           go_wp2
           go_roundg (ss.length- (i+1))
           case measure=>omega
           case rel=>exact⟨i+1,by go_num,by omega,Nat.le_refl _,HG.out.drewN _,N2⟩
          ·obtain⟨i,rfl⟩:∃i',i=i'+1:=⟨i-1,by omega⟩;clear hi0;obtain⟨b2,Qw,e2,hb2,z1⟩:=gB S3.out i (by omega) HG.out.below;cases e2;obtain⟨y,hy⟩:∃y,ss[i]! =y:=⟨_,rfl⟩;rw[hy]at z1;have Y:Hid (ss[i]! =y):=hy;clear hy;cases hlt1:bf y x
           ·have RF:Hid (uq ss=false):=vC (i+1) hil (jQ (b:=true) (c:=false) (by rw[X.out];exact M.out) (by
             rw[show i+1-1=i from rfl,X.out,Y.out,hlt1];rfl))
            have hlt2:Op.bytesLess y.toList x.toList=false:=hlt1;clear HN hlt1
            go_wp2_with (go_at_call 13;refine Calls.mono C.out ?_;rintro e w1 ⟨rfl,rfl⟩)
            go_quiet (fail)
            go_wp2;go_ret;exact⟨bT (by rw[E1.out,RF.out]),HB.out.trans ((HG.out.drewN _).below.mono HB.out.size)⟩
           ·have N2:Hid (∀j,j<i+1+1->FH ss j=true):=fun j hj=>by
             rcases Nat.lt_or_ge j (i+1)with c|c
             ·exact HN.out j c
             ·obtain rfl:j=i+1:=by omega
              rw[jQ (b:=true) (c:=true) (by rw[X.out];exact M.out) (by rw[show i+1-1=i from rfl,X.out,Y.out,hlt1];simp)];rfl
            have hlt2:Op.bytesLess y.toList x.toList=true:=hlt1;clear HN hlt1
            go_wp2_with (go_at_call 13;refine Calls.mono C.out ?_;rintro e w1 ⟨rfl,rfl⟩)
            go_quiet (fail)
            go_wp2
            go_roundg (ss.length- (i+1+1))
            case measure=>omega
            case rel=>exact⟨i+1+1,by go_num,by omega,Nat.le_refl _,HG.out.drewN _,N2⟩
        ·have dy:¬(i:Int)< (ss.length:Int):=by omega
         obtain rfl:i=ss.length:=by omega
         have RT:Hid (uq ss=true):=Ce HN.out;clear HN;go_wp2;go_ret;exact⟨bT (by rw[E1.out,RT.out]),HB.out.trans (HG.out.below.mono HB.out.size)⟩
    ·have z3:((ss.length:Int) != (ks.length:Int)-1)=true:=by rw[bne_iff_ne];omega
     have E:Hid (cG ⟨false,es,ks,ss⟩=false):=by
      show _=_;unfold cG;rw[if_neg (by simp),decide_eq_false k3];simp
     clear k1 k3 OZ zM;generalize es.length=ne at*;go_enter Tryz.func129,Tryz.ntmps129
     go_upto_region 1 with fail
     generalize w.alloc (.cells #[.bool false,.slice ae ne ce,.slice ak ks.length ck,.slice az ss.length cz] 98)=W at*;go_wp2;go_ret;exact⟨bT E.out.symm,HB.out⟩
   ·have Yh:((ks.length:Int)==0)=true:=by rw[beq_iff_eq];omega
    have E:Hid (cG ⟨false,es,ks,ss⟩=false):=by
     show _=_;unfold cG;rw[if_neg (by simp),decide_eq_false k2];simp
    clear k1 OZ zM;generalize es.length=ne at*;go_enter Tryz.func129,Tryz.ntmps129
    go_upto_region 1 with fail
    generalize w.alloc (.cells #[.bool false,.slice ae ne ce,.slice ak ks.length ck,.slice az ss.length cz] 98)=W at*;go_wp2;go_ret;exact⟨bT E.out.symm,HB.out⟩
  ·have k1z:(0:Int)< (es.length:Int):=by omega
   have E:Hid (cG ⟨false,es,ks,ss⟩=false):=by
    show _=_;unfold cG;rw[if_neg (by simp),decide_eq_false k1];simp
   clear k1 OZ zM;generalize es.length=ne at*;go_enter Tryz.func129,Tryz.ntmps129
   go_upto_region 1 with fail
   generalize w.alloc (.cells #[.bool false,.slice ae ne ce,.slice ak ks.length ck,.slice az ss.length cz] 98)=W at*;go_wp2;go_ret;exact⟨bT E.out.symm,HB.out⟩
end N
end Go.Proofs.YtceoeaemenhbhaaGreatDoor
