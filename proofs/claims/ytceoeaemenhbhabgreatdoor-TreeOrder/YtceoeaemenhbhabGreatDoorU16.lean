/- Walks of the package cowtree and of what it stands on: lemmas, made short. -/
import Derived.Test.YtceoeaemenhbhabGreatDoorU15
import Derived.Test.YtceoeaemenhbhabGreatDoorU5
import Derived.Test.YtceoeaemenhbhabGreatDoorU3
set_option maxHeartbeats 16000000
set_option maxRecDepth 100000
set_option linter.unusedVariables false
set_option linter.unusedSimpArgs false
namespace Go.Proofs.YtceoeaemenhbhabGreatDoor
open Go.Shelf Go.RowKit Go.Lib Go.Sort
namespace P
open N (Nd En eK cF gp ie fY kJ Rg bh cA)
section
variable {B:Nat}{w0 w w':World}{C:Cx}{d:Dk}{l:List aP}{E:List En}{k:Nat}
theorem gZ.blk (h:gZ B w0 d C E k l w)(o:Obj):gZ B w0 d C E k (aF w.heap.size o::l) (w.alloc o):=h.of fun _ _ _ _ s=>Sep.pb [_,_,_,_] (s.aN o)
theorem gZ.sep (h:gZ B w0 d C E k l w):Sep B w0 w l:=by
 obtain⟨r,x,d1,P,X,H,s,_⟩:=h;exact Sep.drop (Sep.drop (Sep.drop (Sep.drop s)))
theorem Tb {V:List kH}{r:Int}{X:List Int}{H:Nat}{P:List NV}{x:TX}{d1:Dk}(hw:SY (V.map uR) r E X H):V.length=X.length:=by
 rcases hw with⟨_,h1,_,h2,_⟩| ⟨_,h,u,_,h1,_,_,h2,_⟩
 ·have:=congrArg List.length h1;rw[List.length_map]at this;rw[this,h2];rfl
 ·have:=congrArg List.length h1;rw[List.length_map,wT,h2]at this;exact this
theorem VJ.one {V:List kH}{r:Int}{X:List Int}{H:Nat}(h:VJ B w0 d C E k l V r X H w)(hE:E.length<=3)(hz:cA E<80)(hne:E≠[]):V.length=1:=by
 obtain⟨x,d1,P,s,hd,TT,M,hc,hw,_⟩:=h;rw[Tb (P:=P) (x:=x) (d1:=d1) hw];have h1:=(TT.ts.flat hE hz).2;rcases hw with⟨_,_,h2,_⟩| ⟨_,hh,u,_,_,_,_,h2,_⟩
 ·exact absurd h2 hne
 ·rw[<-h2,bY]at h1⊢;simp at h1⊢;exact h1
abbrev sA:ByteArray:=⟨#[97]⟩
abbrev sB:ByteArray:=⟨#[98]⟩
abbrev s1:ByteArray:=⟨#[49]⟩
abbrev s2:ByteArray:=⟨#[50]⟩
abbrev s0:ByteArray:=⟨#[]⟩
theorem xE1:gp [] sB s2=[(sB,s2)]:=by decide+kernel
theorem xE2:gp [(sB,s2)] sA s1=[(sA,s1),(sB,s2)]:=by decide+kernel
theorem xSc:iD s0 s0 [(sA,s1),(sB,s2)]=[(sA,s1),(sB,s2)]:=by decide+kernel
theorem xNx:(iD ⟨#[97,97]⟩ s0 [(sA,s1),(sB,s2)]).head?=some (sB,s2):=by decide+kernel
theorem YI:kJ [(sA,s1),(sB,s2)] sA=s1∧fY [(sA,s1),(sB,s2)] sA=true:=by decide+kernel
theorem xDl:ie [(sA,s1),(sB,s2)] sA=[(sB,s2)]:=by decide+kernel
theorem xGo:fY [(sB,s2)] sA=false:=by decide+kernel
theorem WC:cF sB s2=true∧cF sA s1=true∧eK s0 s0=110:=by decide+kernel
theorem WD:cA ([]:List En)<80∧cA [(sB,s2)]<80∧cA [(sA,s1),(sB,s2)]<80:=by decide+kernel
theorem OE (T:cd B w0)(h:Sep B w0 w l):Calls Tryz.prog 6 #[] w fun e w'=>e=.returned (.bool true)∧Sep B w0 w' l:=by
 have HT:Hid (cd B w0):=T;have YJ:(Dk.new 9).room=9:=sT (by omega) (by omega);have HC:Hid (Cap (Dk.new 9).room (Dk.new 9) []∧Cap (Dk.new 9).room (Dk.new 9) [(sB,s2)]∧Cap (Dk.new 9).room (Dk.new 9) [(sA,s1),(sB,s2)]∧(Dk.new 9).room<=16384):=by
  rw[YJ];exact⟨sS (by simp) WD.1 (by omega),sS (by simp) WD.2.1 (by omega),sS (by simp) WD.2.2 (by omega),by omega⟩
 have KT:Hid _:=Bh (n:=9) (by omega) (by omega) h;clear h T YJ;generalize Dk.new 9=d0 at*;go_enter Tryz.func6,Tryz.ntmps6
 go_wp2_with fail
 refine Calls.mono KT.out ?_;rintro e w1 ⟨C,rfl,hC,h1⟩;have C0:Hid (C.err=0):=hC;have K1:Hid _:=mU (key:=sB) (val:=s2) HT.out HC.out.2.2.2 hC WC.1 HC.out.1 (by simp) (by omega) h1;rw[xE1]at K1;clear KT h1 hC;unfold ptr at*
 go_wp2_with fail
 refine Calls.mono K1.out ?_;rintro e w2 ⟨rfl,h2⟩;have K2:Hid _:=mU (key:=sA) (val:=s1) HT.out HC.out.2.2.2 C0.out WC.2.1 HC.out.2.1 (by simp) (by omega) h2;rw[xE2]at K2;clear K1 h2;unfold ptr at*
 go_wp2_with fail
 refine Calls.mono K2.out ?_;rintro e w3 ⟨rfl,h3⟩;have K3:Hid _:=Kk (fr:=s0) (tt:=s0) HT.out HC.out.2.2.2 C0.out (by simp) h3;rw[xSc]at K3;clear K2 h3;unfold ptr at*
 go_wp2_with fail
 refine Calls.mono K3.out ?_;rintro e w4 ⟨ao,c,rfl,h4⟩;have K4:Hid _:=Kl (fr:=⟨#[97,97]⟩) HT.out HC.out.2.2.2 C0.out (by simp) h4;rw[xNx]at K4;clear K3 h4;unfold ptr at*
 go_wp2_with fail
 refine Calls.mono K4.out ?_;rintro e w5 ⟨rfl,h5⟩;have H6:Hid _:=gZ.blk h5 (.cells #[.string sB,.string s2] 38);have K6:Hid _:=Dz (key:=sA) HT.out HC.out.2.2.2 C0.out (by simp) H6.out;rw[YI.1,YI.2]at K6;clear K4 h5;unfold ptr at*;simp only[Option.getD_some,Option.isSome_some]
 go_wp2_with fail
 generalize w5.alloc (.cells #[.string sB,.string s2] 38)=w6 at*;generalize w5.heap.size=q6 at*;refine Calls.mono K6.out ?_;rintro e w7 ⟨rfl,h7⟩;have K7:Hid _:=Dy (key:=sA) HT.out HC.out.2.2.2 C0.out HC.out.2.2.1 (by simp) (by omega) h7;rw[YI.2,xDl]at K7;clear K6 h7 H6;unfold ptr at*
 go_wp2_with fail
 refine Calls.mono K7.out ?_;rintro e w8 ⟨rfl,h8⟩;have K8:Hid _:=Dz (key:=sA) HT.out HC.out.2.2.2 C0.out (by simp) h8;rw[xGo]at K8;clear K7 h8;generalize kJ [(sB,s2)] sA=gv at*;unfold ptr at*
 go_wp2_with fail
 refine Calls.mono K8.out ?_;rintro e w9 ⟨rfl,h9⟩;have K9:Hid _:=zB HT.out HC.out.2.2.2 C0.out (by simp) h9;clear K8 h9;unfold ptr at*
 go_wp2_with fail
 refine Calls.mono K9.out ?_;rintro e VR ⟨aw,cw,V,r,X,H,rfl,h10⟩;have hV:V.length=1:=h10.one (by simp) WD.2.1 (by simp);have H10:Hid _:=h10.YH;have YK:Hid _:=Ta (key:=s0) (val:=s0) C0.out (by rw[WC.2.2];decide) h10.YH;rw[WC.2.2]at YK;have hs:=h10.YH.sep;obtain⟨_,⟨b0,b1⟩,_⟩:=Sep.c2 (Sep.pk [_] hs);obtain⟨cW,cap',e',_,_,h3⟩:=Sep.zm (Sep.pk [_,_] hs);obtain⟨rb,Wz,hae,hrb,z0,_⟩:=N.cC h3 0 (by simp) (Below.refl _ _);obtain⟨rb2,YL,Fb,YM,z2,_⟩:=N.cC h3 1 (by simp) (Below.refl _ _);have e2:ao=cW:=by injection e'
 subst e2;subst hae;obtain⟨rfl,rfl⟩:rb=rb2∧Wz=YL:=by cases Fb;exact⟨rfl,rfl⟩
 have z0':VR.cell? ⟨rb,Wz,none⟩=some (.string sA):=z0;have z1':VR.cell? ⟨rb,Wz+2,none⟩=some (.string sB):=z2;clear K9 h10 hs h3 e' Fb z0 z2;rw[hV];unfold ptr at*
 go_wp2_with fail
 refine Calls.mono YK.out ?_;rintro e w11 ⟨rfl,h11⟩;have H11:Hid _:=h11.sep;have K11:Hid _:=OD h11 C0.out;clear YK h11 b0 b1 z0' z1' hrb YM H10;unfold ptr at*
 go_wp2_with fail
 refine Calls.mono K11.out ?_;rintro e w12 ⟨rfl,rfl⟩;clear K11;go_wp2;go_ret;exact⟨rfl,Sep.drop (Sep.drop (Sep.drop H11.out))⟩
end
end P
namespace N
theorem OG {l:List En}{k:ByteArray}{i:Nat}(h:i<l.length):kJ (l.drop i) k=(if l[i]!.1=k then l[i]!.2 else kJ (l.drop (i+1)) k)∧fY (l.drop i) k=(decide (l[i]!.1=k)||fY (l.drop (i+1)) k):=by
 rw[gJ h];exact⟨rfl,by simp[fY]⟩
theorem Kn (v:Value)(l:List En)(k:ByteArray)(w:World)(h:Row aG 2 w v l)(hl:l.length<=1000000):
  Calls Tryz.prog 15 #[v,.string k] w fun e w'=>e=.returned (.tuple #[.string (kJ l k),.bool (fY l k)])∧w=w':=by
 obtain⟨ao,cap,rfl,h1,h2,h3⟩:=h;have H3:Aside (l≠[]->∃b off,ao=some ⟨b,off,none⟩∧b<w.heap.size∧bJ aG 2 w b off l):=h3;clear h3;go_enter Tryz.func15,Tryz.ntmps15;go_wp2
 go_loopg [6] l.length (fun kx s6 wr=>∃(i:Nat),s6=.int .i64 i∧i<=l.length∧l.length-i<=kx∧w=wr∧Hid (kJ l k=kJ (l.drop i) k∧fY l k=fY (l.drop i) k))
 case atStart=>exact⟨0,rfl,Nat.zero_le _,Nat.le_refl _,rfl,rfl,rfl⟩
 case round=>
  obtain⟨i,rfl,hi,hki,rfl,HN⟩:=hrel;by_cases hil:i<l.length
  ·have dB:(i:Int)< (l.length:Int):=by omega
   obtain⟨b,off,rfl,hb,x1,x2⟩:=cC H3.out i hil (Below.refl _ w);have T:Hid _:=OG (k:=k) hil;generalize l[i]! =x at*;by_cases he:x.1=k
   ·have hs:(x.1.toList==k.toList)=true:=by rw[he];simp
    have E:Hid (kJ l k=x.2∧fY l k=true):=by
     obtain⟨t1,t2⟩:=T.out;rw[if_pos he]at t1;rw[decide_eq_true he,Bool.true_or]at t2;exact⟨HN.out.1.trans t1,HN.out.2.trans t2⟩
    have he2:x.1.toList=k.toList:=by rw[he]
    clear HN T he;go_wp2;go_ret2;exact⟨by rw[E.out.1,E.out.2];rfl,rfl⟩
   ·have hs:(x.1.toList==k.toList)=false:=Am he;have he2:¬x.1.toList=k.toList:=fun e=>he (fc e);have N2:Hid (kJ l k=kJ (l.drop (i+1)) k∧fY l k=fY (l.drop (i+1)) k):=by
     obtain⟨t1,t2⟩:=T.out;rw[if_neg he]at t1;rw[decide_eq_false he,Bool.false_or]at t2;exact⟨HN.out.1.trans t1,HN.out.2.trans t2⟩
    clear HN T he;go_wp2
    go_roundg (l.length- (i+1))
    case measure=>omega
    case rel=>exact⟨i+1,by go_num,by omega,Nat.le_refl _,rfl,N2⟩
  ·have dB:¬(i:Int)< (l.length:Int):=by omega
   obtain rfl:i=l.length:=by omega
   rw[List.drop_length]at HN;go_wp2;go_ret2;exact⟨by rw[HN.out.1,HN.out.2];rfl,rfl⟩
theorem OH {l:List En}{k:ByteArray}{i:Nat}(h:i<l.length):ie (l.take (i+1)) k=ie (l.take i) k++(if l[i]!.1=k then []else [l[i]!]):=by
 rw[cR h];unfold ie;rw[List.filter_append]
 congr 1
 generalize l[i]! =x;by_cases c:x.1=k
 ·rw[if_pos c];simp[c]
 ·rw[if_neg c];simp[c]
theorem Ko (v:Value)(l:List En)(k:ByteArray)(w:World)(h:Row aG 2 w v l)(hl:l.length<=100000):
  Calls Tryz.prog 35 #[v,.string k] w (Gv w (ie l k)):=by
 obtain⟨ao,cap,rfl,h1,h2,h3⟩:=h;have H3:Aside (l≠[]->∃b off,ao=some ⟨b,off,none⟩∧b<w.heap.size∧bJ aG 2 w b off l):=h3;clear h3;go_enter Tryz.func35,Tryz.ntmps35;go_wp2
 go_loopg [5,6] l.length (fun kx s5 s6 wr=>∃(i:Nat) (cW:Option Addr) (n' c':Nat) (out:List En),s5=.slice cW n' c'∧s6=.int .i64 i∧i<=l.length∧l.length-i<=kx∧out.length<=i∧Hid (ie (l.take i) k=out)∧Aside (dz w.heap.size wr (.slice cW n' c') out)∧Hid (Below w.heap.size w wr))
 case atStart=>exact⟨0,none,0,0,[],rfl,rfl,Nat.zero_le _,Nat.le_refl _,Nat.le_refl _,rfl,dz.empty _ _ _,Below.refl _ _⟩
 case round=>
  obtain⟨i,cW,n',c',out,rfl,rfl,hi,hki,hol,HD,HO,HB⟩:=hrel;by_cases hil:i<l.length
  ·have dB:(i:Int)< (l.length:Int):=by omega
   obtain⟨b,off,rfl,hb,x1,x2⟩:=cC H3.out i hil HB.out;have T:Hid _:=OH (k:=k) hil;rw[HD.out]at T;generalize l[i]! =x at*;by_cases he:x.1=k
   ·have hs:(x.1.toList==k.toList)=true:=by rw[he];simp
    have he2:x.1.toList=k.toList:=by rw[he]
    have T2:Hid (ie (l.take (i+1)) k=out):=by
     have:=T.out;rw[if_pos he,List.append_nil]at this;exact this
    clear T he;go_wp2
    go_roundg (l.length- (i+1))
    case measure=>omega
    case rel=>exact⟨i+1,cW,n',c',out,rfl,by go_num,by omega,Nat.le_refl _,by omega,T2,HO,HB⟩
   ·have hs:(x.1.toList==k.toList)=false:=Am he;have he2:¬x.1.toList=k.toList:=fun e=>he (fc e);obtain⟨o2,ho2⟩:∃o2,out++[x]=o2:=⟨_,rfl⟩;have O2:Hid (out++[x]=o2):=ho2;have l2:o2.length<=i+1:=by rw[<-ho2];simp;omega
    have T2:Hid (ie (l.take (i+1)) k=o2):=by
     have:=T.out;rw[if_neg he,ho2]at this;exact this
    have B2:Hid (Below w.heap.size w (wr.alloc (.cells #[.string x.1,.string x.2] 38))):=HB.out.alloc HB.out.size _;have OA:Aside (dz w.heap.size (wr.alloc (.cells #[.string x.1,.string x.2] 38)) (.slice cW n' c') out):=HO.out.below ((Below.refl _ wr).alloc (Nat.le_refl _) _);have RO:Hid (Row aG 2 (wr.alloc (.cells #[.string x.1,.string x.2] 38)) (.slice (some ⟨wr.heap.size,0,none⟩) 1 1) [x]):=(Cl.new wr #[.string x.1,.string x.2] 38).row;have hsz:=B2.out.size;clear T he ho2 HO HD
    go_wp2_with (at_builtin;refine mo rfl _ _ rfl w.heap.size _ out rfl OA.out _ [x] rfl RO.out (by simp;omega) hsz o2 O2.out ?_)
    intro a3 n3 c3 w3 O3 B3;have O4:Aside (dz w.heap.size w3 (.slice a3 n3 c3) o2):=O3;have B4:Hid (Below w.heap.size w w3):=B3 _ B2.out;clear O3 B3 OA RO B2 hsz O2;go_wp2
    go_roundg (l.length- (i+1))
    case measure=>omega
    case rel=>exact⟨i+1,a3,n3,c3,o2,rfl,by go_num,by omega,Nat.le_refl _,by omega,T2,O4,B4⟩
  ·have dB:¬(i:Int)< (l.length:Int):=by omega
   obtain rfl:i=l.length:=by omega
   rw[List.take_length]at HD;go_wp2;go_ret;exact⟨_,rfl,by rw[HD.out];exact HO.out.own,HB.out⟩
theorem qz {a b:ByteArray}:bh a b=!(bh b a||decide (b=a)):=by
 cases h:bh a b
 ·by_cases e:b=a
  ·simp[e]
  ·rw[fN h fun e2=>e e2.symm];rfl
 ·rw[fq h,decide_eq_false fun e=>dY h e.symm];rfl
theorem Kp {r:List En}{x:En}{i:Nat}(h:i<r.length):gT x (r.drop i)=(if bh x.1 r[i]!.1=true then x::r[i]! ::r.drop (i+1)else r[i]! ::gT x (r.drop (i+1))):=by
 rw[gJ h];rfl
theorem Kq (vl:Value)(l:List En)(k v:ByteArray)(w:World)(h:Row aG 2 w vl l)(hl:l.length<=100000):
  Calls Tryz.prog 16 #[vl,.string k,.string v] w (Gv w (gp l k v)):=by
 have C:Hid _:=Ko vl l k w h hl;obtain⟨ao,c,rfl,_⟩:=h.shape;have hr:=QF l k;unfold gp;generalize ie l k=r at*;obtain⟨P,hP⟩:∃P,gT (k,v) r=P:=⟨_,rfl⟩;rw[hP];have HP:Hid (gT (k,v) r=P):=hP;have hrl:r.length<=100000:=by omega
 clear h hP hl hr;go_enter Tryz.func16,Tryz.ntmps16
 go_upto_region 2 with(go_at_call 35;refine Calls.mono C.out ?_;rintro e w1 ⟨v1,rfl,ho,hb⟩)
 obtain⟨ro,rc,rfl,h1,h2,h3⟩:=ho.row;have H3:Aside (r≠[]->∃b off,ro=some ⟨b,off,none⟩∧b<w1.heap.size∧bJ aG 2 w1 b off r):=h3;have B1:Hid (Below w.heap.size w w1):=hb;clear h3 hb ho C;go_wp2
 go_loopg [8,9,10] r.length (fun kx s8 s9 s10 wr=>∃(i:Nat) (d:Bool) (cW:Option Addr) (n' c':Nat) (out:List En),s8=.slice cW n' c'∧s9=.bool d∧s10=.int .i64 i∧i<=r.length∧r.length-i<=kx∧out.length<=2*i∧Hid (out++(if d=true then r.drop i else gT (k,v) (r.drop i))=P)∧Aside (dz w1.heap.size wr (.slice cW n' c') out)∧Hid (Below w1.heap.size w1 wr))
 case atStart=>exact⟨0,false,none,0,0,[],rfl,rfl,rfl,Nat.zero_le _,Nat.le_refl _,by simp,HP,dz.empty _ _ _,Below.refl _ _⟩
 case round=>
  clear HP;obtain⟨i,d,cW,n',c',out,rfl,rfl,rfl,hi,hki,hol,HE,HO,HB⟩:=hrel;by_cases hil:i<r.length
  ·have dB:(i:Int)< (r.length:Int):=by omega
   obtain⟨b,off,rfl,hb,x1,x2⟩:=cC H3.out i hil HB.out;have T:Hid _:=Kp (x:=(k,v)) hil;have T2:Hid (r.drop i=r[i]! ::r.drop (i+1)):=gJ hil;obtain⟨y,hy⟩:∃y,r[i]! =y:=⟨_,rfl⟩;rw[hy]at x1 x2 T T2;have Y:Hid (r[i]! =y):=hy;clear hy;cases d with
   |true=>
    obtain⟨o2,ho2⟩:∃o2,out++[y]=o2:=⟨_,rfl⟩;have O2:Hid (out++[y]=o2):=ho2;have l2:o2.length<=2*i+1:=by rw[<-ho2];simp;omega
    have E2:Hid (o2++(if true=true then r.drop (i+1)else gT (k,v) (r.drop (i+1)))=P):=by
     have:=HE.out;rw[if_pos rfl,T2.out]at this;show _=_;rw[if_pos rfl,<-ho2,<-this,List.append_assoc];rfl
    have B2:Hid (Below w1.heap.size w1 (wr.alloc (.cells #[.string y.1,.string y.2] 38))):=HB.out.alloc HB.out.size _;have OA:Aside (dz w1.heap.size (wr.alloc (.cells #[.string y.1,.string y.2] 38)) (.slice cW n' c') out):=HO.out.below ((Below.refl _ wr).alloc (Nat.le_refl _) _);have RO:Hid (Row aG 2 (wr.alloc (.cells #[.string y.1,.string y.2] 38)) (.slice (some ⟨wr.heap.size,0,none⟩) 1 1) [y]):=(Cl.new wr #[.string y.1,.string y.2] 38).row;have hsz:=B2.out.size;clear T T2 ho2 HO HE
    go_wp2_with (at_builtin;refine mo rfl _ _ rfl w1.heap.size _ out rfl OA.out _ [y] rfl RO.out (by simp;omega) hsz o2 O2.out ?_)
    intro a3 n3 c3 w3 O3 B3;have O4:Aside (dz w1.heap.size w3 (.slice a3 n3 c3) o2):=O3;have B4:Hid (Below w1.heap.size w1 w3):=B3 _ B2.out;clear O3 B3 OA RO B2 hsz O2;go_wp2
    go_roundg (r.length- (i+1))
    case measure=>omega
    case rel=>exact⟨i+1,true,a3,n3,c3,o2,rfl,rfl,by go_num,by omega,Nat.le_refl _,by omega,E2,O4,B4⟩
   |false=>
    cases hg:bh k y.1 with
    |false=>
     have hgt:(!(Op.bytesLess y.1.toList k.toList||y.1.toList==k.toList))=false:=by
      rw[str_eq];have:=qz (a:=k) (b:=y.1);rw[hg]at this;exact this.symm
     obtain⟨o2,ho2⟩:∃o2,out++[y]=o2:=⟨_,rfl⟩;have O2:Hid (out++[y]=o2):=ho2;have l2:o2.length<=2*i+1:=by rw[<-ho2];simp;omega
     have E2:Hid (o2++(if false=true then r.drop (i+1)else gT (k,v) (r.drop (i+1)))=P):=by
      have:=HE.out;rw[if_neg (by simp),T.out,if_neg (by rw[hg];simp)]at this;show _=_;rw[if_neg (by simp),<-ho2,<-this,List.append_assoc];rfl
     have B2:Hid (Below w1.heap.size w1 (wr.alloc (.cells #[.string y.1,.string y.2] 38))):=HB.out.alloc HB.out.size _;have OA:Aside (dz w1.heap.size (wr.alloc (.cells #[.string y.1,.string y.2] 38)) (.slice cW n' c') out):=HO.out.below ((Below.refl _ wr).alloc (Nat.le_refl _) _);have RO:Hid (Row aG 2 (wr.alloc (.cells #[.string y.1,.string y.2] 38)) (.slice (some ⟨wr.heap.size,0,none⟩) 1 1) [y]):=(Cl.new wr #[.string y.1,.string y.2] 38).row;have hsz:=B2.out.size;clear T T2 ho2 HO HE hg
     go_upto_region 10 with fail
     go_wp2_with (at_builtin;refine mo rfl _ _ rfl w1.heap.size _ out rfl OA.out _ [y] rfl RO.out (by simp;omega) hsz o2 O2.out ?_)
     intro a3 n3 c3 w3 O3 B3;have O4:Aside (dz w1.heap.size w3 (.slice a3 n3 c3) o2):=O3;have B4:Hid (Below w1.heap.size w1 w3):=B3 _ B2.out;clear O3 B3 OA RO B2 hsz O2;go_wp2
     go_roundg (r.length- (i+1))
     case measure=>omega
     case rel=>exact⟨i+1,false,a3,n3,c3,o2,rfl,rfl,by go_num,by omega,Nat.le_refl _,by omega,E2,O4,B4⟩
    |true=>
     have hgt:(!(Op.bytesLess y.1.toList k.toList||y.1.toList==k.toList))=true:=by
      rw[str_eq];have:=qz (a:=k) (b:=y.1);rw[hg]at this;exact this.symm
     obtain⟨o2,ho2⟩:∃o2,out++[(k,v)]=o2:=⟨_,rfl⟩;obtain⟨o3,ho3⟩:∃o3,o2++[y]=o3:=⟨_,rfl⟩;have O2:Hid (out++[(k,v)]=o2):=ho2;have O3:Hid (o2++[y]=o3):=ho3;have l2:o2.length<=2*i+1:=by rw[<-ho2];simp;omega
     have l3:o3.length<=2*i+2:=by rw[<-ho3];simp;omega
     have E2:Hid (o3++(if true=true then r.drop (i+1)else gT (k,v) (r.drop (i+1)))=P):=by
      have:=HE.out;rw[if_neg (by simp),T.out,if_pos hg]at this;show _=_;rw[if_pos rfl,<-ho3,<-ho2,<-this,List.append_assoc,List.append_assoc];rfl
     have B2:Hid (Below w1.heap.size w1 (wr.alloc (.cells #[.string k,.string v] 38))):=HB.out.alloc HB.out.size _;have OA:Aside (dz w1.heap.size (wr.alloc (.cells #[.string k,.string v] 38)) (.slice cW n' c') out):=HO.out.below ((Below.refl _ wr).alloc (Nat.le_refl _) _);have RO:Hid (Row aG 2 (wr.alloc (.cells #[.string k,.string v] 38)) (.slice (some ⟨wr.heap.size,0,none⟩) 1 1) [(k,v)]):=(Cl.new wr #[.string k,.string v] 38).row;have hsz:=B2.out.size;clear T T2 ho2 ho3 HO HE hg
     go_upto_region 8 with fail
     go_wp2_with (at_builtin;refine mo rfl _ _ rfl w1.heap.size _ out rfl OA.out _ [(k,v)] rfl RO.out (by simp;omega) hsz o2 O2.out ?_)
     intro a3 n3 c3 w3 P3 Q3;have P4:Aside (dz w1.heap.size w3 (.slice a3 n3 c3) o2):=P3;have B4:Hid (Below w1.heap.size w1 w3):=Q3 _ B2.out;clear P3 Q3 OA RO B2 hsz O2 x1 x2;obtain⟨b5,aaB,e5,_,y1,y2⟩:=cC H3.out i hil B4.out;cases e5;rw[Y.out]at y1 y2;have B5:Hid (Below w1.heap.size w1 (w3.alloc (.cells #[.string y.1,.string y.2] 38))):=B4.out.alloc B4.out.size _;have OB:Aside (dz w1.heap.size (w3.alloc (.cells #[.string y.1,.string y.2] 38)) (.slice a3 n3 c3) o2):=P4.out.below ((Below.refl _ w3).alloc (Nat.le_refl _) _);have RB:Hid (Row aG 2 (w3.alloc (.cells #[.string y.1,.string y.2] 38)) (.slice (some ⟨w3.heap.size,0,none⟩) 1 1) [y]):=(Cl.new w3 #[.string y.1,.string y.2] 38).row;have hsz:=B5.out.size;clear P4
     go_wp2_with (at_builtin;refine mo rfl _ _ rfl w1.heap.size _ o2 rfl OB.out _ [y] rfl RB.out (by simp;omega) hsz o3 O3.out ?_)
     intro a6 n6 c6 w6 P6 Q6;have P7:Aside (dz w1.heap.size w6 (.slice a6 n6 c6) o3):=P6;have B7:Hid (Below w1.heap.size w1 w6):=Q6 _ B5.out;clear P6 Q6 OB RB B5 hsz O3 y1 y2;go_wp2
     go_roundg (r.length- (i+1))
     case measure=>omega
     case rel=>exact⟨i+1,true,a6,n6,c6,o3,rfl,rfl,by go_num,by omega,Nat.le_refl _,by omega,E2,P7,B7⟩
  ·have dB:¬(i:Int)< (r.length:Int):=by omega
   obtain rfl:i=r.length:=by omega
   rw[List.drop_length]at HE;cases d with
   |true=>
    have E2:Hid (out=P):=by have:=HE.out;rw[if_pos rfl,List.append_nil]at this;exact this
    clear HE;go_wp2;go_ret;exact⟨_,rfl,by rw[<-E2.out];exact HO.out.own.mono B1.out.size,B1.out.trans (HB.out.mono B1.out.size)⟩
   |false=>
    have E2:Hid (out++[(k,v)]=P):=by have:=HE.out;rw[if_neg (by simp)]at this;exact this
    have B2:Hid (Below w1.heap.size w1 (wr.alloc (.cells #[.string k,.string v] 38))):=HB.out.alloc HB.out.size _;have OA:Aside (dz w1.heap.size (wr.alloc (.cells #[.string k,.string v] 38)) (.slice cW n' c') out):=HO.out.below ((Below.refl _ wr).alloc (Nat.le_refl _) _);have RO:Hid (Row aG 2 (wr.alloc (.cells #[.string k,.string v] 38)) (.slice (some ⟨wr.heap.size,0,none⟩) 1 1) [(k,v)]):=(Cl.new wr #[.string k,.string v] 38).row;have hsz:=B2.out.size;clear HE HO
    go_wp2_with (at_builtin;refine mo rfl _ _ rfl w1.heap.size _ out rfl OA.out _ [(k,v)] rfl RO.out (by simp;omega) hsz P E2.out ?_)
    intro a3 n3 c3 w3 P3 Q3;have P4:Aside (dz w1.heap.size w3 (.slice a3 n3 c3) P):=P3;have B4:Hid (Below w1.heap.size w1 w3):=Q3 _ B2.out;clear P3 Q3 OA RO B2 hsz;go_wp2;go_ret;exact⟨_,rfl,P4.out.own.mono B1.out.size,B1.out.trans (B4.out.mono B1.out.size)⟩
theorem Fc (v:Value)(l:List En)(w:World)(h:Row aG 2 w v l)(hl:l.length<=1000000)(hs:cA l<=1000000000):
  Calls Tryz.prog 109 #[v] w fun e w'=>e=.returned (.int .i64 (cA l))∧Below w.heap.size w w':=by
 obtain⟨ao,cap,rfl,h1,h2,h3⟩:=h;have H3:Aside (l≠[]->∃b off,ao=some ⟨b,off,none⟩∧b<w.heap.size∧bJ aG 2 w b off l):=h3;clear h3;go_enter Tryz.func109,Tryz.ntmps109;go_wp2
 go_loopg [3,4] l.length (fun kx s3 s4 wr=>∃(i n:Nat),s3=.int .i64 n∧s4=.int .i64 i∧i<=l.length∧l.length-i<=kx∧Hid (cA (l.take i)=n)∧Hid (GR w wr))
 case atStart=>exact⟨0,0,rfl,rfl,Nat.zero_le _,Nat.le_refl _,rfl,GR.refl _⟩
 case round=>
  obtain⟨i,n,rfl,rfl,hi,hki,HS,HG⟩:=hrel;by_cases hil:i<l.length
  ·have dB:(i:Int)< (l.length:Int):=by omega
   obtain⟨b,off,rfl,hb,x1,x2⟩:=cC H3.out i hil HG.out.below;have hle:=k7 hil;have T:Hid (cA (l.take (i+1))=cA (l.take i)+kf l[i]!):=jP hil;rw[HS.out]at T hle;generalize l[i]! =x at*;unfold kf at T hle;have hx:n+(2+x.1.size+x.2.size)<=1000000000:=by omega
   clear hle
   go_wp2_with fail
   go_quiet (fail)
   go_wp2
   go_roundg (l.length- (i+1))
   case measure=>omega
   case rel=>exact⟨i+1,n+(2+x.1.size+x.2.size),by go_num,by go_num,by omega,Nat.le_refl _,T,HG.out.drewN _⟩
  ·have dB:¬(i:Int)< (l.length:Int):=by omega
   obtain rfl:i=l.length:=by omega
   rw[List.take_length]at HS;go_wp2;go_ret;exact⟨iK (by rw[HS.out]),HG.out.below⟩
theorem Bi (n:Nd)(ve vk vs:Value)(w:World)(h:gY w ve vk vs n)(hs:Sm n):
  Calls Tryz.prog 83 #[.agg #[.bool n.leaf,ve,vk,vs]] w fun e w'=>e=.returned (.int .i64 (dG n))∧Below w.heap.size w w':=by
 obtain⟨lf,es,ks,ss⟩:=n;obtain⟨he,hk,hss⟩:=h;obtain⟨s1,s2,s3,s4,s5⟩:=hs;simp only at he hk hss s1 s2 s3 s4 s5;obtain⟨B,c0,c1,c2,c3,hlt⟩:=rU w lf ve vk vs 79;have CE:Hid _:=Fc ve es _ (he.below B) (by omega) (by omega);have zJ:=hss.below B;obtain⟨ae,ce,rfl,_⟩:=ax he;obtain⟨ak,ck,rfl,_⟩:=ax hk;obtain⟨az,cz,rfl,_⟩:=ax hss;have HB:Hid _:=B;clear he hk hss;cases lf with
 |true=>
  have E:Hid (dG ⟨true,es,ks,ss⟩=cA es):=by show _=_;unfold dG;rw[if_pos rfl]
  clear zJ;go_enter Tryz.func83,Tryz.ntmps83
  go_upto_region 1 with fail
  generalize w.alloc (.cells #[.bool true,.slice ae es.length ce,.slice ak ks.length ck,.slice az ss.length cz] 79)=W at*
  go_wp2_with (go_at_call 109;refine Calls.mono CE.out ?_;rintro e w1 ⟨rfl,hb⟩)
  go_ret;exact⟨iK (by rw[E.out]),HB.out.trans (hb.mono HB.out.size)⟩
 |false=>
  have E:Hid (dG ⟨false,es,ks,ss⟩=4+bO ss):=by show _=_;unfold dG;rw[if_neg (by simp)]
  obtain⟨lO,lQ,e1,h1,h2,h3⟩:=zJ;cases e1;have H3:Aside (ss≠[]->∃b off,az=some ⟨b,off,none⟩∧b< (w.alloc (.cells #[.bool false,.slice ae es.length ce,.slice ak ks.length ck,.slice az ss.length cz] 79)).heap.size∧bJ encS 1 (w.alloc (.cells #[.bool false,.slice ae es.length ce,.slice ak ks.length ck,.slice az ss.length cz] 79)) b off ss):=h3;clear h3 CE B;go_enter Tryz.func83,Tryz.ntmps83
  go_upto_region 1 with fail
  generalize w.alloc (.cells #[.bool false,.slice ae es.length ce,.slice ak ks.length ck,.slice az ss.length cz] 79)=W at*;go_wp2
  go_loopg [3,4] ss.length (fun kx s3 s4 wr=>∃(i m:Nat),s3=.int .i64 m∧s4=.int .i64 i∧i<=ss.length∧ss.length-i<=kx∧Hid (4+bO (ss.take i)=m)∧W=wr)
  case atStart=>exact⟨0,4,rfl,rfl,Nat.zero_le _,Nat.le_refl _,rfl,rfl⟩
  case round=>
   obtain⟨i,m,rfl,rfl,hi,hki,HS,rfl⟩:=hrel;by_cases hil:i<ss.length
   ·have dB:(i:Int)< (ss.length:Int):=by omega
    obtain⟨b,off,rfl,hb,x1⟩:=gB H3.out i hil (Below.refl _ W);have T:Hid (bO (ss.take (i+1))=bO (ss.take i)+(5+ss[i]!.size)):=xW hil;have hle:bO (ss.take (i+1))<=bO ss:=jS _ _;rw[T.out]at hle;generalize ss[i]! =x at*;have hm:=HS.out;have hx:m+5+x.size<=1000004:=by omega
    have T2:Hid (4+bO (ss.take (i+1))=m+5+x.size):=by show _=_;rw[T.out];omega
    clear hle HS hm;go_wp2
    go_roundg (ss.length- (i+1))
    case measure=>omega
    case rel=>exact⟨i+1,m+5+x.size,by go_num,by go_num,by omega,Nat.le_refl _,T2,rfl⟩
   ·have dB:¬(i:Int)< (ss.length:Int):=by omega
    obtain rfl:i=ss.length:=by omega
    rw[List.take_length]at HS;go_wp2;go_ret;exact⟨iK (by rw[E.out,HS.out]),HB.out⟩
theorem zC (n:Nd)(ve vk vs:Value)(w:World)(h:gY w ve vk vs n)(hs:Sm n):
  Calls Tryz.prog 82 #[.agg #[.bool n.leaf,ve,vk,vs]] w fun e w'=>e=.returned (.bool (cI n))∧Below w.heap.size w w':=by
 obtain⟨lf,es,ks,ss⟩:=n;obtain⟨he,hk,hss⟩:=h;obtain⟨s1,s2,s3,s4,s5⟩:=hs;simp only at he hk hss s1 s2 s3 s4 s5;obtain⟨B,c0,c1,c2,c3,hlt⟩:=rU w lf ve vk vs 79;have CE:Hid _:=k8 ve es _ (he.below B) (by omega);have O9:=hk.below B;have zJ:=hss.below B;obtain⟨ae,ce,rfl,_⟩:=ax he;obtain⟨ak,ck,rfl,_⟩:=ax hk;obtain⟨az,cz,rfl,_⟩:=ax hss;have HB:Hid _:=B;clear he hk hss B;cases lf with
 |true=>
  clear O9 zJ;cases hr:gi es with
  |false=>
   have E:Hid (cI ⟨true,es,ks,ss⟩=false):=by
    show _=_;unfold cI;rw[if_pos rfl,hr];simp
   rw[hr]at CE;clear hr;go_enter Tryz.func82,Tryz.ntmps82
   go_upto_region 1 with fail
   generalize w.alloc (.cells #[.bool true,.slice ae es.length ce,.slice ak ks.length ck,.slice az ss.length cz] 79)=W at*
   go_wp2_with (go_at_call 56;refine Calls.mono CE.out ?_;rintro e w1 ⟨rfl,hb⟩)
   go_ret;exact⟨bT E.out.symm,HB.out.trans (hb.mono HB.out.size)⟩
  |true=>
   rw[hr]at CE;by_cases k1:ks.length=0
   ·have z1:((ks.length:Int)==0)=true:=by rw[beq_iff_eq];omega
    by_cases k2:ss.length=0
    ·have E:Hid (cI ⟨true,es,ks,ss⟩=true):=by
      show _=_;unfold cI;rw[if_pos rfl,hr,decide_eq_true k1,decide_eq_true k2];simp
     have z2:((ss.length:Int)==0)=true:=by rw[beq_iff_eq];omega
     clear hr k1 k2;go_enter Tryz.func82,Tryz.ntmps82
     go_upto_region 1 with fail
     generalize w.alloc (.cells #[.bool true,.slice ae es.length ce,.slice ak ks.length ck,.slice az ss.length cz] 79)=W at*
     go_upto_region 3 with(go_at_call 56;refine Calls.mono CE.out ?_;rintro e w1 ⟨rfl,hb⟩)
     have d2:w1.cell? ⟨w.heap.size,2,none⟩=some (.slice ak ks.length ck):=(hb.cell (p:=⟨w.heap.size,2,none⟩) hlt).trans c2;have d3:w1.cell? ⟨w.heap.size,3,none⟩=some (.slice az ss.length cz):=(hb.cell (p:=⟨w.heap.size,3,none⟩) hlt).trans c3;have B1:Hid (Below w.heap.size w w1):=HB.out.trans (hb.mono HB.out.size);clear hb CE;go_wp2;go_ret;exact⟨bT E.out.symm,B1.out⟩
    ·have E:Hid (cI ⟨true,es,ks,ss⟩=false):=by
      show _=_;unfold cI;rw[if_pos rfl,decide_eq_false k2];simp
     have z2:((ss.length:Int)==0)=false:=by rw[beq_eq_false_iff_ne];omega
     clear hr k1 k2;go_enter Tryz.func82,Tryz.ntmps82
     go_upto_region 1 with fail
     generalize w.alloc (.cells #[.bool true,.slice ae es.length ce,.slice ak ks.length ck,.slice az ss.length cz] 79)=W at*
     go_upto_region 3 with(go_at_call 56;refine Calls.mono CE.out ?_;rintro e w1 ⟨rfl,hb⟩)
     have d2:w1.cell? ⟨w.heap.size,2,none⟩=some (.slice ak ks.length ck):=(hb.cell (p:=⟨w.heap.size,2,none⟩) hlt).trans c2;have d3:w1.cell? ⟨w.heap.size,3,none⟩=some (.slice az ss.length cz):=(hb.cell (p:=⟨w.heap.size,3,none⟩) hlt).trans c3;have B1:Hid (Below w.heap.size w w1):=HB.out.trans (hb.mono HB.out.size);clear hb CE;go_wp2;go_ret;exact⟨bT E.out.symm,B1.out⟩
   ·have z1:((ks.length:Int)==0)=false:=by rw[beq_eq_false_iff_ne];omega
    have E:Hid (cI ⟨true,es,ks,ss⟩=false):=by
     show _=_;unfold cI;rw[if_pos rfl,decide_eq_false k1];simp
    clear hr k1;go_enter Tryz.func82,Tryz.ntmps82
    go_upto_region 1 with fail
    generalize w.alloc (.cells #[.bool true,.slice ae es.length ce,.slice ak ks.length ck,.slice az ss.length cz] 79)=W at*
    go_upto_region 3 with(go_at_call 56;refine Calls.mono CE.out ?_;rintro e w1 ⟨rfl,hb⟩)
    have d2:w1.cell? ⟨w.heap.size,2,none⟩=some (.slice ak ks.length ck):=(hb.cell (p:=⟨w.heap.size,2,none⟩) hlt).trans c2;have d3:w1.cell? ⟨w.heap.size,3,none⟩=some (.slice az ss.length cz):=(hb.cell (p:=⟨w.heap.size,3,none⟩) hlt).trans c3;have B1:Hid (Below w.heap.size w w1):=HB.out.trans (hb.mono HB.out.size);clear hb CE;go_wp2;go_ret;exact⟨bT E.out.symm,B1.out⟩
 |false=>
  clear CE;by_cases k1:es.length=0
  ·have k1z:¬(0:Int)< (es.length:Int):=by omega
   by_cases k2:0<ks.length
   ·have Xh:((ks.length:Int)==0)=false:=by rw[beq_eq_false_iff_ne];omega
    by_cases k3:ss.length+1=ks.length
    ·have z3:((ss.length:Int) != (ks.length:Int)-1)=false:=by rw[bne_eq_false_iff_eq];omega
     have E:Hid (cI ⟨false,es,ks,ss⟩=(Ec ks&&uu ss)):=by
      show _=_;unfold cI;rw[if_neg (by simp),decide_eq_true k1,decide_eq_true k2,decide_eq_true k3];simp
     clear k1 k3;obtain⟨oD,ck1,e1,a1,a2,a3⟩:=O9;cases e1;obtain⟨lO,lQ,e1,b1,b2,b3⟩:=zJ;cases e1;have K3:Aside (ks≠[]->∃b off,ak=some ⟨b,off,none⟩∧b< (w.alloc (.cells #[.bool false,.slice ae es.length ce,.slice ak ks.length ck,.slice az ss.length cz] 79)).heap.size∧bJ encI 1 (w.alloc (.cells #[.bool false,.slice ae es.length ce,.slice ak ks.length ck,.slice az ss.length cz] 79)) b off ks):=a3;have S3:Aside (ss≠[]->∃b off,az=some ⟨b,off,none⟩∧b< (w.alloc (.cells #[.bool false,.slice ae es.length ce,.slice ak ks.length ck,.slice az ss.length cz] 79)).heap.size∧bJ encS 1 (w.alloc (.cells #[.bool false,.slice ae es.length ce,.slice ak ks.length ck,.slice az ss.length cz] 79)) b off ss):=b3;clear a3 b3;generalize es.length=ne at*;go_enter Tryz.func82,Tryz.ntmps82
     go_upto_region 1 with fail
     generalize w.alloc (.cells #[.bool false,.slice ae ne ce,.slice ak ks.length ck,.slice az ss.length cz] 79)=W at*;go_wp2
     go_loopg [4] ks.length (fun kx s4 wr=>∃(i:Nat),s4=.int .i64 i∧i<=ks.length∧ks.length-i<=kx∧W=wr∧Hid (∀k∈ks.take i,mV k=true))
     case atStart=>exact⟨0,rfl,Nat.zero_le _,Nat.le_refl _,rfl,fun x hx=>by simp at hx⟩
     case round=>
      obtain⟨i,rfl,hi,hki,rfl,HN⟩:=hrel;by_cases hil:i<ks.length
      ·have dB:(i:Int)< (ks.length:Int):=by omega
       obtain⟨b,off,rfl,hb,x1⟩:=pH K3.out i hil (Below.refl _ W);have M:Hid (ks[i]! ∈ks):=iJ hil;have T:Hid (mV ks[i]! =true->∀k∈ks.take (i+1),mV k=true):=fun e=>yq HN.out hil e;generalize ks[i]! =x at*;by_cases c1:x<2
       ·have E2:Hid (cI ⟨false,es,ks,ss⟩=false):=by show _=_;rw[E.out,vG M.out (vN (Or.inl c1))];rfl
        clear HN T;go_wp2;go_ret;exact⟨bT E2.out.symm,HB.out⟩
       ·by_cases c2:4294967295<x
        ·have E2:Hid (cI ⟨false,es,ks,ss⟩=false):=by show _=_;rw[E.out,vG M.out (vN (Or.inr c2))];rfl
         clear HN T;go_wp2;go_ret;exact⟨bT E2.out.symm,HB.out⟩
        ·have N2:Hid (∀k∈ks.take (i+1),mV k=true):=T.out (Cg c1 c2);clear HN T;go_wp2
         go_roundg (ks.length- (i+1))
         case measure=>omega
         case rel=>exact⟨i+1,by go_num,by omega,Nat.le_refl _,rfl,N2⟩
      ·have dB:¬(i:Int)< (ks.length:Int):=by omega
       obtain rfl:i=ks.length:=by omega
       rw[List.take_length]at HN;have E1:Hid (cI ⟨false,es,ks,ss⟩=uu ss):=by show _=_;rw[E.out,vF HN.out];rfl
       clear HN E;go_wp2
       go_loopg [5,6] ss.length (fun kx s5 s6 wr=>∃(i:Nat),s5=.int .i64 i∧i<=ss.length∧ss.length-i<=kx∧Hid (GR W wr)∧Hid (∀j,j<i->Fi ss j=true))
       case atStart=>exact⟨0,rfl,Nat.zero_le _,Nat.le_refl _,GR.refl _,fun j hj=>absurd hj (Nat.not_lt_zero _)⟩
       case round=>
        obtain⟨i,rfl,hi,hki,HG,HN⟩:=hrel;have d3:wr.cell? ⟨w.heap.size,3,none⟩=some (.slice az ss.length cz):=(HG.out.below.cell (p:=⟨w.heap.size,3,none⟩) hlt).trans c3;by_cases hil:i<ss.length
        ·have dB:(i:Int)< (ss.length:Int):=by omega
         obtain⟨b,off,rfl,hb,x1⟩:=gB S3.out i hil HG.out.below;obtain⟨x,hx⟩:∃x,ss[i]! =x:=⟨_,rfl⟩;rw[hx]at x1;have X:Hid (ss[i]! =x):=hx;clear hx;have C:Hid _:=BK x ⟨#[]⟩ wr;cases hm:cF x ⟨#[]⟩with
         |false=>
          rw[hm]at C;have RF:Hid (uu ss=false):=vD i hil (jR (b:=false) (c:=(i==0||bh ss[i-1]! ss[i]!)) (by rw[X.out];exact hm) rfl);clear HN hm
          go_wp2_with (go_at_call 9;refine Calls.mono C.out ?_;rintro e w1 ⟨rfl,rfl⟩)
          go_quiet (fail)
          go_wp2;go_ret;exact⟨bT (by rw[E1.out,RF.out]),HB.out.trans ((HG.out.drewN _).below.mono HB.out.size)⟩
         |true=>
          rw[hm]at C;have M:Hid (cF x ⟨#[]⟩=true):=hm;clear hm;rcases Nat.eq_zero_or_pos i with hi0|hi0
          ·have N2:Hid (∀j,j<i+1->Fi ss j=true):=fun j hj=>by
            obtain rfl:j=i:=by omega
            rw[jR (b:=true) (c:=true) (by rw[X.out];exact M.out) (by rw[hi0];rfl)];rfl
           have hd:decide ((0:Int)< (i:Int))=false:=by rw[hi0];decide
           have hd2:decide (0<i)=false:=by rw[hi0];decide
           clear HN hi0
           go_wp2_with (go_at_call 9;refine Calls.mono C.out ?_;rintro e w1 ⟨rfl,rfl⟩)
           go_quiet (fail)
           go_wp2
           go_roundg (ss.length- (i+1))
           case measure=>omega
           case rel=>exact⟨i+1,by go_num,by omega,Nat.le_refl _,HG.out.drewN _,N2⟩
          ·obtain⟨i,rfl⟩:∃i',i=i'+1:=⟨i-1,by omega⟩;clear hi0;obtain⟨b2,QE,e2,hb2,z1⟩:=gB S3.out i (by omega) HG.out.below;cases e2;obtain⟨y,hy⟩:∃y,ss[i]! =y:=⟨_,rfl⟩;rw[hy]at z1;have Y:Hid (ss[i]! =y):=hy;clear hy;cases hlt1:bh y x
           ·have RF:Hid (uu ss=false):=vD (i+1) hil (jR (b:=true) (c:=false) (by rw[X.out];exact M.out) (by
             rw[show i+1-1=i from rfl,X.out,Y.out,hlt1];rfl))
            have hlt2:Op.bytesLess y.toList x.toList=false:=hlt1;clear HN hlt1
            go_wp2_with (go_at_call 9;refine Calls.mono C.out ?_;rintro e w1 ⟨rfl,rfl⟩)
            go_quiet (fail)
            go_wp2;go_ret;exact⟨bT (by rw[E1.out,RF.out]),HB.out.trans ((HG.out.drewN _).below.mono HB.out.size)⟩
           ·have N2:Hid (∀j,j<i+1+1->Fi ss j=true):=fun j hj=>by
             rcases Nat.lt_or_ge j (i+1)with c|c
             ·exact HN.out j c
             ·obtain rfl:j=i+1:=by omega
              rw[jR (b:=true) (c:=true) (by rw[X.out];exact M.out) (by rw[show i+1-1=i from rfl,X.out,Y.out,hlt1];simp)];rfl
            have hlt2:Op.bytesLess y.toList x.toList=true:=hlt1;clear HN hlt1
            go_wp2_with (go_at_call 9;refine Calls.mono C.out ?_;rintro e w1 ⟨rfl,rfl⟩)
            go_quiet (fail)
            go_wp2
            go_roundg (ss.length- (i+1+1))
            case measure=>omega
            case rel=>exact⟨i+1+1,by go_num,by omega,Nat.le_refl _,HG.out.drewN _,N2⟩
        ·have dB:¬(i:Int)< (ss.length:Int):=by omega
         obtain rfl:i=ss.length:=by omega
         have RT:Hid (uu ss=true):=BP HN.out;clear HN;go_wp2;go_ret;exact⟨bT (by rw[E1.out,RT.out]),HB.out.trans (HG.out.below.mono HB.out.size)⟩
    ·have z3:((ss.length:Int) != (ks.length:Int)-1)=true:=by rw[bne_iff_ne];omega
     have E:Hid (cI ⟨false,es,ks,ss⟩=false):=by
      show _=_;unfold cI;rw[if_neg (by simp),decide_eq_false k3];simp
     clear k1 k3 O9 zJ;generalize es.length=ne at*;go_enter Tryz.func82,Tryz.ntmps82
     go_upto_region 1 with fail
     generalize w.alloc (.cells #[.bool false,.slice ae ne ce,.slice ak ks.length ck,.slice az ss.length cz] 79)=W at*;go_wp2;go_ret;exact⟨bT E.out.symm,HB.out⟩
   ·have Xh:((ks.length:Int)==0)=true:=by rw[beq_iff_eq];omega
    have E:Hid (cI ⟨false,es,ks,ss⟩=false):=by
     show _=_;unfold cI;rw[if_neg (by simp),decide_eq_false k2];simp
    clear k1 O9 zJ;generalize es.length=ne at*;go_enter Tryz.func82,Tryz.ntmps82
    go_upto_region 1 with fail
    generalize w.alloc (.cells #[.bool false,.slice ae ne ce,.slice ak ks.length ck,.slice az ss.length cz] 79)=W at*;go_wp2;go_ret;exact⟨bT E.out.symm,HB.out⟩
  ·have k1z:(0:Int)< (es.length:Int):=by omega
   have E:Hid (cI ⟨false,es,ks,ss⟩=false):=by
    show _=_;unfold cI;rw[if_neg (by simp),decide_eq_false k1];simp
   clear k1 O9 zJ;generalize es.length=ne at*;go_enter Tryz.func82,Tryz.ntmps82
   go_upto_region 1 with fail
   generalize w.alloc (.cells #[.bool false,.slice ae ne ce,.slice ak ks.length ck,.slice az ss.length cz] 79)=W at*;go_wp2;go_ret;exact⟨bT E.out.symm,HB.out⟩
end N
end Go.Proofs.YtceoeaemenhbhabGreatDoor
