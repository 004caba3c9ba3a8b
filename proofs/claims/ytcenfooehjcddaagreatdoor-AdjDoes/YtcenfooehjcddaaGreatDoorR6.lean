/- Walks of the package cowtree and of what it stands on: lemmas, made short. -/
import Derived.Test.YtcenfooehjcddaaGreatDoorR5
import Derived.Test.YtcenfooehjcddaaGreatDoorR3
import Derived.OwnWalk
import Derived.Test.YtcenfooehjcddaaGreatDoorR2
import Derived.Test.YtcenfooehjcddaaGreatDoorR4
import Derived.Deep.RegionHeld3
import Derived.Deep.LoopGhost
import Derived.Shelf.SlGeneric
import Derived.Shelf.SlSortCmp.NoneTotal
import Derived.Ground.SlsfProg
import Derived.Test.YtcenfooehjcddaaGreatDoorProg
set_option maxHeartbeats 16000000
set_option maxRecDepth 100000
set_option linter.unusedVariables false
set_option linter.unusedSimpArgs false
namespace Go.Proofs.YtcenfooehjcddaaGreatDoor
open Go.Shelf Go.RowKit Go.Lib Go.Sort
namespace N
section
theorem JE (s:ByteArray):(flatK encS 1 [s].toArray).toList=[.string s]:=by
 have:=cE encS 1 fj [] s;rw[List.nil_append]at this;rw[this];simp[flatK,encS]
theorem JF (s:Int):(flatK encI 1 [s].toArray).toList=[.int .i64 s]:=by
 have:=cE encI 1 iV [] s;rw[List.nil_append]at this;rw[this];simp[flatK,encI]
theorem Wk {base:Nat}(w:World)(s:ByteArray)(hb:base<=w.heap.size):cI base (w.alloc (.cells #[.string s] 9)) (.slice (some ⟨w.heap.size,0,none⟩) 1 1) [s]:=by
 refine⟨by simp,.inr ⟨w.heap.size,1,#[.string s],rfl,hb,heap_alloc_new w _,Nat.le_refl _,by decide,rfl,?_⟩⟩;rw[JE];rfl
theorem Wm {base:Nat}(w:World)(s:Int)(hb:base<=w.heap.size):dB base (w.alloc (.cells #[.int .i64 s] 3)) (.slice (some ⟨w.heap.size,0,none⟩) 1 1) [s]:=by
 refine⟨by simp,.inr ⟨w.heap.size,1,#[.int .i64 s],rfl,hb,heap_alloc_new w _,Nat.le_refl _,by decide,rfl,?_⟩⟩;rw[JF];rfl
def BU:List Pk->List ByteArray
 |[]=>[]
 |p::l=>⟨(mF p.1).toArray⟩::⟨(b4 p.2).toArray⟩::BU l
theorem Ou (l m:List Pk):BU (l++m)=BU l++BU m:=by
 induction l with
 |nil=>rfl
 |cons x l ih=>simp[BU,ih]
theorem JH {l:List Pk}{i:Nat}(h:i<l.length):BU (l.take (i+1))=BU (l.take i)++[⟨(mF l[i]!.1).toArray⟩,⟨(b4 l[i]!.2).toArray⟩]:=by
 rw[bU h,Ou];rfl
theorem D7 (k:Int)(l:List Pk):cat (⟨(b4 k).toArray⟩::BU l)=b4 k++zx l:=by
 have:∀l:List Pk,cat (BU l)=zx l:=by
  intro l
  induction l with
  |nil=>rfl
  |cons x l ih=>
   unfold cat at ih⊢;simp[BU,zx,ih]
 have e:cat (⟨(b4 k).toArray⟩::BU l)=b4 k++cat (BU l):=by unfold cat;simp
 rw[e,this]
theorem D8 {k:Int}(h:qG k=true):ij 4 k=b4 k∧jt 4 k=0:=by
 have:=mZ.1 h;have hb:fN 4 k=true:=by
  unfold fN bQ;simp only[Bool.and_eq_true,decide_eq_true_eq];refine⟨by decide,by omega,?_⟩;have:((256^(4:Int).toNat:Nat):Int)=4294967296:=by decide
  rw[this];omega
 unfold ij jt;rw[if_pos hb,if_pos hb];exact⟨rfl,rfl⟩
theorem uQ (k0:Int)(ps:List Pk)(ve vk vs:Value)(w:World)(h:iw w ve vk vs (nc k0 ps))(hs:Sm (nc k0 ps))(hk0:qG k0=true)(hkk:∀p∈ps,qG p.2=true)(Tg:Br (ps.map (·.1))=true):
  Calls Tryz.prog 132 #[.agg #[.bool false,ve,vk,vs]] w fun e w'=>e=.returned (.string ⟨(b4 k0++zx ps).toArray⟩)∧Below w.heap.size w w':=by
 have s3:ps.length<=1000:=by have:=hs.s;simpa[nc]using this
 have s5:bV (ps.map (·.1))<=1000000:=hs.sz;have he:=h.e;have hk:=h.k;have hss:=h.s;simp only[nc]at he hk hss;obtain⟨B,c0,c1,c2,c3,hlt⟩:=xG w false ve vk vs 170;have RK0:=hk.below B;have SS:=hss.below B;obtain⟨ae,ce,rfl,_⟩:=aG he;obtain⟨ak,ck,rfl,_⟩:=aG hk;obtain⟨az,cz,rfl,_⟩:=aG hss;have HB:Hid _:=B;clear he hk hss B h hs;simp only[List.length_cons,List.length_map,List.length_nil]at c0 c1 c2 c3 hlt HB RK0 SS⊢;obtain⟨p8,ck1,e1,a1,a2,a3⟩:=RK0;injection e1 with e1 L8 Zn;subst e1 Zn;obtain⟨ot,ou,e2,b1,b2,b3⟩:=SS;injection e2 with e2 e2' Zo;subst e2 Zo;have lk:(k0::ps.map (·.2)).length=ps.length+1:=by simp
 have ls:(ps.map (·.1)).length=ps.length:=by simp
 have K3:Aside (k0::ps.map (·.2)≠[]->∃b off,ak=some ⟨b,off,none⟩∧b< (w.alloc (.cells #[.bool false,.slice ae 0 ce,.slice ak (ps.length+1) ck,.slice az ps.length cz] 170)).heap.size∧cx encI 1 (w.alloc (.cells #[.bool false,.slice ae 0 ce,.slice ak (ps.length+1) ck,.slice az ps.length cz] 170)) b off (k0::ps.map (·.2))):=a3;have S3:Aside (ps.map (·.1)≠[]->∃b off,az=some ⟨b,off,none⟩∧b< (w.alloc (.cells #[.bool false,.slice ae 0 ce,.slice ak (ps.length+1) ck,.slice az ps.length cz] 170)).heap.size∧cx encS 1 (w.alloc (.cells #[.bool false,.slice ae 0 ce,.slice ak (ps.length+1) ck,.slice az ps.length cz] 170)) b off (ps.map (·.1))):=b3;have LK:Hid ((k0::ps.map (·.2)).length=ps.length+1):=lk;have LS:Hid ((ps.map (·.1)).length=ps.length):=ls;have HKK:Hid (∀p∈ps,qG p.2=true):=hkk;have HKY:Hid (Br (ps.map (·.1))=true):=Tg;clear a3 b3 lk ls hkk Tg L8 e2';obtain⟨t1,t2⟩:=D8 hk0;have C0:Hid _:=ju 4 k0 (w.alloc (.cells #[.bool false,.slice ae 0 ce,.slice ak (ps.length+1) ck,.slice az ps.length cz] 170));rw[t1,t2]at C0;obtain⟨fs,hfs⟩:∃x:ByteArray,(⟨(b4 k0).toArray⟩:ByteArray)=x:=⟨_,rfl⟩;rw[hfs]at C0;have HFS:Hid ((⟨(b4 k0).toArray⟩:ByteArray)=fs):=hfs;clear t1 t2 hfs hk0;go_enter Tryz.func132,Tryz.ntmps132
 go_upto_region 1 with fail
 generalize World.alloc _ _=W at*;obtain⟨kb,ko,rfl,hkb,x0⟩:=nh K3.out 0 (by rw[LK.out];omega) (Below.refl _ W);simp only[Nat.add_zero,List.getElem!_cons_zero]at x0;have i0:(0:Int)< (ps.length:Int)+1:=by omega
 go_wp2_with fail
 refine Calls.mono C0.out ?_;rintro e w1 ⟨rfl,bb1⟩;have B1:Hid (Below W.heap.size W w1):=bb1;have d3:w1.cell? ⟨w.heap.size,3,none⟩=some (.slice az ps.length cz):=(bb1.cell (p:=⟨w.heap.size,3,none⟩) hlt).trans c3;clear bb1 C0 x0;have O1:Aside (cI w1.heap.size (w1.alloc (.cells #[.string fs] 9)) (.slice (some ⟨w1.heap.size,0,none⟩) 1 1) [fs]):=Wk w1 fs (Nat.le_refl _);have B2:Hid (Below w1.heap.size w1 (w1.alloc (.cells #[.string fs] 9))):=aq _ (Below.refl _ _);have lw1:=B1.out.size;have lw2:w.heap.size<w1.heap.size:=Nat.lt_of_lt_of_le hlt lw1;go_wp2
 go_loopg [5,25] ps.length (fun kx s5 s25 wr=>∃(i:Nat) (cT:Option Addr) (n' c':Nat) (out:List ByteArray),s5=.slice cT n' c'∧s25=.int .i64 i∧i<=ps.length∧ps.length-i<=kx∧out.length=2*i+1∧Hid (fs::BU (ps.take i)=out)∧Aside (cI w1.heap.size wr (.slice cT n' c') out)∧Hid (Below w1.heap.size w1 wr))
 case atStart=>exact⟨0,_,_,_,[fs],rfl,rfl,Nat.zero_le _,Nat.le_refl _,rfl,rfl,O1,B2⟩
 case round=>
  clear O1 B2;obtain⟨i,cT,n',c',out,rfl,rfl,hi,hki,hol,HD,HO,Nu⟩:=hrel;by_cases hil:i<ps.length
  ·have dO:(i:Int)< (ps.length:Int):=by omega
   have BT:Below W.heap.size W wr:=B1.out.trans (Nu.out.mono B1.out.size);obtain⟨sb,so,rfl,hsb,x1⟩:=kS S3.out i (by rw[LS.out];exact hil) BT;obtain⟨_,_,e9,_,y1⟩:=nh K3.out (i+1) (by rw[LK.out];omega) BT;cases e9;have d2:wr.cell? ⟨w.heap.size,2,none⟩=some (.slice (some ⟨kb,ko,none⟩) (ps.length+1) ck):=(BT.cell (p:=⟨w.heap.size,2,none⟩) hlt).trans c2;rw[Dy hil]at x1;have ey:(k0::ps.map (·.2))[i+1]! =ps[i]!.2:=by
    have:(k0::ps.map (·.2))[i+1]! =(ps.map (·.2))[i]! :=by simp
    rw[this,Dy hil]
   rw[ey]at y1;have T:Hid _:=JH hil;have hkx:=HKK.out _ (j6 hil);have hsx:=(xi HKY.out (List.mem_map_of_mem (f:=(·.1)) (j6 hil))).2;have X6:Hid (Below W.heap.size W wr):=BT;clear ey BT;generalize ps[i]! =x at*;obtain⟨sx,Vc⟩:=x;simp only at x1 y1 hkx hsx T;obtain⟨t1,t2⟩:=Bp (s:=sx) (by omega);obtain⟨t3,t4⟩:=D8 hkx;have C1:Hid _:=rW sx wr (by unfold maxLen;omega);rw[t1,t2]at C1;have C2:Hid (∀W',Calls Tryz.prog 75 #[.int .i64 4,.int .i64 Vc] W' fun r w'=>r=.returned (.tuple #[.string ⟨(b4 Vc).toArray⟩,.int .i64 0])∧Below W'.heap.size W' w'):=fun W'=>by
    have:=ju 4 Vc W';rw[t3,t4]at this;exact this
   obtain⟨o2,ho2⟩:∃o2,fs::BU (ps.take (i+1))=o2:=⟨_,rfl⟩;have T2:Hid (out++[(⟨(mF sx).toArray⟩:ByteArray),⟨(b4 Vc).toArray⟩]=o2):=by show _=_;rw[<-ho2,T.out,<-HD.out];simp
   have l2:o2.length=2*(i+1)+1:=by rw[<-T2.out];simp;omega
   have HD2:Hid (fs::BU (ps.take (i+1))=o2):=ho2;clear T ho2 t1 t2 t3 t4 hkx HD;generalize(⟨(mF sx).toArray⟩:ByteArray)=p1 at*;generalize(⟨(b4 Vc).toArray⟩:ByteArray)=p2 at*
   go_wp2_with fail
   refine Calls.mono C1.out ?_;rintro e w3 ⟨rfl,hb3⟩;have B3:Hid (Below w1.heap.size w1 w3):=Nu.out.trans (hb3.mono Nu.out.size);have O3:Aside (cI w1.heap.size w3 (.slice cT n' c') out):=HO.out.below hb3;have BT3:Below W.heap.size W w3:=X6.out.trans (hb3.mono X6.out.size);have d2':w3.cell? ⟨w.heap.size,2,none⟩=some (.slice (some ⟨kb,ko,none⟩) (ps.length+1) ck):=(BT3.cell (p:=⟨w.heap.size,2,none⟩) hlt).trans c2;have kbl:kb<wr.heap.size:=by have:=X6.out.size;omega
   have y3:w3.cell? ⟨kb,ko+(i+1),none⟩=some (.int .i64 Vc):=(hb3.cell (p:=⟨kb,ko+(i+1),none⟩) kbl).trans y1;clear hb3 C1 HO Nu y1 x1 d2 BT3 X6
   go_wp2_with fail
   refine Calls.mono (C2.out _) ?_;rintro e w4 ⟨rfl,hb4⟩;have B4:Hid (Below w1.heap.size w1 w4):=B3.out.trans (hb4.mono B3.out.size);have O4:Aside (cI w1.heap.size w4 (.slice cT n' c') out):=O3.out.below hb4;clear hb4 C2 O3 B3 y3 d2';have B5:Hid (Below w1.heap.size w1 (w4.alloc (.cells #[.string p1,.string p2] 9))):=B4.out.alloc B4.out.size _;have O5:Aside (cI w1.heap.size (w4.alloc (.cells #[.string p1,.string p2] 9)) (.slice cT n' c') out):=O4.out.below ((Below.refl _ w4).alloc (Nat.le_refl _) _);have K5:Hid (Cl (w4.alloc (.cells #[.string p1,.string p2] 9)) w4.heap.size #[.string p1,.string p2] 9):=Cl.new _ _ _;have hsz:=B5.out.size;clear O4 B4
   go_wp2_with (at_builtin;refine Dw rfl _ _ rfl w1.heap.size _ out rfl O5.out _ p1 p2 rfl K5.out (by omega) hsz o2 T2.out ?_)
   intro a6 n6 c6 w6 P6 Q6;have O7:Aside (cI w1.heap.size w6 (.slice a6 n6 c6) o2):=P6;have B7:Hid (Below w1.heap.size w1 w6):=Q6 _ B5.out;clear P6 Q6 O5 K5 B5 hsz T2;go_wp2
   go_roundg (ps.length- (i+1))
   case measure=>omega
   case rel=>exact⟨i+1,a6,n6,c6,o2,rfl,by go_num,by omega,Nat.le_refl _,l2,HD2,O7,B7⟩
  ·have dO:¬(i:Int)< (ps.length:Int):=by omega
   obtain rfl:i=ps.length:=by omega
   rw[List.take_length]at HD;have CJ:Hid _:=zn HO.out (by omega) (by rw[<-HD.out,<-HFS.out,D7,List.length_append,fL,sG];omega);rw[<-HD.out,<-HFS.out,D7]at CJ;clear HO HD
   go_wp2_with (go_at_call 76;refine Calls.mono CJ.out ?_;rintro e w6 ⟨rfl,hb6⟩)
   go_ret;exact⟨rfl,HB.out.trans ((B1.out.trans ((Nu.out.trans (hb6.mono Nu.out.size)).mono B1.out.size)).mono HB.out.size)⟩
end
section
def ov (n:Nd):Int:=if cF n=true then yx n else 0
def kX (n:Nd):ByteArray:=if cF n=true then⟨(yw n).toArray⟩else⟨#[]⟩
def uR (n:Nd):Int:=if dF n=true then(if dZ n<=240 then 0 else 50)else 1
theorem Wn {n:Nd}(h:dF n=false):ov n=0∧kX n=⟨#[]⟩∧uR n=1:=by
 unfold ov kX uR cF;rw[h];exact⟨rfl,rfl,rfl⟩
theorem Ov {n:Nd}(h:dF n=true)(h2:¬dZ n<=240):ov n=0∧kX n=⟨#[]⟩∧uR n=50:=by
 unfold ov kX uR cF;rw[h,decide_eq_false h2,if_neg h2];exact⟨rfl,rfl,rfl⟩
theorem JI {n:Nd}(h:dF n=true)(h2:dZ n<=240):ov n=yx n∧kX n=⟨(yw n).toArray⟩∧uR n=0:=by
 unfold ov kX uR cF;rw[h,decide_eq_true h2,if_pos h2];exact⟨rfl,rfl,rfl⟩
theorem F5 (n:Nd)(ve vk vs:Value)(w:World)(h:iw w ve vk vs n)(hs:yz n)(hr:dF n=false):
  Calls Tryz.prog 96 #[.agg #[.bool n.leaf,ve,vk,vs]] w fun e w'=>e=.returned (.tuple #[.int .u8 0,.string ⟨#[]⟩,.int .i64 1])∧Below w.heap.size w w':=by
 obtain⟨lf,hlf⟩:∃x,n.leaf=x:=⟨_,rfl⟩;obtain⟨B,c0,c1,c2,c3,hlt⟩:=xG w lf ve vk vs 170;have HR:Aside (iw (w.alloc (.cells #[.bool lf,ve,vk,vs] 170)) ve vk vs n):=h.below B;have CR:Hid _:=zT n ve vk vs _ HR.out hs;have HB:Hid _:=B;rw[hlf]at CR⊢;have HL:Hid (n.leaf=lf):=hlf;rw[hr]at CR;clear hr HR;obtain⟨ae,ce,rfl,_⟩:=aG h.e;obtain⟨ak,ck,rfl,_⟩:=aG h.k;obtain⟨az,cz,rfl,_⟩:=aG h.s;clear h B hlf;generalize n.es.length=n1 at*;generalize n.ks.length=n2 at*;generalize n.ss.length=n3 at*;go_enter Tryz.func96,Tryz.ntmps96
 go_upto_region 1 with fail
 generalize World.alloc _ _=W at*
 go_wp2_with fail
 refine Calls.mono CR.out ?_;rintro e w1 ⟨rfl,b1⟩;have B1:Hid (Below W.heap.size W w1):=b1;clear b1 CR;go_wp2
 go_ret3
 exact⟨rfl,HB.out.trans (B1.out.mono HB.out.size)⟩
theorem Aa (n:Nd)(ve vk vs:Value)(w:World)(h:iw w ve vk vs n)(hs:Sm n)(hr:dF n=true)(h2:¬dZ n<=240):
  Calls Tryz.prog 96 #[.agg #[.bool n.leaf,ve,vk,vs]] w fun e w'=>e=.returned (.tuple #[.int .u8 0,.string ⟨#[]⟩,.int .i64 50])∧Below w.heap.size w w':=by
 obtain⟨lf,hlf⟩:∃x,n.leaf=x:=⟨_,rfl⟩;obtain⟨B,c0,c1,c2,c3,hlt⟩:=xG w lf ve vk vs 170;have HR:Aside (iw (w.alloc (.cells #[.bool lf,ve,vk,vs] 170)) ve vk vs n):=h.below B;have CR:Hid _:=eO n ve vk vs _ HR.out hs;have HB:Hid _:=B;rw[hlf]at CR⊢;have HL:Hid (n.leaf=lf):=hlf;obtain⟨z,hz⟩:∃z,dZ n=z:=⟨_,rfl⟩;rw[hz]at h2;have HZ:Hid (dZ n=z):=hz;rw[hr]at CR;clear hz;have hzz:(240:Int)< (z:Int):=by omega
 clear hr h2;obtain⟨ae,ce,rfl,_⟩:=aG h.e;obtain⟨ak,ck,rfl,_⟩:=aG h.k;obtain⟨az,cz,rfl,_⟩:=aG h.s;clear h B hlf;generalize n.es.length=n1 at*;generalize n.ks.length=n2 at*;generalize n.ss.length=n3 at*;go_enter Tryz.func96,Tryz.ntmps96
 go_upto_region 1 with fail
 generalize World.alloc _ _=W at*
 go_wp2_with fail
 refine Calls.mono CR.out ?_;rintro e w1 ⟨rfl,b1⟩;have B1:Hid (Below W.heap.size W w1):=b1;have CZ:Hid _:=kW n _ _ _ w1 (HR.out.below b1) hs;rw[HL.out,HZ.out]at CZ;have Ow:w1.cell? ⟨w.heap.size,0,none⟩=some (.bool lf):=(b1.cell (p:=⟨w.heap.size,0,none⟩) hlt).trans c0;have Wo:w1.cell? ⟨w.heap.size,1,none⟩=some (.slice ae n1 ce):=(b1.cell (p:=⟨w.heap.size,1,none⟩) hlt).trans c1;have Wp:w1.cell? ⟨w.heap.size,2,none⟩=some (.slice ak n2 ck):=(b1.cell (p:=⟨w.heap.size,2,none⟩) hlt).trans c2;have Wq:w1.cell? ⟨w.heap.size,3,none⟩=some (.slice az n3 cz):=(b1.cell (p:=⟨w.heap.size,3,none⟩) hlt).trans c3;have BV:w.heap.size<w1.heap.size:=Nat.lt_of_lt_of_le hlt b1.size;clear b1 CR
 go_wp2_with fail
 refine Calls.mono CZ.out ?_;rintro e w2 ⟨rfl,b2⟩;have B2:Hid (Below W.heap.size W w2):=B1.out.trans (b2.mono B1.out.size);clear b2 CZ;go_wp2
 go_ret3
 exact⟨rfl,HB.out.trans (B2.out.mono HB.out.size)⟩
theorem D9:(∀(n:Nd) (ve vk vs:Value) (w:World) (h:iw w ve vk vs n) (hs:Sm n) (hr:dF n=true) (h2:dZ n<=240) (hl:n.leaf=true),Calls Tryz.prog 96 #[.agg #[.bool n.leaf,ve,vk,vs]] w fun e w'=>e=.returned (.tuple #[.int .u8 1,.string ⟨(yw n).toArray⟩,.int .i64 0])∧Below w.heap.size w w')∧
  (∀(n:Nd) (ve vk vs:Value) (w:World) (h:iw w ve vk vs n) (hs:Sm n) (hr:dF n=true) (h2:dZ n<=240) (hl:n.leaf=false),Calls Tryz.prog 96 #[.agg #[.bool n.leaf,ve,vk,vs]] w fun e w'=>e=.returned (.tuple #[.int .u8 2,.string ⟨(yw n).toArray⟩,.int .i64 0])∧Below w.heap.size w w'):=by
 and_intros
 have jq:=trivial
 rotate_left
 have fC:=trivial
 rotate_left
 all_goals
  intro n ve vk vs w h hs hr h2 hl
  first
   |have zz:=fC
    obtain⟨B,c0,c1,c2,c3,hlt⟩:=xG w false ve vk vs 170;have HR:Aside (iw (w.alloc (.cells #[.bool false,ve,vk,vs] 170)) ve vk vs n):=h.below B
   |obtain⟨B,c0,c1,c2,c3,hlt⟩:=xG w true ve vk vs 170
    have HR:Aside (iw (w.alloc (.cells #[.bool true,ve,vk,vs] 170)) ve vk vs n):=h.below B
  have CR:Hid _:=eO n ve vk vs _ HR.out hs;have HB:Hid _:=B;obtain⟨bd,hbd⟩:∃x:ByteArray,(⟨(yw n).toArray⟩:ByteArray)=x:=⟨_,rfl⟩;rw[hbd];rw[hl]at CR⊢
  first
   |have zz:=fC
    have HL:Hid (n.leaf=false):=hl;have IB:Hid (∀ve vk vs W',iw W' ve vk vs n->Calls Tryz.prog 132 #[.agg #[.bool false,ve,vk,vs]] W' fun e w'=>e=.returned (.string bd)∧Below W'.heap.size W' w'):=by
     intro ve vk vs W' hW;obtain⟨k0,ps,rfl,a,b,c⟩:=oI hr hl;rw[<-hbd,xl];exact uQ k0 ps ve vk vs W' hW hs a b c
   |have HL:Hid (n.leaf=true):=hl
    have EE:Hid (Ql n.es=0∧U4 n.es=bd):=by
     obtain⟨_,_,hg⟩:=(fX hl).1 hr;unfold Ql U4;rw[gO hg,<-hbd,ng hl];exact⟨rfl,rfl⟩
  obtain⟨z,hz⟩:∃z,dZ n=z:=⟨_,rfl⟩;rw[hz]at h2;have HZ:Hid (dZ n=z):=hz;rw[hr]at CR;clear hz;have hzz:¬(240:Int)< (z:Int):=by omega
  clear hr h2 hl hbd;obtain⟨ae,ce,rfl,_⟩:=aG h.e;obtain⟨ak,ck,rfl,_⟩:=aG h.k;obtain⟨az,cz,rfl,_⟩:=aG h.s;clear h B;generalize n.es.length=n1 at*;generalize n.ks.length=n2 at*;generalize n.ss.length=n3 at*;go_enter Tryz.func96,Tryz.ntmps96
  go_upto_region 1 with fail
  first
   |have zz:=fC
    generalize World.alloc _ _=W at*
   |generalize World.alloc _ _=W at*
  go_wp2_with fail
  refine Calls.mono CR.out ?_;rintro e w1 ⟨rfl,b1⟩;have B1:Hid (Below W.heap.size W w1):=b1;have CZ:Hid _:=kW n _ _ _ w1 (HR.out.below b1) hs;rw[HL.out,HZ.out]at CZ
  first
   |have zz:=fC
    have Ow:w1.cell? ⟨w.heap.size,0,none⟩=some (.bool false):=(b1.cell (p:=⟨w.heap.size,0,none⟩) hlt).trans c0
   |have Ow:w1.cell? ⟨w.heap.size,0,none⟩=some (.bool true):=(b1.cell (p:=⟨w.heap.size,0,none⟩) hlt).trans c0
  have Wo:w1.cell? ⟨w.heap.size,1,none⟩=some (.slice ae n1 ce):=(b1.cell (p:=⟨w.heap.size,1,none⟩) hlt).trans c1;have Wp:w1.cell? ⟨w.heap.size,2,none⟩=some (.slice ak n2 ck):=(b1.cell (p:=⟨w.heap.size,2,none⟩) hlt).trans c2;have Wq:w1.cell? ⟨w.heap.size,3,none⟩=some (.slice az n3 cz):=(b1.cell (p:=⟨w.heap.size,3,none⟩) hlt).trans c3;have BV:w.heap.size<w1.heap.size:=Nat.lt_of_lt_of_le hlt b1.size;clear b1 CR
  go_wp2_with fail
  refine Calls.mono CZ.out ?_;rintro e w2 ⟨rfl,b2⟩;have B2:Hid (Below W.heap.size W w2):=B1.out.trans (b2.mono B1.out.size)
  first
   |have zz:=jq
    have CE:Hid _:=sF _ n.es w2 (HR.out.e.below B2.out) (by have:=hs.e;omega);rw[EE.out.1,EE.out.2]at CE;have Zp:w2.cell? ⟨w.heap.size,0,none⟩=some (.bool true):=(b2.cell (p:=⟨w.heap.size,0,none⟩) BV).trans Ow
   |have CE:Hid _:=IB.out _ _ _ w2 (HR.out.below B2.out)
    have Zp:w2.cell? ⟨w.heap.size,0,none⟩=some (.bool false):=(b2.cell (p:=⟨w.heap.size,0,none⟩) BV).trans Ow
  have aar:w2.cell? ⟨w.heap.size,1,none⟩=some (.slice ae n1 ce):=(b2.cell (p:=⟨w.heap.size,1,none⟩) BV).trans Wo;have aas:w2.cell? ⟨w.heap.size,2,none⟩=some (.slice ak n2 ck):=(b2.cell (p:=⟨w.heap.size,2,none⟩) BV).trans Wp;have aat:w2.cell? ⟨w.heap.size,3,none⟩=some (.slice az n3 cz):=(b2.cell (p:=⟨w.heap.size,3,none⟩) BV).trans Wq;have aau:w.heap.size<w2.heap.size:=Nat.lt_of_lt_of_le BV b2.size
  first
   |have zz:=fC
    clear b2 CZ IB
   |clear b2 CZ
  go_wp2_with fail
  refine Calls.mono CE.out ?_;rintro e w3 ⟨rfl,b3⟩;have B3:Hid (Below W.heap.size W w3):=B2.out.trans (b3.mono B2.out.size);clear b3 CE;go_wp2
  go_ret3
  exact⟨rfl,HB.out.trans (B3.out.mono HB.out.size)⟩
theorem Ab (n:Nd)(ve vk vs:Value)(w:World)(h:iw w ve vk vs n)(hs:Sm n):
  Calls Tryz.prog 96 #[.agg #[.bool n.leaf,ve,vk,vs]] w fun e w'=>e=.returned (.tuple #[.int .u8 (ov n),.string (kX n),.int .i64 (uR n)])∧Below w.heap.size w w':=by
 cases hr:dF n with
 |false=>
  obtain⟨a,b,c⟩:=Wn hr;rw[a,b,c];exact F5 n ve vk vs w h hs.l hr
 |true=>
  by_cases h2:dZ n<=240
  ·obtain⟨a,b,c⟩:=JI hr h2;rw[a,b,c];cases hl:n.leaf with
   |true=>
    have ek:yx n=1:=by unfold yx;rw[hl];rfl
    rw[ek,<-hl];exact D9.1 n ve vk vs w h hs hr h2 hl
   |false=>
    have ek:yx n=2:=by unfold yx;rw[hl];rfl
    rw[ek,<-hl];exact D9.2 n ve vk vs w h hs hr h2 hl
  ·obtain⟨a,b,c⟩:=Ov hr h2;rw[a,b,c];exact Aa n ve vk vs w h hs hr h2
end
section
theorem Ws (s:ByteArray)(h:s.size≠0):(bh (a8 s 0).2.1 (a8 s 0).2.2 4).2.1.size<s.size∧
  (((bh (a8 s 0).2.1 (a8 s 0).2.2 4).2.2=0∧jP s.data.toList=some (((a8 s 0).1,(bh (a8 s 0).2.1 (a8 s 0).2.2 4).1),(bh (a8 s 0).2.1 (a8 s 0).2.2 4).2.1.data.toList))∨
   ((bh (a8 s 0).2.1 (a8 s 0).2.2 4).2.2≠0∧jP s.data.toList=none)):=by
 refine⟨Nat.lt_of_le_of_lt (jF _ _ _) (pF s h),?_⟩;by_cases c:(bh (a8 s 0).2.1 (a8 s 0).2.2 4).2.2=0
 ·left;refine⟨c,?_⟩;obtain⟨e1,_,b,r,hs2,hd,hr2⟩:=iQ _ _ _ c;obtain⟨_,c1,a,q,hs1,hc,hr1⟩:=lS s 0 e1;rw[hr2,hr1];rw[hr1]at hs2;have hq:q=b++r:=by
    have:=congrArg (fun x:ByteArray=>x.data.toList) hs2;simpa using this
  rw[hs1,hq];simp only;exact DB c1 a b r hc (by omega)
 ·right;refine⟨c,?_⟩;cases hs:s.data.toList with
  |nil=>rfl
  |cons c0 t=>
    simp only[jP];by_cases h1:t.length<c0.toNat+4
    ·rw[if_pos h1]
    ·exfalso;apply c;have l1:c0.toNat=(t.take c0.toNat).length:=by simp;omega
     have e1:s=⟨(c0::(t.take c0.toNat++t.drop c0.toNat)).toArray⟩:=by
      apply jT;rw[hs];simp
     have r1:=lR c0 (t.take c0.toNat) (t.drop c0.toNat) l1;rw[<-e1]at r1;rw[r1];have r2:=fH ((t.drop c0.toNat).take 4) ((t.drop c0.toNat).drop 4) 4 (by simp;omega) (by decide);rw[List.take_append_drop]at r2;rw[r2]
def JJ (S s:ByteArray)(k0 e:Int)(out:List Pk):Prop:=(e=0∧DJ S.data.toList=(Fp s.data.toList).map (fun l=>nc k0 (out++l)))∨(e≠0∧DJ S.data.toList=none)
theorem JK {l r:List UInt8}(h:l.length=4):DJ (l++r)=(Fp r).map (fun x=>nc ((beNat l:Nat):Int) ([]++x)):=by
 unfold DJ;have e1:(l++r).drop 4=r:=by rw[<-h];simp
 have e2:(l++r).take 4=l:=by rw[<-h];simp
 rw[if_neg (by rw[List.length_append];omega),e1,e2];rfl
theorem F6 {s:List UInt8}(h:s.length<4):DJ s=none:=by unfold DJ;rw[if_pos h]
theorem JJ.start (S:ByteArray):JJ S (bh S 0 4).2.1 (bh S 0 4).1 (bh S 0 4).2.2 []:=by
 by_cases c:(bh S 0 4).2.2=0
 ·obtain⟨_,_,l,r,hs,hn,hr⟩:=iQ S 0 4 c;left;refine⟨c,?_⟩;rw[hr,hs];exact JK (by omega)
 ·right;refine⟨c,?_⟩;by_cases h:S.data.toList.length<4
  ·exact F6 h
  ·exfalso;apply c;have r2:=fH (S.data.toList.take 4) (S.data.toList.drop 4) 4 (by simp at h⊢;omega) (by decide);rw[List.take_append_drop,<-Rm S]at r2;rw[r2]
theorem F7 (k0:Int)(out:List Pk)(x:Pk)(o:Option (List Pk)):(o.map (x:: ·)).map (fun l=>nc k0 (out++l))=o.map (fun l=>nc k0 ((out++[x])++l)):=by
 cases o<;>simp
theorem JJ.next {S s s2:ByteArray}{k0:Int}{out:List Pk}{x:Pk}{e2:Int}(h:JJ S s k0 0 out)(hs:s.size≠0)(h2:(e2=0∧jP s.data.toList=some (x,s2.data.toList))∨(e2≠0∧jP s.data.toList=none)):JJ S s2 k0 e2 (out++[x]):=by
 rcases h with⟨_,h⟩| ⟨h,_⟩
 ·rcases h2 with⟨e,h2⟩| ⟨e,h2⟩
  ·left;refine⟨e,?_⟩;rw[h,sH h2,F7]
  ·right;refine⟨e,?_⟩;rw[h,zA (by
    intro e
    have:=Lib.size_eq s
    rw[e]at this
    exact hs this) h2]
   rfl
 ·exact absurd rfl h
theorem Ea {S:List UInt8}(h:S.length<=240):vz 2 S=match DJ S with|none=>none|some n=>if dF n=true then some n else none:=by
 unfold vz;rw[if_neg (by omega),if_neg (by decide),if_pos rfl];cases DJ S<;>rfl
theorem JJ.bad {S s:ByteArray}{k0 e:Int}{out:List Pk}(h:JJ S s k0 e out)(he:e≠0)(hS:S.size<=240):vz 2 S.data.toList=none:=by
 rw[Ea (by rw[<-Lib.size_eq];exact hS)];rcases h with⟨h,_⟩| ⟨_,h⟩
 ·exact absurd h he
 ·rw[h]
theorem JJ.good {S s:ByteArray}{k0:Int}{out:List Pk}(h:JJ S s k0 0 out)(hs:s.size=0)(hS:S.size<=240):vz 2 S.data.toList=if dF (nc k0 out)=true then some (nc k0 out)else none:=by
 rw[Ea (by rw[<-Lib.size_eq];exact hS)];rcases h with⟨_,h⟩| ⟨h,_⟩
 ·have e:s.data.toList=[]:=List.eq_nil_of_length_eq_zero (by rw[<-Lib.size_eq];exact hs);rw[e,DD]at h;simp only[Option.map_some,List.append_nil]at h;rw[h]
 ·exact absurd rfl h
theorem ja {k:Int}{s:List UInt8}(h:vz k s=none):uD k s=nd0∧vA k s=false:=by unfold uD vA;rw[h];exact⟨rfl,rfl⟩
theorem nL {k:Int}{s:List UInt8}{n:Nd}(h:vz k s=some n):uD k s=n∧vA k s=true:=by unfold uD vA;rw[h];exact⟨rfl,rfl⟩
theorem JM {k:Int}{s:List UInt8}(h:240<s.length):vz k s=none:=by unfold vz;rw[if_pos h]
theorem F8 {k:Int}{s:List UInt8}(h1:k≠1)(h2:k≠2):vz k s=none:=by
 unfold vz;rw[if_neg h1,if_neg h2];split<;>rfl
theorem Ox {s:List UInt8}(h:s.length<=240):vz 1 s=if Fj s=true then some ⟨true,zg s,[],[]⟩else none:=by
 unfold vz;rw[if_neg (by omega),if_pos rfl]
end
section
def BZ (T:TypeId)(w w':World):Prop:=∀(base:Nat) (e:TypeId) (k:Nat) (v:Value) (n:Nat) (xs:List Value),e≠T->w.ownsRow base e k v n xs->w'.ownsRow base e k v n xs
theorem JN {T:TypeId}{w w':World}{base k n:Nat}{v:Value}{xs:List Value}(h:w.ownsRow base T k v n xs)(g:w.grownBy w' v.ownBlock):BZ T w w':=by
 intro base' e' k' v' n' xs' hne h';refine h'.kept g ?_;rcases h'.2 with⟨rfl,_⟩| ⟨b',cap',cur',rfl,_,hb',_⟩
 ·exact Or.inl rfl
 ·right;rcases h.2 with⟨rfl,_⟩| ⟨b,cap,cur,rfl,_,hb,_⟩
  ·simp[Value.ownBlock]
  ·simp only[Value.ownBlock,ne_eq,Option.some.injEq];intro e;subst e;rw[hb']at hb;injection hb with hb;injection hb with _ h2;exact hne h2
end
section
theorem Wt {B q:Nat}{w w':World}{cs:Array Value}{t:TypeId}(h:Cl w q cs t)(hb:Below B w w')(hq:q<B):Cl w' q cs t:=(hb.block q hq).trans h
end
section
def Ca (T:TypeId)(w w':World):Prop:=∀(q:Nat) (cs:Array Value) (t:TypeId),t≠T->Cl w q cs t->Cl w' q cs t
theorem Eb {T:TypeId}{w w':World}{base k n:Nat}{v:Value}{xs:List Value}(h:w.ownsRow base T k v n xs)(g:w.grownBy w' v.ownBlock):Ca T w w':=by
 intro q cs t hne hc;refine(g.block q hc.lt ?_).trans hc;rcases h.2 with⟨rfl,_⟩| ⟨b,cap,cur,rfl,_,hb,_⟩
 ·simp[Value.ownBlock]
 ·simp only[Value.ownBlock,ne_eq,Option.some.injEq];intro e;subst e;unfold Cl at hc;rw[hc]at hb;injection hb with hb;injection hb with _ h2;exact hne h2
theorem F9 {base:Nat}{w:World}{v:Value}{l:List Int}{q:Nat}{x:Int}{t:TypeId}(ty:TypeId)(h:dB base w v l)(hu:Cl w q #[.int .i64 x] t)(hl:l.length<100000)(hbase:base<=w.heap.size):
  ∃ao n c w',(Builtin.append_ #[85,85] ty #[v,.slice (some ⟨q,0,none⟩) 1 1]).run Tryz.prog w=.ok (.slice ao n c) w'∧dB base w' (.slice ao n c) (l++[x])∧(∀w0,Below base w0 w->Below base w0 w')∧BZ 3 w w'∧Ca 3 w w':=by
 obtain⟨i0,hi,hz0,hz1,hz2⟩:=info_parts qH;have ht:=Tryz.underlying85;obtain⟨v',w',hr,g1,g2,_⟩:=run_append_own (P:=Tryz.prog) w base 85 ty 3 i0 _ 1 8 ht hi hz0 hz1 hz2 rfl (by decide) v _ _ h ⟨q,0,none⟩ 1 1 (flatK encI 1 [x].toArray).toList (by simp) (fun j u hj=>by
  rw[JF]at hj
  obtain⟨hj1,hj2⟩:=List.getElem?_eq_some_iff.1 hj
  have lQ:j=0:=by simpa using hj1
  subst lQ
  rw[Go.WideShapes.add_plain,hu.cell]
  simp only[Nat.add_zero]
  rw[<-hj2]
  rfl) (dt zE iV) (by unfold maxLen;omega) (by omega) hbase
 obtain⟨av,cv,rfl⟩:=bL g1;refine⟨_,_,_,w',hr,?_,(fun w0 hb=>hb.grown g2 hbase fun k hk=>j8 h k hk),JN h g2,Eb h g2⟩;show w'.ownsRow base 3 1 _ (l++[x]).length (flatK encI 1 (l++[x]).toArray).toList;rw[List.length_append,cj encI 1 iV];exact g1
theorem Ga {base:Nat}{w:World}{v:Value}{l:List ByteArray}{q:Nat}{x:ByteArray}{t:TypeId}(ty:TypeId)(h:cI base w v l)(hu:Cl w q #[.string x] t)(hl:l.length<100000)(hbase:base<=w.heap.size):
  ∃ao n c w',(Builtin.append_ #[48,48] ty #[v,.slice (some ⟨q,0,none⟩) 1 1]).run Tryz.prog w=.ok (.slice ao n c) w'∧cI base w' (.slice ao n c) (l++[x])∧(∀w0,Below base w0 w->Below base w0 w')∧BZ 9 w w'∧Ca 9 w w':=by
 obtain⟨i0,hi,hz0,hz1,hz2⟩:=info_parts mY;have ht:=Tryz.underlying48;obtain⟨v',w',hr,g1,g2,_⟩:=run_append_own (P:=Tryz.prog) w base 48 ty 9 i0 _ 1 16 ht hi hz0 hz1 hz2 rfl (by decide) v _ _ h ⟨q,0,none⟩ 1 1 (flatK encS 1 [x].toArray).toList (by simp) (fun j u hj=>by
  rw[JE]at hj
  obtain⟨hj1,hj2⟩:=List.getElem?_eq_some_iff.1 hj
  have lQ:j=0:=by simpa using hj1
  subst lQ
  rw[Go.WideShapes.add_plain,hu.cell]
  simp only[Nat.add_zero]
  rw[<-hj2]
  rfl) (dt zm fj) (by unfold maxLen;omega) (by omega) hbase
 obtain⟨av,cv,rfl⟩:=bL g1;refine⟨_,_,_,w',hr,?_,(fun w0 hb=>hb.grown g2 hbase fun k hk=>j8 h k hk),JN h g2,Eb h g2⟩;show w'.ownsRow base 9 1 _ (l++[x]).length (flatK encS 1 (l++[x]).toArray).toList;rw[List.length_append,cj encS 1 fj];exact g1
theorem Zq {o:Oper}{a:Act}{K:Act->World->Prop}{Q:Exit->Act->World->Prop}{w:World}(s x:Operand)
  (ho:o.op=.call {callee:=.builtin .append,args:=#[s,x],argTypes:=#[85,85]})(base:Nat)(v:Value)(l:List Int)(hs:a.eval s=v)(hown:dB base w v l)
  (q:Nat)(y:Int)(t:TypeId)(hx:a.eval x=.slice (some ⟨q,0,none⟩) 1 1)(hu:Cl w q #[.int .i64 y] t)(hl:l.length<100000)(hbase:base<=w.heap.size)(lm:List Int)(hlm:l++[y]=lm)
  (h:∀ao n c w',dB base w' (.slice ao n c) lm->(∀w0,Below base w0 w->Below base w0 w')->BZ 3 w w'->Ca 3 w w'->K (a.put o.dst (.slice ao n c)) w'):Oper.wp Tryz.prog o a w K Q:=by
 subst hlm;obtain⟨ao,n,c,w',hrun,h1,h2,h3,h4⟩:=F9 o.type hown hu hl hbase;unfold Oper.wp execOp;simp only[ho,resolve,invoke,builtin,Sem.run_bind,Sem.run_pure,Result.andThen_ok,List.map_toArray,List.map_cons,List.map_nil,hs,hx,hrun];exact h ao n c w' h1 h2 h3 h4
theorem Zr {o:Oper}{a:Act}{K:Act->World->Prop}{Q:Exit->Act->World->Prop}{w:World}(s x:Operand)
  (ho:o.op=.call {callee:=.builtin .append,args:=#[s,x],argTypes:=#[48,48]})(base:Nat)(v:Value)(l:List ByteArray)(hs:a.eval s=v)(hown:cI base w v l)
  (q:Nat)(y:ByteArray)(t:TypeId)(hx:a.eval x=.slice (some ⟨q,0,none⟩) 1 1)(hu:Cl w q #[.string y] t)(hl:l.length<100000)(hbase:base<=w.heap.size)(lm:List ByteArray)(hlm:l++[y]=lm)
  (h:∀ao n c w',cI base w' (.slice ao n c) lm->(∀w0,Below base w0 w->Below base w0 w')->BZ 9 w w'->Ca 9 w w'->K (a.put o.dst (.slice ao n c)) w'):Oper.wp Tryz.prog o a w K Q:=by
 subst hlm;obtain⟨ao,n,c,w',hrun,h1,h2,h3,h4⟩:=Ga o.type hown hu hl hbase;unfold Oper.wp execOp;simp only[ho,resolve,invoke,builtin,Sem.run_bind,Sem.run_pure,Result.andThen_ok,List.map_toArray,List.map_cons,List.map_nil,hs,hx,hrun];exact h ao n c w' h1 h2 h3 h4
theorem qU {base b:Nat}{w w':World}{e:TypeId}{k:Nat}{v:Value}{n:Nat}{xs:List Value}(h:w.ownsRow base e k v n xs)(ho:Only b w w')(hb:b<base):w'.ownsRow base e k v n xs:=by
 refine⟨h.1,?_⟩;rcases h.2 with h2| ⟨g,cap,cur,hv,hg,hh,r⟩
 ·exact Or.inl h2
 ·exact Or.inr ⟨g,cap,cur,hv,hg,by rw[ho.block g (by omega)];exact hh,r⟩
theorem JO {b q:Nat}{w w':World}{cs:Array Value}{t:TypeId}(h:Cl w q cs t)(ho:Only b w w')(hb:q≠b):Cl w' q cs t:=(ho.block q hb).trans h
theorem Ec {base q i:Nat}{w:World}{e t:TypeId}{k:Nat}{v x:Value}{n:Nat}{xs:List Value}{cs:Array Value}(h:w.ownsRow base e k v n xs)(hc:Cl w q cs t)(hne:t≠e):(w.setCell ⟨q,i,none⟩ x).ownsRow base e k v n xs:=by
 refine⟨h.1,?_⟩;rcases h.2 with h2| ⟨g,cap,cur,hv,hg,hh,r⟩
 ·exact Or.inl h2
 ·refine Or.inr ⟨g,cap,cur,hv,hg,?_,r⟩;have Va:g≠q:=by
   intro e1;subst e1;unfold Cl at hc;rw[hc]at hh;injection hh with hh;injection hh with h1 h2;exact hne h2
  rw[Below.heap_setCell _ _ _ _ Va];exact hh
theorem _root_.Go.Proofs.YtcenfooehjcddaaGreatDoor.Rd.cl {b:Nat}{s:ByteArray}{e:Int}{w:World}(h:Rd b s e w):Cl w b #[.string s,.int .i64 e] 228:=h.blk
theorem _root_.Go.Proofs.YtcenfooehjcddaaGreatDoor.Rd.of {b:Nat}{s:ByteArray}{e:Int}{w w':World}(h:Rd b s e w)(hc:Cl w' b #[.string s,.int .i64 e] 228):Rd b s e w':=⟨hc,h.sz⟩
theorem Ed {w:World}{q b i:Nat}{cs:Array Value}{t:TypeId}(h:Cl w q cs t)(c:b≠q)(x:Value):Cl (w.setCell ⟨b,i,none⟩ x) q cs t:=by
 unfold Cl at h⊢;simp[World.setCell,Array.getElem?_modify,c,h]
structure mG (base:Nat)(w:World)(ve vk vs:Value)(n:Nd):Prop where
 e:Own ax 2 base w ve n.es
 k:Own encI 1 base w vk n.ks
 s:Own encS 1 base w vs n.ss
theorem kT.w {base:Nat}{w:World}{ve vk vs:Value}{n:Nd}(h:kT base w ve vk vs n):mG base w ve vk vs n:=⟨bI (by decide) h.e,bI (by decide) h.k,bI (by decide) h.s⟩
theorem mG.r {base:Nat}{w:World}{ve vk vs:Value}{n:Nd}(h:mG base w ve vk vs n):iw w ve vk vs n:=⟨h.e.row,h.k.row,h.s.row⟩
theorem mG.mono {base base':Nat}{w:World}{ve vk vs:Value}{n:Nd}(h:mG base w ve vk vs n)(hb:base'<=base):mG base' w ve vk vs n:=⟨h.e.mono hb,h.k.mono hb,h.s.mono hb⟩
theorem mG.below {base:Nat}{w w':World}{ve vk vs:Value}{n:Nd}(h:mG base w ve vk vs n)(hb:Below w.heap.size w w'):mG base w' ve vk vs n:=⟨h.e.below hb,h.k.below hb,h.s.below hb⟩
theorem mG.zero (base:Nat)(w:World):mG base w (.slice none 0 0) (.slice none 0 0) (.slice none 0 0) nd0:=⟨Own.nil,Own.nil,Own.nil⟩
theorem fD {α:Type}[Inhabited α]{enc:α->List Value}{k base q i:Nat}{w:World}{v x:Value}{l:List α}(h:Own enc k base w v l)(hq:q<base):Own enc k base (w.setCell ⟨q,i,none⟩ x) v l:=by
 obtain⟨ao,cap,e,h1,h2,h3⟩:=h;refine⟨ao,cap,e,h1,h2,fun hne=>?_⟩;obtain⟨b,off,e2,hb,hlt,hh⟩:=h3 hne;have hbq:b≠q:=by omega
 refine⟨b,off,e2,hb,by simpa using hlt,fun t ht=>?_⟩;have hbk:=Below.heap_setCell w ⟨q,i,none⟩ x b hbq;have:=hh t ht
 rwa [<-World.cell?_of_block (w:=w) (w':=w.setCell ⟨q,i,none⟩ x) (a:=⟨b,off+t,none⟩) hbk,<-World.frozen?_of_block (w:=w) (w':=w.setCell ⟨q,i,none⟩ x) (a:=⟨b,off+t,none⟩) hbk]at this
theorem mG.fk {base q:Nat}{w:World}{ve vk vs a b c d:Value}{n:Nd}(h:mG base w ve vk vs n)(hq:q<base):mG base (Go.Proofs.YtcenfooehjcddaaGreatDoor.N.fk w q a b c d) ve vk vs n:=
 ⟨fD (fD (fD (fD h.e hq) hq) hq) hq,fD (fD (fD (fD h.k hq) hq) hq) hq,fD (fD (fD (fD h.s hq) hq) hq) hq⟩
theorem aL {fn:Func}{p q:Tmp}{ty:TypeId}(h:fn.results=#[.cell p ty,.tmp q])(tmps:Array Value)(P:Program)(w:World):
  (results fn tmps).run P w=((asAddr (tmps.getD p undef)).run P w).andThen fun a w₁=>((loadVar ty a).run P w₁).andThen fun x w₂=>.ok (.tuple #[x,tmps.getD q undef]) w₂:=by
 simp only[results,h];simp[Sem.run_bind,Result.andThen]
def Qu (w:World)(kind:Int)(S:List UInt8)(e:Ending)(w':World):Prop:=
 ∃ve vk vs,e=.returned (.tuple #[.agg #[.bool (uD kind S).leaf,ve,vk,vs],.int .i64 (lr (vA kind S))])∧mG w.heap.size w' ve vk vs (uD kind S)∧Below w.heap.size w w'
end
section
theorem Ac (s:ByteArray)(e n:Int):(aN s e n).1.size<=s.size:=by
 unfold aN;split
 ·simp
 ·split
  ·simp
  ·split
   ·simp
   ·simp;omega
theorem Cb (s:ByteArray)(e:Int):(a8 s e).1.size<=s.size:=Nat.le_trans (Ac _ _ _) (jF _ _ _)
theorem Cc (S:ByteArray)(w:World)(hS:S.size<=240):Calls Tryz.prog 172 #[.string S] w (Qu w 1 S.data.toList):=by
 have BW:Below w.heap.size w (w.alloc (.cells #[.bool false,.slice none 0 0,.slice none 0 0,.slice none 0 0] 170)):=aq _ (Below.refl _ _);have K1:Cl (w.alloc (.cells #[.bool false,.slice none 0 0,.slice none 0 0,.slice none 0 0] 170)) w.heap.size #[.bool false,.slice none 0 0,.slice none 0 0,.slice none 0 0] 170:=Cl.lY _ _ _;have C:Hid _:=Bq S (w.alloc (.cells #[.bool false,.slice none 0 0,.slice none 0 0,.slice none 0 0] 170)) (by omega);have DN:=Ox (s:=S.data.toList) (by rw[<-Lib.size_eq];exact hS);go_enter Tryz.func172,Tryz.ntmps172
 go_upto_region 1 with fail
 have sz:(w.alloc (.cells #[.bool false,.slice none 0 0,.slice none 0 0,.slice none 0 0] 170)).heap.size=w.heap.size+1:=by simp
 generalize World.alloc _ _=W at*;obtain⟨p,hp⟩:∃p,w.heap.size=p:=⟨_,rfl⟩;have HP:Hid (w.heap.size=p):=hp;rw[hp]at K1 BW sz⊢;clear hp;have SZ:Hid _:=sz;clear sz;cases hb:Fj S.data.toList with
 |true=>
  rw[hb]at C;rw[hb,if_pos rfl]at DN;obtain⟨r1,r2⟩:=nL DN;have R1:Hid _:=r1;have R2:Hid _:=r2;clear r1 r2 DN hb
  go_wp2_with fail
  refine Calls.mono C.out ?_;rintro e w1 ⟨v',rfl,o1,b1⟩;clear C;generalize zg S.data.toList=l at*;obtain⟨ae,ce,rfl,_⟩:=aG o1.row;have K2:=K1.on b1;obtain⟨c0,c1,c2,c3⟩:=K2.four;obtain⟨g0,g1,g2,g3⟩:=K2.thaw;have KX:Cl ((((w1.setCell ⟨p,0,none⟩ (.bool true)).setCell ⟨p,1,none⟩ (.slice ae l.length ce)).setCell ⟨p,2,none⟩ (.slice none 0 0)).setCell ⟨p,3,none⟩ (.slice none 0 0)) p #[.bool true,.slice ae l.length ce,.slice none 0 0,.slice none 0 0] 170:=K2.fk _ _ _ _;have BX:Hid (Below p w ((((w1.setCell ⟨p,0,none⟩ (.bool true)).setCell ⟨p,1,none⟩ (.slice ae l.length ce)).setCell ⟨p,2,none⟩ (.slice none 0 0)).setCell ⟨p,3,none⟩ (.slice none 0 0))):=dg (BW.trans (b1.mono (by have:=SZ.out;omega))) (Nat.le_refl _);have OX:Hid (mG p ((((w1.setCell ⟨p,0,none⟩ (.bool true)).setCell ⟨p,1,none⟩ (.slice ae l.length ce)).setCell ⟨p,2,none⟩ (.slice none 0 0)).setCell ⟨p,3,none⟩ (.slice none 0 0)) (.slice ae l.length ce) (.slice none 0 0) (.slice none 0 0) ⟨true,l,[],[]⟩):=by
   have:=mG.fk (q:=p) (a:=.bool true) (b:=.slice ae l.length ce) (c:=.slice none 0 0) (d:=.slice none 0 0) (⟨o1,Own.nil,Own.nil⟩:mG W.heap.size w1 (.slice ae l.length ce) (.slice none 0 0) (.slice none 0 0) ⟨true,l,[],[]⟩) (by have:=SZ.out;omega);exact this.mono (by have:=SZ.out;omega)
  clear K1 K2 o1 b1 BW;go_wp2
  (try simp only[Exit.inBlock,Exit.then])
  clear c0 c1 c2 c3 g0 g1 g2 g3;generalize World.setCell _ _ _=X at*;obtain⟨k0,k1,k2,k3⟩:=KX.four;refine bodyPost_ret (v:=.tuple #[.agg #[.bool true,.slice ae l.length ce,.slice none 0 0,.slice none 0 0],.int .i64 0]) ?_ rfl ⟨_,_,_,by rw[R1.out,R2.out];rfl,by rw[R1.out,HP.out];exact OX.out,by rw[HP.out];exact BX.out⟩;rw[aL rfl];go_simp
 |false=>
  rw[hb]at C;rw[hb,if_neg (by simp)]at DN;obtain⟨r1,r2⟩:=ja DN;have R1:Hid _:=r1;have R2:Hid _:=r2;clear r1 r2 DN hb
  go_wp2_with fail
  refine Calls.mono C.out ?_;rintro e w1 ⟨v',rfl,o1,b1⟩;clear C;obtain⟨ae,ce,rfl,_⟩:=aG o1.row;have K2:=K1.on b1;obtain⟨c0,c1,c2,c3⟩:=K2.four;obtain⟨g0,g1,g2,g3⟩:=K2.thaw;have KX:Cl ((((w1.setCell ⟨p,0,none⟩ (.bool false)).setCell ⟨p,1,none⟩ (.slice none 0 0)).setCell ⟨p,2,none⟩ (.slice none 0 0)).setCell ⟨p,3,none⟩ (.slice none 0 0)) p #[.bool false,.slice none 0 0,.slice none 0 0,.slice none 0 0] 170:=K2.fk _ _ _ _;have BX:Hid (Below p w ((((w1.setCell ⟨p,0,none⟩ (.bool false)).setCell ⟨p,1,none⟩ (.slice none 0 0)).setCell ⟨p,2,none⟩ (.slice none 0 0)).setCell ⟨p,3,none⟩ (.slice none 0 0))):=dg (BW.trans (b1.mono (by have:=SZ.out;omega))) (Nat.le_refl _);clear K1 K2 o1 b1 BW;go_wp2
  (try simp only[Exit.inBlock,Exit.then])
  clear c0 c1 c2 c3 g0 g1 g2 g3;generalize World.setCell _ _ _=X at*;obtain⟨k0,k1,k2,k3⟩:=KX.four;refine bodyPost_ret (v:=.tuple #[.agg #[.bool false,.slice none 0 0,.slice none 0 0,.slice none 0 0],.int .i64 3]) ?_ rfl ⟨_,_,_,by rw[R1.out,R2.out];rfl,by rw[R1.out];exact mG.zero _ _,by rw[HP.out];exact BX.out⟩;rw[aL rfl];go_simp
end
section
theorem Oy (out:List Pk)(x:Pk):(out++[x]).map (·.1)=out.map (·.1)++[x.1]:=by simp
theorem Oz (k0:Int)(out:List Pk)(x:Pk):k0::(out++[x]).map (·.2)=(k0::out.map (·.2))++[x.2]:=by simp
structure jb (W:World)(rb q:Nat)(ak:Option Addr)(nk ck:Nat)(az:Option Addr)(nz cz:Nat)(kl:List Int)(sl:List ByteArray)(s s1:ByteArray)(e e1:Int)(f3 f5:Bool)(w:World):Prop where
 k:Cl w q #[.bool false,.slice none 0 0,.slice ak nk ck,.slice az nz cz] 170
 b:Below rb W w
 other:dB (rb+1) w (.slice ak nk ck) kl
 r:Rd rb (cond f3 s1 s) (cond f3 e1 e) w
 o:f5=false->cI (rb+1) w (.slice az nz cz) sl
 ne:q≠rb
theorem jb.z {W:World}{rb q:Nat}{ak:Option Addr}{nk ck:Nat}{az:Option Addr}{nz cz:Nat}{kl:List Int}{sl:List ByteArray}{s s1:ByteArray}{e e1:Int}{f3 f5:Bool}{w:World}(h:jb W rb q ak nk ck az nz cz kl sl s s1 e e1 f3 f5 w):rb+1<=w.heap.size:=h.r.lt
theorem jb.lay {W:World}{rb q:Nat}{ak:Option Addr}{nk ck:Nat}{az:Option Addr}{nz cz:Nat}{kl:List Int}{sl:List ByteArray}{s s1:ByteArray}{e e1:Int}{f3 f5:Bool}{w:World}(h:jb W rb q ak nk ck az nz cz kl sl s s1 e e1 f3 f5 w)(x:Obj):jb W rb q ak nk ck az nz cz kl sl s s1 e e1 f3 f5 (w.alloc x):=
 ⟨h.k.alloc _,h.b.alloc (Nat.le_of_lt h.r.lt) _,ownsRow_below h.other (aq _ (Below.refl _ _)),h.r.below (aq _ (Below.refl _ w)) h.r.lt,fun t=>ownsRow_below (h.o t) (aq _ (Below.refl _ _)),h.ne⟩
theorem jb.read {W:World}{rb q:Nat}{ak:Option Addr}{nk ck:Nat}{az:Option Addr}{nz cz:Nat}{kl:List Int}{sl:List ByteArray}{s s1:ByteArray}{e e1:Int}{f3 f5:Bool}{w w':World}(h:jb W rb q ak nk ck az nz cz kl sl s s1 e e1 f3 f5 w)(hr:Rd rb s1 e1 w')(ho:Only rb w w')(_un:f3=false):jb W rb q ak nk ck az nz cz kl sl s s1 e e1 true f5 w':=
 ⟨JO h.k ho h.ne,h.b.trans (ho.below (Nat.le_refl _)),qU h.other ho (Nat.lt_succ_self _),hr,fun t=>qU (h.o t) ho (Nat.lt_succ_self _),h.ne⟩
theorem jb.grow {W:World}{rb q:Nat}{ak:Option Addr}{nk ck:Nat}{az:Option Addr}{nz cz:Nat}{kl:List Int}{sl:List ByteArray}{s s1:ByteArray}{e e1:Int}{f3 f5:Bool}{w w':World}(h:jb W rb q ak nk ck az nz cz kl sl s s1 e e1 f3 f5 w)(hq:∀w0,Below (rb+1) w0 w->Below (rb+1) w0 w')(ht:BZ 9 w w')(hc:Ca 9 w w'):jb W rb q ak nk ck az nz cz kl sl s s1 e e1 f3 true w':=
 ⟨hc _ _ _ (by decide) h.k,h.b.trans ((hq _ (Below.refl _ _)).mono (Nat.le_succ _)),ht _ _ _ _ _ _ (by decide) h.other,h.r.of (hc _ _ _ (by decide) h.r.cl),(fun t=>by cases t),h.ne⟩
structure jc (W:World)(rb q:Nat)(ak:Option Addr)(nk ck:Nat)(az:Option Addr)(nz cz:Nat)(kl:List Int)(sl:List ByteArray)(s s1:ByteArray)(e e1:Int)(f3 f5:Bool)(w:World):Prop where
 k:Cl w q #[.bool false,.slice none 0 0,.slice ak nk ck,.slice az nz cz] 170
 b:Below rb W w
 other:cI (rb+1) w (.slice az nz cz) sl
 r:Rd rb (cond f3 s1 s) (cond f3 e1 e) w
 o:f5=false->dB (rb+1) w (.slice ak nk ck) kl
 ne:q≠rb
theorem jc.z {W:World}{rb q:Nat}{ak:Option Addr}{nk ck:Nat}{az:Option Addr}{nz cz:Nat}{kl:List Int}{sl:List ByteArray}{s s1:ByteArray}{e e1:Int}{f3 f5:Bool}{w:World}(h:jc W rb q ak nk ck az nz cz kl sl s s1 e e1 f3 f5 w):rb+1<=w.heap.size:=h.r.lt
theorem jc.lay {W:World}{rb q:Nat}{ak:Option Addr}{nk ck:Nat}{az:Option Addr}{nz cz:Nat}{kl:List Int}{sl:List ByteArray}{s s1:ByteArray}{e e1:Int}{f3 f5:Bool}{w:World}(h:jc W rb q ak nk ck az nz cz kl sl s s1 e e1 f3 f5 w)(x:Obj):jc W rb q ak nk ck az nz cz kl sl s s1 e e1 f3 f5 (w.alloc x):=
 ⟨h.k.alloc _,h.b.alloc (Nat.le_of_lt h.r.lt) _,ownsRow_below h.other (aq _ (Below.refl _ _)),h.r.below (aq _ (Below.refl _ w)) h.r.lt,fun t=>ownsRow_below (h.o t) (aq _ (Below.refl _ _)),h.ne⟩
theorem jc.read {W:World}{rb q:Nat}{ak:Option Addr}{nk ck:Nat}{az:Option Addr}{nz cz:Nat}{kl:List Int}{sl:List ByteArray}{s s1:ByteArray}{e e1:Int}{f3 f5:Bool}{w w':World}(h:jc W rb q ak nk ck az nz cz kl sl s s1 e e1 f3 f5 w)(hr:Rd rb s1 e1 w')(ho:Only rb w w')(_un:f3=false):jc W rb q ak nk ck az nz cz kl sl s s1 e e1 true f5 w':=
 ⟨JO h.k ho h.ne,h.b.trans (ho.below (Nat.le_refl _)),qU h.other ho (Nat.lt_succ_self _),hr,fun t=>qU (h.o t) ho (Nat.lt_succ_self _),h.ne⟩
theorem jc.grow {W:World}{rb q:Nat}{ak:Option Addr}{nk ck:Nat}{az:Option Addr}{nz cz:Nat}{kl:List Int}{sl:List ByteArray}{s s1:ByteArray}{e e1:Int}{f3 f5:Bool}{w w':World}(h:jc W rb q ak nk ck az nz cz kl sl s s1 e e1 f3 f5 w)(hq:∀w0,Below (rb+1) w0 w->Below (rb+1) w0 w')(ht:BZ 3 w w')(hc:Ca 3 w w'):jc W rb q ak nk ck az nz cz kl sl s s1 e e1 f3 true w':=
 ⟨hc _ _ _ (by decide) h.k,h.b.trans ((hq _ (Below.refl _ _)).mono (Nat.le_succ _)),ht _ _ _ _ _ _ (by decide) h.other,h.r.of (hc _ _ _ (by decide) h.r.cl),(fun t=>by cases t),h.ne⟩
def Zs (W:World)(rb q:Nat)(ak:Option Addr)(nk ck:Nat)(az:Option Addr)(nz cz:Nat)(kl:List Int)(sl:List ByteArray)(s s1:ByteArray)(e e1:Int)(kk:ByteArray)(lm:List ByteArray){y0 y1 y2 y3 y6 y7 y8 y9 xC tF tG y13 uK qi qj tH xD xE y27 y28 y29 zW y31 y32 xI y34 uO uP xJ y38 y39 zX zY zZ z6:Value}(C:List Bool->Act->Prop)(w:World):Prop:=∀{f0 f1 f2 f3 f4 f5 f6 f7:Bool}{x20 kn mg lz x24 x25 tI:Value},f7=false->jb W rb q ak nk ck az nz cz kl sl s s1 e e1 f3 f5 w->Hid (f0=true->x20=.pointer (some ⟨q,3,none⟩))->Hid (f1=true->kn=.slice az nz cz)->Hid (f2=true->mg=.pointer (some ⟨rb,0,none⟩))->Hid (f3=true->lz=.string kk)->Hid (f4=true->f5=false->f3=true∧∃qq,x24=.slice (some ⟨qq,0,none⟩) 1 1∧Cl w qq #[.string kk] 9)->Hid (f5=true->f3=true∧∃ao n c,x25=.slice ao n c∧cI (rb+1) w x25 (lm))->Hid (f6=true->tI=.pointer (some ⟨q,3,none⟩))->C [f0,f1,f2,f3,f4,f5,f6,f7] {tmps:=#[y0,y1,y2,y3,.pointer (some ⟨rb,0,none⟩),.pointer (some ⟨q,0,none⟩),y6,y7,y8,y9,xC,tF,tG,y13,uK,qi,qj,tH,xD,xE,x20,kn,mg,lz,x24,x25,tI,y27,y28,y29,zW,y31,y32,xI,y34,uO,uP,xJ,y38,y39,zX,zY,zZ,z6],defers:=[]}
def Zt (W:World)(rb q:Nat)(ak:Option Addr)(nk ck:Nat)(az:Option Addr)(nz cz:Nat)(kl:List Int)(sl:List ByteArray)(s s1:ByteArray)(e e1:Int)(vv:Int)(lm:List Int){y0 y1 y2 y3 y6 y7 y8 y9 xC tF tG y13 uK qi qj tH xD xE y20 y21 y22 y23 y24 y25 zV y34 uO uP xJ y38 y39 zX zY zZ z6:Value}(C:List Bool->Act->Prop)(w:World):Prop:=∀{f0 f1 f2 f3 f4 f5 f6 f7:Bool}{x27 x28 x29 x30 x31 x32 Jq:Value},f7=false->jc W rb q ak nk ck az nz cz kl sl s s1 e e1 f3 f5 w->Hid (f0=true->x27=.pointer (some ⟨q,2,none⟩))->Hid (f1=true->x28=.slice ak nk ck)->Hid (f2=true->x29=.pointer (some ⟨rb,0,none⟩))->Hid (f3=true->x30=.int .i64 vv)->Hid (f4=true->f5=false->f3=true∧∃qq,x31=.slice (some ⟨qq,0,none⟩) 1 1∧Cl w qq #[.int .i64 vv] 3)->Hid (f5=true->f3=true∧∃ao n c,x32=.slice ao n c∧dB (rb+1) w x32 (lm))->Hid (f6=true->Jq=.pointer (some ⟨q,2,none⟩))->C [f0,f1,f2,f3,f4,f5,f6,f7] {tmps:=#[y0,y1,y2,y3,.pointer (some ⟨rb,0,none⟩),.pointer (some ⟨q,0,none⟩),y6,y7,y8,y9,xC,tF,tG,y13,uK,qi,qj,tH,xD,xE,y20,y21,y22,y23,y24,y25,zV,x27,x28,x29,x30,x31,x32,Jq,y34,uO,uP,xJ,y38,y39,zX,zY,zZ,z6],defers:=[]}
theorem Ad (S:ByteArray)(w:World)(hS:S.size<=240):Calls Tryz.prog 173 #[.string S] w (Qu w 2 S.data.toList):=by
 have BW:Below w.heap.size w (w.alloc (.cells #[.bool false,.slice none 0 0,.slice none 0 0,.slice none 0 0] 170)):=aq _ (Below.refl _ _);have K1:Cl (w.alloc (.cells #[.bool false,.slice none 0 0,.slice none 0 0,.slice none 0 0] 170)) w.heap.size #[.bool false,.slice none 0 0,.slice none 0 0,.slice none 0 0] 170:=Cl.lY _ _ _;have sz:(w.alloc (.cells #[.bool false,.slice none 0 0,.slice none 0 0,.slice none 0 0] 170)).heap.size=w.heap.size+1:=by simp
 go_enter Tryz.func173,Tryz.ntmps173
 go_upto_region 1 with fail
 generalize World.alloc _ _=W at*;have C0:Hid _:=mM S W;have R0:Hid (Rd W.heap.size S 0 (W.alloc (.cells #[.string S,.int .i64 0] 228))):=Rd.made S (by unfold maxLen;omega) W;have B1:Hid (Below W.heap.size W (W.alloc (.cells #[.string S,.int .i64 0] 228))):=aq _ (Below.refl _ _);have sz1:(W.alloc (.cells #[.string S,.int .i64 0] 228)).heap.size=W.heap.size+1:=by simp
 obtain⟨p,hp⟩:∃p,w.heap.size=p:=⟨_,rfl⟩;have HP:Hid (w.heap.size=p):=hp;obtain⟨rb,hrb⟩:∃rb,W.heap.size=rb:=⟨_,rfl⟩;have YU:Hid (W.heap.size=rb):=hrb;rw[hp]at K1 BW sz⊢;rw[hrb]at C0 R0 B1 sz sz1;clear hp hrb;have prb:p<rb:=by omega
 have sz0:rb+1<=(W.alloc (.cells #[.string S,.int .i64 0] 228)).heap.size:=by omega
 clear sz sz1;generalize World.alloc _ _=W1 at*
 go_upto_region 2 with(go_at_call 114;refine Calls.mono C0.out ?_;rintro e w1 ⟨rfl,rfl⟩)
 clear C0;have C1:Hid _:=js rb S 0 4 w1 R0.out;have D0:Hid _:=JJ.start S;have z0:=jF S 0 4;obtain⟨T0,hT0⟩:∃x,bh S 0 4=x:=⟨_,rfl⟩;rw[hT0]at C1 D0 z0;clear hT0;obtain⟨k0,s0,e0⟩:=T0
 (try dsimp only at z0)
 go_wp2_with fail
 refine Calls.mono C1.out ?_;rintro e w2 ⟨rfl,hr2,ho2⟩
 (try dsimp only at hr2)
 clear C1 R0;have sz2:rb+1<=w2.heap.size:=Nat.le_trans sz0 (Nat.le_of_eq ho2.size.symm);have B2:Hid (Below rb W w2):=B1.out.trans (ho2.below (Nat.le_refl _));have OI:Aside (dB (rb+1) (w2.alloc (.cells #[.int .i64 k0] 3)) (.slice (some ⟨w2.heap.size,0,none⟩) 1 1) [k0]):=Wm w2 k0 sz2;have b3:Below w2.heap.size w2 ((w2.alloc (.cells #[.int .i64 k0] 3)).alloc (.cells #[.bool false,.slice none 0 0,.slice (some ⟨w2.heap.size,0,none⟩) 1 1,.slice none 0 0] 170)):=aq _ (aq _ (Below.refl _ _));have R3:Hid (Rd rb s0 e0 ((w2.alloc (.cells #[.int .i64 k0] 3)).alloc (.cells #[.bool false,.slice none 0 0,.slice (some ⟨w2.heap.size,0,none⟩) 1 1,.slice none 0 0] 170))):=hr2.below b3 (by omega);have KQ:Aside (Cl ((w2.alloc (.cells #[.int .i64 k0] 3)).alloc (.cells #[.bool false,.slice none 0 0,.slice (some ⟨w2.heap.size,0,none⟩) 1 1,.slice none 0 0] 170)) (w2.heap.size+1) #[.bool false,.slice none 0 0,.slice (some ⟨w2.heap.size,0,none⟩) 1 1,.slice none 0 0] 170):=Cl.pU _ _ _ _;have OI2:Aside (dB (rb+1) ((w2.alloc (.cells #[.int .i64 k0] 3)).alloc (.cells #[.bool false,.slice none 0 0,.slice (some ⟨w2.heap.size,0,none⟩) 1 1,.slice none 0 0] 170)) (.slice (some ⟨w2.heap.size,0,none⟩) 1 1) [k0]):=ownsRow_below OI.out (aq _ (Below.refl _ _));have B3:Hid (Below rb W ((w2.alloc (.cells #[.int .i64 k0] 3)).alloc (.cells #[.bool false,.slice none 0 0,.slice (some ⟨w2.heap.size,0,none⟩) 1 1,.slice none 0 0] 170))):=B2.out.trans (b3.mono (by omega));have hq:rb+1<=w2.heap.size+1:=by omega
 clear OI b3 hr2 ho2 B2 B1;go_wp2;generalize World.alloc _ _=W3 at*;generalize w2.heap.size+1=q at*
 go_loopg [12] (S.size+1) (fun kx s12 wr=>∃(ak:Option Addr) (nk ck:Nat) (az:Option Addr) (nz cz:Nat) (out:List Pk) (s:ByteArray) (e:Int),s.size<kx+1∧out.length+s.size<=S.size∧Hid (bV (out.map (·.1))<=245*out.length)∧Hid (Rd rb s e wr)∧Hid (JJ S s k0 e out)∧Aside (Cl wr q #[.bool false,.slice none 0 0,.slice ak nk ck,.slice az nz cz] 170)∧Aside (dB (rb+1) wr (.slice ak nk ck) (k0::out.map (·.2)))∧Aside (cI (rb+1) wr (.slice az nz cz) (out.map (·.1)))∧Hid (Below rb W wr))
 case atStart=>exact⟨_,_,_,_,_,_,[],s0,e0,by omega,by simp;omega,by show _<=_;simp[bV],R3,D0,KQ,OI2,cI.empty _ _,B3⟩
 case round=>
  clear R3 KQ OI2 B3 D0;obtain⟨ak,nk,ck,az,nz,cz,out,s,e,hk,hsz,HZ,HR,HD,HQ,HI,HO,HB⟩:=hrel;have CE:Hid _:=mL rb s e wr HR.out;have CL:Hid _:=jS rb s e wr HR.out;have hlt:=HR.out.lt;by_cases he:e=0
  ·subst he;by_cases hs0:s.size=0
   ·have hs1:¬(0:Int)< (s.size:Int):=by omega
    have CN:Hid _:=mN rb s 0 wr HR.out;have en:eI s 0=0:=by simp[eI,hs0]
    rw[en]at CN;have G:Hid _:=HD.out.good hs0 hS;have NX:kT (rb+1) wr (.slice none 0 0) (.slice ak nk ck) (.slice az nz cz) (nc k0 out):=⟨bp.empty _ _,HI.out,HO.out⟩;have sm:Sm (nc k0 out):=⟨by simp[nc],by simp[nc];omega,by simp[nc];omega,by simp[nc,cY],by have:=HZ.out;simp only[nc];omega⟩;have CR:Hid _:=eO (nc k0 out) _ _ _ wr NX.r sm;have NW:Hid _:=NX.w;obtain⟨c0,c1,c2,c3⟩:=HQ.out.four;have k1:=Wt K1 HB.out (by omega);have lf:(nc k0 out).leaf=false:=rfl;rw[lf]at CR;clear en HD hs0 NX sm HI HO HZ;cases hr:dF (nc k0 out)with
    |true=>
     rw[hr,if_pos rfl]at G;rw[hr]at CR;obtain⟨r1,r2⟩:=nL G.out;have R1:Hid _:=r1;have R2:Hid _:=r2;clear r1 r2 hr G
     go_wp2_with (first| (go_at_call 144;refine Calls.mono CE.out ?_;rintro e w' ⟨rfl,rfl⟩)| (go_at_call 145;refine Calls.mono CL.out ?_;rintro e w' ⟨rfl,rfl⟩)| (go_at_call 116;refine Calls.mono CN.out ?_;rintro e w' ⟨rfl,rfl⟩))
     refine Calls.mono CR.out ?_;rintro e w5 ⟨rfl,hb5⟩;have KQ5:=HQ.out.on hb5;have k5:=k1.on hb5;obtain⟨d0,d1,d2,d3⟩:=KQ5.four;obtain⟨f0,f1,f2,f3⟩:=k5.four;obtain⟨g0,g1,g2,g3⟩:=k5.thaw;have KX:Cl ((((w5.setCell ⟨p,0,none⟩ (.bool false)).setCell ⟨p,1,none⟩ (.slice none 0 0)).setCell ⟨p,2,none⟩ (.slice ak nk ck)).setCell ⟨p,3,none⟩ (.slice az nz cz)) p #[.bool false,.slice none 0 0,.slice ak nk ck,.slice az nz cz] 170:=k5.fk _ _ _ _;have BX:Hid (Below p w ((((w5.setCell ⟨p,0,none⟩ (.bool false)).setCell ⟨p,1,none⟩ (.slice none 0 0)).setCell ⟨p,2,none⟩ (.slice ak nk ck)).setCell ⟨p,3,none⟩ (.slice az nz cz))):=dg (BW.trans ((HB.out.trans (hb5.mono (by omega))).mono (by omega))) (Nat.le_refl _);have OX:Hid (mG p ((((w5.setCell ⟨p,0,none⟩ (.bool false)).setCell ⟨p,1,none⟩ (.slice none 0 0)).setCell ⟨p,2,none⟩ (.slice ak nk ck)).setCell ⟨p,3,none⟩ (.slice az nz cz)) (.slice none 0 0) (.slice ak nk ck) (.slice az nz cz) (nc k0 out)):=by
      have:=mG.fk (q:=p) (a:=.bool false) (b:=.slice none 0 0) (c:=.slice ak nk ck) (d:=.slice az nz cz) (NW.out.below hb5) (by omega);exact this.mono (by omega)
     clear K1 k1 k5 KQ5 hb5 BW NW c0 c1 c2 c3;go_wp2
     (try simp only[Exit.inBlock,Exit.then])
     clear d0 d1 d2 d3 f0 f1 f2 f3 g0 g1 g2 g3;generalize World.setCell _ _ _=X at*;obtain⟨k0,k1,k2,k3⟩:=KX.four;refine bodyPost_ret (v:=.tuple #[.agg #[.bool false,.slice none 0 0,.slice ak nk ck,.slice az nz cz],.int .i64 0]) ?_ rfl ⟨_,_,_,by rw[R1.out,R2.out];rfl,by rw[R1.out,HP.out];exact OX.out,by rw[HP.out];exact BX.out⟩;rw[aL rfl];go_simp
    |false=>
     rw[hr,if_neg (by simp)]at G;rw[hr]at CR;obtain⟨r1,r2⟩:=ja G.out;have R1:Hid _:=r1;have R2:Hid _:=r2;clear r1 r2 hr G
     go_wp2_with (first| (go_at_call 144;refine Calls.mono CE.out ?_;rintro e w' ⟨rfl,rfl⟩)| (go_at_call 145;refine Calls.mono CL.out ?_;rintro e w' ⟨rfl,rfl⟩)| (go_at_call 116;refine Calls.mono CN.out ?_;rintro e w' ⟨rfl,rfl⟩))
     refine Calls.mono CR.out ?_;rintro e w5 ⟨rfl,hb5⟩;have k5:=k1.on hb5;obtain⟨f0,f1,f2,f3⟩:=k5.four;obtain⟨g0,g1,g2,g3⟩:=k5.thaw;have KX:Cl ((((w5.setCell ⟨p,0,none⟩ (.bool false)).setCell ⟨p,1,none⟩ (.slice none 0 0)).setCell ⟨p,2,none⟩ (.slice none 0 0)).setCell ⟨p,3,none⟩ (.slice none 0 0)) p #[.bool false,.slice none 0 0,.slice none 0 0,.slice none 0 0] 170:=k5.fk _ _ _ _;have BX:Hid (Below p w ((((w5.setCell ⟨p,0,none⟩ (.bool false)).setCell ⟨p,1,none⟩ (.slice none 0 0)).setCell ⟨p,2,none⟩ (.slice none 0 0)).setCell ⟨p,3,none⟩ (.slice none 0 0))):=dg (BW.trans ((HB.out.trans (hb5.mono (by omega))).mono (by omega))) (Nat.le_refl _);clear K1 k1 k5 hb5 BW NW c0 c1 c2 c3;go_wp2
     (try simp only[Exit.inBlock,Exit.then])
     clear f0 f1 f2 f3 g0 g1 g2 g3;generalize World.setCell _ _ _=X at*;obtain⟨k0,k1,k2,k3⟩:=KX.four;refine bodyPost_ret (v:=.tuple #[.agg #[.bool false,.slice none 0 0,.slice none 0 0,.slice none 0 0],.int .i64 3]) ?_ rfl ⟨_,_,_,by rw[R1.out,R2.out];rfl,by rw[R1.out];exact mG.zero _ _,by rw[HP.out];exact BX.out⟩;rw[aL rfl];go_simp
   ·have hs1:(0:Int)< (s.size:Int):=by omega
    obtain⟨k1,k2⟩:=Ws s hs0;have f1:=Cb s 0;obtain⟨T1,hT1⟩:∃T1,a8 s 0=T1:=⟨_,rfl⟩;rw[hT1]at k1 k2 f1;obtain⟨kk,s1,e1⟩:=T1
    (try dsimp only at k1 k2 f1)
    obtain⟨T2,R8⟩:∃T2,bh s1 e1 4=T2:=⟨_,rfl⟩;rw[R8]at k1 k2;obtain⟨vv,s2,e2⟩:=T2
    (try dsimp only at k1 k2)
    have TXS:Hid (a8 s 0=(kk,s1,e1)):=hT1;have HD2:Hid _:=HD.out.next hs0 k2;have TT:Hid (bh s1 e1 4=(vv,s2,e2)):=R8;clear hT1 R8 k2 HD;obtain⟨o2,ho2⟩:∃x,out++[(kk,vv)]=x:=⟨_,rfl⟩;have l2:o2.length=out.length+1:=by rw[<-ho2];simp
    have m1:Hid (out.map (·.1)++[kk]=o2.map (·.1)):=by show _=_;rw[<-ho2,Oy]
    have m2:Hid ((k0::out.map (·.2))++[vv]=k0::o2.map (·.2)):=by show _=_;rw[<-ho2,Oz]
    have HZ2:Hid (bV (o2.map (·.1))<=245*o2.length):=by
     show _<=_;have:=HZ.out;rw[<-m1.out,dL,l2];have:bV [kk]=5+kk.size:=by simp[bV]
     omega
    rw[ho2]at HD2;clear ho2 HZ
    go_upto_region 4 with(first| (go_at_call 144;refine Calls.mono CE.out ?_;rintro e w' ⟨rfl,rfl⟩)| (go_at_call 145;refine Calls.mono CL.out ?_;rintro e w' ⟨rfl,rfl⟩))
    clear CE CL;have LS:Hid ((out.map (·.1)).length<100000):=by show _<_;simp;omega
    have l3:Hid ((k0::out.map (·.2)).length<100000):=by show _<_;simp;omega
    have LMS:Hid (out.map (·.1)++[kk]=o2.map (·.1)):=m1;clear m1;have hqr:q≠rb:=by omega
    have ez:decide (0<s.size)=true:=decide_eq_true (by omega);simp only[ez];clear ez;have ST:Hid (jb W rb q ak nk ck az nz cz (k0::out.map (·.2)) (out.map (·.1)) s s1 0 e1 false false wr.drew):=⟨HQ.out,HB.out.drew,HI.out,⟨HR.out.blk,HR.out.sz⟩,fun _=>HO.out,hqr⟩;refine bc 7 (Zs W rb q ak nk ck az nz cz (k0::out.map (·.2)) (out.map (·.1)) s s1 0 e1 kk (o2.map (·.1))) (by kernel_rfl) (by kernel_rfl) (by kernel_rfl) (fun _ k=>k rfl ST.out ar ar ar ar ar ar ar) ?_ ?_ ?_
    ·intro i w' hne f0 f1 f2 f3 f4 f5 f6 f7 x20 kn mg lz x24 x25 tI e7 hB h0 h1 h2 h3 h4 h5 h6 hi;obtain⟨hlt,hun,_⟩:=aP hi;have hlt':i<8:=hlt;clear hlt;rcases(by omega:i=0∨i=1∨i=2∨i=3∨i=4∨i=5∨i=6)with rfl|rfl|rfl|rfl|rfl|rfl|rfl
     refine ai rfl fun K HK=>?_;go_simp
     rotate_left
     cases h0 (ah 0 hi (by kernel_rfl));obtain⟨i0,i1,i2,i3⟩:=hB.k.four;refine ai rfl fun K HK=>?_;go_simp
     rotate_left
     refine ai rfl fun K HK=>?_;go_simp
     rotate_left
     ·have un:f3=false:=hun;cases h2 (ah 2 hi (by kernel_rfl));refine ai rfl fun K HK=>?_;go_simp;refine Calls.mono (by
        have hr:=hB.r
        rw[un]at hr
        have hh:=oF rb s 0 w' hr
        rw[TXS.out]at hh
        exact hh) ?_
      rintro e w1 ⟨rfl,r1,o1⟩;exact HK.out _ _ fun _ k=>k e7 (hB.read r1 o1 un) h0 h1 h2 hidR (fun d t=>by have e:=(h4.out d t).1;rw[un]at e;cases e) (fun d=>by have e:=(h5.out d).1;rw[un]at e;cases e) h6
     ·have d3:f3=true:=ah 3 hi (by kernel_rfl);cases h3 d3;refine ai rfl fun K HK=>?_;go_simp;exact HK.out _ _ fun _ k=>k e7 (hB.lay _) h0 h1 h2 h3 (fun _ _=>⟨d3,_,rfl,Cl.new _ _ _⟩) (fun d=>let⟨n0,ao,n,c,e,o⟩:=h5.out d;⟨n0,ao,n,c,e,ownsRow_below o (aq _ (Below.refl _ _))⟩) h6
     ·have un:f5=false:=hun;have d3:f3=true:=ah 3 hi (by kernel_rfl);cases h3 d3;cases h1 (ah 1 hi (by kernel_rfl));have d4:f4=true:=ah 4 hi (by kernel_rfl);obtain⟨_,q4,y4,c4⟩:=h4.out d4 un;subst y4;refine ai rfl fun K HK=>?_;refine Zr _ _ rfl (rb+1) _ _ rfl (hB.o un) q4 _ _ rfl c4 LS.out hB.z _ LMS.out ?_;intro ao nn cc w1 P1 Q1 T1 D1;go_simp;exact HK.out _ _ fun _ k=>k e7 (hB.grow Q1 T1 D1) h0 h1 h2 h3 (fun _ t=>by cases t) (fun _=>⟨d3,ao,nn,cc,rfl,P1⟩) h6
     refine ai rfl fun K HK=>?_;go_simp
     rotate_left
     all_goals exact HK.out _ _ fun _ k=>by apply k<;>first|assumption|exact hidR|(repeat' first|apply Exists.intro|assumption|rfl|apply And.intro|exact fun _=>rfl)
    ·intro w' f0 f1 f2 f3 f4 f5 f6 f7 x20 kn mg lz x24 x25 tI e7 hB h0 h1 h2 h3 h4 h5 h6 hi;have d5:f5=true:=ah 5 hi (by kernel_rfl);obtain⟨u3,a5,n5,m5,rfl,o5⟩:=h5.out d5;have d6:f6=true:=ah 6 hi (by kernel_rfl);cases h6 d6;clear hi;obtain⟨i0,i1,i2,i3⟩:=hB.k.four;obtain⟨g0,g1,g2,g3⟩:=hB.k.thaw;refine ai rfl fun K HK=>?_;go_simp;refine HK.out _ _ ?_;have Zu:=u3;subst Zu;have ST:Hid (jc W rb q ak nk ck a5 n5 m5 (k0::out.map (·.2)) (o2.map (·.1)) s1 s2 e1 e2 false false (w'.setCell ⟨q,3,none⟩ (.slice a5 n5 m5)).drew):=⟨hB.k.set 3 _,(hB.b.setCell (p:=⟨q,3,none⟩) (show rb<=q by omega) _).drew,Ec o5 hB.k (by decide),⟨Ed hB.r.cl hB.ne _,hB.r.sz⟩,fun _=>Ec hB.other hB.k (by decide),hB.ne⟩;have TX:Hid (bh s1 e1 4=(vv,s2,e2)):=TT;have LL:Hid ((k0::out.map (·.2)).length<100000):=l3;have LM:Hid ((k0::out.map (·.2))++[vv]=k0::o2.map (·.2)):=m2;clear hB o5 h0 h1 h2 h3 h4 h5 h6 LS TXS LMS TT m2
     go_upto_region 5 with fail
     clear i0 i1 i2 i3 g0 g1 g2 g3;generalize World.setCell _ _ _=w6 at*;generalize a5=b5 at*;generalize n5=k5 at*;generalize m5=X7 at*;refine bc 7 (Zt W rb q ak nk ck b5 k5 X7 (k0::out.map (·.2)) (o2.map (·.1)) s1 s2 e1 e2 vv (k0::o2.map (·.2))) (by kernel_rfl) (by kernel_rfl) (by kernel_rfl) (fun _ k=>k rfl ST.out ar ar ar ar ar ar ar) ?_ ?_ ?_
     ·intro i w' hne f0 f1 f2 f3 f4 f5 f6 f7 x27 x28 x29 x30 x31 x32 Jq e7 hB h0 h1 h2 h3 h4 h5 h6 hi;obtain⟨hlt,hun,_⟩:=aP hi;have hlt':i<8:=hlt;clear hlt;rcases(by omega:i=0∨i=1∨i=2∨i=3∨i=4∨i=5∨i=6)with rfl|rfl|rfl|rfl|rfl|rfl|rfl
      refine ai rfl fun K HK=>?_;go_simp
      rotate_left
      cases h0 (ah 0 hi (by kernel_rfl));obtain⟨i0,i1,i2,i3⟩:=hB.k.four;refine ai rfl fun K HK=>?_;go_simp
      rotate_left
      refine ai rfl fun K HK=>?_;go_simp
      rotate_left
      ·have un:f3=false:=hun;cases h2 (ah 2 hi (by kernel_rfl));refine ai rfl fun K HK=>?_;go_simp;refine Calls.mono (by
         have hr:=hB.r
         rw[un]at hr
         have hh:=js rb s1 e1 4 w' hr
         rw[TX.out]at hh
         exact hh) ?_
       rintro e w1 ⟨rfl,r1,o1⟩;exact HK.out _ _ fun _ k=>k e7 (hB.read r1 o1 un) h0 h1 h2 hidR (fun d t=>by have e:=(h4.out d t).1;rw[un]at e;cases e) (fun d=>by have e:=(h5.out d).1;rw[un]at e;cases e) h6
      ·have d3:f3=true:=ah 3 hi (by kernel_rfl);cases h3 d3;refine ai rfl fun K HK=>?_;go_simp;exact HK.out _ _ fun _ k=>k e7 (hB.lay _) h0 h1 h2 h3 (fun _ _=>⟨d3,_,rfl,Cl.new _ _ _⟩) (fun d=>let⟨n0,ao,n,c,e,o⟩:=h5.out d;⟨n0,ao,n,c,e,ownsRow_below o (aq _ (Below.refl _ _))⟩) h6
      ·have un:f5=false:=hun;have d3:f3=true:=ah 3 hi (by kernel_rfl);cases h3 d3;cases h1 (ah 1 hi (by kernel_rfl));have d4:f4=true:=ah 4 hi (by kernel_rfl);obtain⟨_,q4,y4,c4⟩:=h4.out d4 un;subst y4;refine ai rfl fun K HK=>?_;refine Zq _ _ rfl (rb+1) _ _ rfl (hB.o un) q4 _ _ rfl c4 LL.out hB.z _ LM.out ?_;intro ao nn cc w1 P1 Q1 T1 D1;go_simp;exact HK.out _ _ fun _ k=>k e7 (hB.grow Q1 T1 D1) h0 h1 h2 h3 (fun _ t=>by cases t) (fun _=>⟨d3,ao,nn,cc,rfl,P1⟩) h6
      refine ai rfl fun K HK=>?_;go_simp
      rotate_left
      all_goals exact HK.out _ _ fun _ k=>by apply k<;>first|assumption|exact hidR|(repeat' first|apply Exists.intro|assumption|rfl|apply And.intro|exact fun _=>rfl)
     ·intro w' f0 f1 f2 f3 f4 f5 f6 f7 x27 x28 x29 x30 x31 x32 Jq e7 hB h0 h1 h2 h3 h4 h5 h6 hi;have d5:f5=true:=ah 5 hi (by kernel_rfl);obtain⟨u3,a5,n5,m5,rfl,o5⟩:=h5.out d5;have d6:f6=true:=ah 6 hi (by kernel_rfl);cases h6 d6;clear hi;obtain⟨i0,i1,i2,i3⟩:=hB.k.four;obtain⟨g0,g1,g2,g3⟩:=hB.k.thaw;refine ai rfl fun K HK=>?_;go_simp;refine HK.out _ _ ?_;have Zu:=u3;subst Zu;have KQ9:Aside (Cl (w'.setCell ⟨q,2,none⟩ (.slice a5 n5 m5)) q #[.bool false,.slice none 0 0,.slice a5 n5 m5,.slice b5 k5 X7] 170):=hB.k.set 2 _;have R9:Hid (Rd rb s2 e2 (w'.setCell ⟨q,2,none⟩ (.slice a5 n5 m5))):=hB.r.of (Ed hB.r.cl hB.ne _);have S9:Aside (cI (rb+1) (w'.setCell ⟨q,2,none⟩ (.slice a5 n5 m5)) (.slice b5 k5 X7) (o2.map (·.1))):=Ec hB.other hB.k (by decide);have I9:Aside (dB (rb+1) (w'.setCell ⟨q,2,none⟩ (.slice a5 n5 m5)) (.slice a5 n5 m5) (k0::o2.map (·.2))):=Ec o5 hB.k (by decide);have B9:Hid (Below rb W (w'.setCell ⟨q,2,none⟩ (.slice a5 n5 m5))):=hB.b.setCell (p:=⟨q,2,none⟩) (show rb<=q by omega) _;clear hB o5 h0 h1 h2 h3 h4 h5 h6 i0 i1 i2 i3 g0 g1 g2 g3;generalize World.setCell _ _ _=w9 at*;go_wp2
      go_roundg s2.size
      case measure=>omega
      case rel=>exact⟨a5,n5,m5,b5,k5,X7,o2,s2,e2,by omega,by omega,HZ2,R9,HD2,KQ9,I9,S9,B9⟩
     ·intro _ _;intros;assumption
    ·intro _ _;intros;assumption
  ·have CN:Hid _:=mN rb s e wr HR.out;have en:eI s e=e:=by simp[eI,he]
   rw[en]at CN;obtain⟨r1,r2⟩:=ja (HD.out.bad he hS);have R1:Hid _:=r1;have R2:Hid _:=r2;have e1:(e==0)=false:=beq_eq_false_iff_ne.2 he;have e2:(e != 0)=true:=by rw[bne_iff_ne];exact he
   have k5:=Wt K1 HB.out (by omega);obtain⟨f0,f1,f2,f3⟩:=k5.four;obtain⟨g0,g1,g2,g3⟩:=k5.thaw;have KX:Cl ((((wr.setCell ⟨p,0,none⟩ (.bool false)).setCell ⟨p,1,none⟩ (.slice none 0 0)).setCell ⟨p,2,none⟩ (.slice none 0 0)).setCell ⟨p,3,none⟩ (.slice none 0 0)) p #[.bool false,.slice none 0 0,.slice none 0 0,.slice none 0 0] 170:=k5.fk _ _ _ _;have BX:Hid (Below p w ((((wr.setCell ⟨p,0,none⟩ (.bool false)).setCell ⟨p,1,none⟩ (.slice none 0 0)).setCell ⟨p,2,none⟩ (.slice none 0 0)).setCell ⟨p,3,none⟩ (.slice none 0 0))):=dg (BW.trans (HB.out.mono (by omega))) (Nat.le_refl _);clear r1 r2 en HD he K1 k5 BW HI HO HQ HZ
   go_wp2_with (first| (go_at_call 144;refine Calls.mono CE.out ?_;rintro e w' ⟨rfl,rfl⟩)| (go_at_call 116;refine Calls.mono CN.out ?_;rintro e w' ⟨rfl,rfl⟩))
   (try simp only[Exit.inBlock,Exit.then])
   clear f0 f1 f2 f3 g0 g1 g2 g3;generalize World.setCell _ _ _=X at*;obtain⟨k0,k1,k2,k3⟩:=KX.four;refine bodyPost_ret (v:=.tuple #[.agg #[.bool false,.slice none 0 0,.slice none 0 0,.slice none 0 0],.int .i64 3]) ?_ rfl ⟨_,_,_,by rw[R1.out,R2.out];rfl,by rw[R1.out];exact mG.zero _ _,by rw[HP.out];exact BX.out⟩;rw[aL rfl];go_simp
end
section
theorem Ee:(∀(kind:Int) (S:ByteArray) (w:World) (hS0:S.size<=maxLen) (hS:240<S.size),Calls Tryz.prog 135 #[.int .u8 kind,.string S] w (Qu w kind S.data.toList))∧
  (∀(kind:Int) (S:ByteArray) (w:World) (hS0:S.size<=maxLen) (hS:S.size<=240) (h1:kind≠1) (h2:kind≠2),Calls Tryz.prog 135 #[.int .u8 kind,.string S] w (Qu w kind S.data.toList)):=by
 and_intros
 have jq:=trivial
 rotate_left
 have fC:=trivial
 rotate_left
 all_goals
  first
   |have zz:=fC
    intro kind S w hS0 hS h1 h2
   |intro kind S w hS0 hS
  unfold maxLen at hS0;have BW:Below w.heap.size w (w.alloc (.cells #[.bool false,.slice none 0 0,.slice none 0 0,.slice none 0 0] 170)):=aq _ (Below.refl _ _);have K1:Cl (w.alloc (.cells #[.bool false,.slice none 0 0,.slice none 0 0,.slice none 0 0] 170)) w.heap.size #[.bool false,.slice none 0 0,.slice none 0 0,.slice none 0 0] 170:=Cl.lY _ _ _;have sz:w.heap.size< (w.alloc (.cells #[.bool false,.slice none 0 0,.slice none 0 0,.slice none 0 0] 170)).heap.size:=by simp
  go_enter Tryz.func135,Tryz.ntmps135
  go_upto_region 1 with fail
  generalize World.alloc _ _=W at*;obtain⟨p,hp⟩:∃p,w.heap.size=p:=⟨_,rfl⟩;have HP:Hid (w.heap.size=p):=hp;rw[hp]at K1 BW sz⊢;clear hp
  first
   |have zz:=jq
    obtain⟨r1,r2⟩:=ja (JM (k:=kind) (s:=S.data.toList) (by rw[<-Lib.size_eq];exact hS))
   |obtain⟨r1,r2⟩:=ja (F8 (s:=S.data.toList) h1 h2)
  have R1:Hid _:=r1;have R2:Hid _:=r2;clear r1 r2
  first
   |have zz:=fC
    have hSz:¬(240:Int)< (S.size:Int):=by omega
    have e1:(kind==1)=false:=beq_eq_false_iff_ne.2 h1;have e2:(kind==2)=false:=beq_eq_false_iff_ne.2 h2
   |have hSz:(240:Int)< (S.size:Int):=by omega
  obtain⟨c0,c1,c2,c3⟩:=K1.four;obtain⟨g0,g1,g2,g3⟩:=K1.thaw;have KX:Cl ((((W.setCell ⟨p,0,none⟩ (.bool false)).setCell ⟨p,1,none⟩ (.slice none 0 0)).setCell ⟨p,2,none⟩ (.slice none 0 0)).setCell ⟨p,3,none⟩ (.slice none 0 0)) p #[.bool false,.slice none 0 0,.slice none 0 0,.slice none 0 0] 170:=K1.fk _ _ _ _;have BX:Hid (Below p w ((((W.setCell ⟨p,0,none⟩ (.bool false)).setCell ⟨p,1,none⟩ (.slice none 0 0)).setCell ⟨p,2,none⟩ (.slice none 0 0)).setCell ⟨p,3,none⟩ (.slice none 0 0))):=dg BW (Nat.le_refl _);clear K1 BW;go_wp2
  (try simp only[Exit.inBlock,Exit.then])
  clear c0 c1 c2 c3 g0 g1 g2 g3;generalize World.setCell _ _ _=X at*;obtain⟨k0,k1,k2,k3⟩:=KX.four;refine bodyPost_ret (v:=.tuple #[.agg #[.bool false,.slice none 0 0,.slice none 0 0,.slice none 0 0],.int .i64 3]) ?_ rfl ⟨_,_,_,by rw[R1.out,R2.out];rfl,by rw[R1.out];exact mG.zero _ _,by rw[HP.out];exact BX.out⟩;rw[aL rfl];go_simp
theorem Ef:(∀(kind:Int) (S:ByteArray) (w:World) (hS0:S.size<=maxLen) (hk:kind=1) (hS:S.size<=240),Calls Tryz.prog 135 #[.int .u8 kind,.string S] w (Qu w kind S.data.toList))∧
  (∀(kind:Int) (S:ByteArray) (w:World) (hS0:S.size<=maxLen) (hk:kind=2) (hS:S.size<=240),Calls Tryz.prog 135 #[.int .u8 kind,.string S] w (Qu w kind S.data.toList)):=by
 and_intros
 have jq:=trivial
 rotate_left
 have fC:=trivial
 rotate_left
 all_goals
  intro kind S w hS0 hk hS;unfold maxLen at hS0;have BW:Below w.heap.size w (w.alloc (.cells #[.bool false,.slice none 0 0,.slice none 0 0,.slice none 0 0] 170)):=aq _ (Below.refl _ _);have K1:Cl (w.alloc (.cells #[.bool false,.slice none 0 0,.slice none 0 0,.slice none 0 0] 170)) w.heap.size #[.bool false,.slice none 0 0,.slice none 0 0,.slice none 0 0] 170:=Cl.lY _ _ _;have sz:w.heap.size< (w.alloc (.cells #[.bool false,.slice none 0 0,.slice none 0 0,.slice none 0 0] 170)).heap.size:=by simp
  subst hk
  first
   |have zz:=fC
    have C:Hid _:=Ad S (w.alloc (.cells #[.bool false,.slice none 0 0,.slice none 0 0,.slice none 0 0] 170)) hS
   |have C:Hid _:=Cc S (w.alloc (.cells #[.bool false,.slice none 0 0,.slice none 0 0,.slice none 0 0] 170)) hS
  go_enter Tryz.func135,Tryz.ntmps135
  go_upto_region 1 with fail
  generalize World.alloc _ _=W at*;have hSz:¬(240:Int)< (S.size:Int):=by omega
  obtain⟨p,hp⟩:∃p,w.heap.size=p:=⟨_,rfl⟩;have HP:Hid (w.heap.size=p):=hp;rw[hp]at K1 BW sz⊢;clear hp
  go_wp2_with fail
  refine Calls.mono C.out ?_;rintro e w1 ⟨ve,vk,vs,rfl,o1,b1⟩;clear C
  first
   |have zz:=jq
    obtain⟨dn,hdn⟩:∃x,uD 1 S.data.toList=x:=⟨_,rfl⟩
   |obtain⟨dn,hdn⟩:∃x,uD 2 S.data.toList=x:=⟨_,rfl⟩
  have HD:Hid _:=hdn;rw[hdn]at o1;simp only[hdn];clear hdn
  first
   |have zz:=jq
    obtain⟨er,her⟩:∃x,lr (vA 1 S.data.toList)=x:=⟨_,rfl⟩;have ER:Hid (lr (vA 1 S.data.toList)=er):=her
   |obtain⟨er,her⟩:∃x,lr (vA 2 S.data.toList)=x:=⟨_,rfl⟩
    have ER:Hid (lr (vA 2 S.data.toList)=er):=her
  simp only[her];clear her;obtain⟨ae,ce,rfl,_⟩:=aG o1.r.e;obtain⟨ak,ck,rfl,_⟩:=aG o1.r.k;obtain⟨az,cz,rfl,_⟩:=aG o1.r.s;have K2:=K1.on b1;obtain⟨c0,c1,c2,c3⟩:=K2.four;obtain⟨g0,g1,g2,g3⟩:=K2.thaw;have KX:Cl ((((w1.setCell ⟨p,0,none⟩ (.bool dn.leaf)).setCell ⟨p,1,none⟩ (.slice ae dn.es.length ce)).setCell ⟨p,2,none⟩ (.slice ak dn.ks.length ck)).setCell ⟨p,3,none⟩ (.slice az dn.ss.length cz)) p #[.bool dn.leaf,.slice ae dn.es.length ce,.slice ak dn.ks.length ck,.slice az dn.ss.length cz] 170:=K2.fk _ _ _ _;have BX:Hid (Below p w ((((w1.setCell ⟨p,0,none⟩ (.bool dn.leaf)).setCell ⟨p,1,none⟩ (.slice ae dn.es.length ce)).setCell ⟨p,2,none⟩ (.slice ak dn.ks.length ck)).setCell ⟨p,3,none⟩ (.slice az dn.ss.length cz))):=dg (BW.trans (b1.mono (by omega))) (Nat.le_refl _);have OX:Hid (mG p ((((w1.setCell ⟨p,0,none⟩ (.bool dn.leaf)).setCell ⟨p,1,none⟩ (.slice ae dn.es.length ce)).setCell ⟨p,2,none⟩ (.slice ak dn.ks.length ck)).setCell ⟨p,3,none⟩ (.slice az dn.ss.length cz)) (.slice ae dn.es.length ce) (.slice ak dn.ks.length ck) (.slice az dn.ss.length cz) dn):=(mG.fk o1 sz).mono (by omega);clear K1 K2 BW o1 b1;go_wp2
  (try simp only[Exit.inBlock,Exit.then])
  clear c0 c1 c2 c3 g0 g1 g2 g3;generalize World.setCell _ _ _=X at*;obtain⟨k0,k1,k2,k3⟩:=KX.four;refine bodyPost_ret (v:=.tuple #[.agg #[.bool dn.leaf,.slice ae dn.es.length ce,.slice ak dn.ks.length ck,.slice az dn.ss.length cz],.int .i64 er]) ?_ rfl ⟨_,_,_,by rw[HD.out,ER.out],by rw[HD.out,HP.out];exact OX.out,by rw[HP.out];exact BX.out⟩;rw[aL rfl];go_simp
theorem kt (kind:Int)(S:ByteArray)(w:World)(hS:S.size<=maxLen):Calls Tryz.prog 135 #[.int .u8 kind,.string S] w (Qu w kind S.data.toList):=by
 by_cases h:240<S.size
 ·exact Ee.1 kind S w hS h
 ·by_cases h1:kind=1
  ·exact Ef.1 kind S w hS h1 (by omega)
  ·by_cases h2:kind=2
   ·exact Ef.2 kind S w hS h2 (by omega)
   ·exact Ee.2 kind S w hS (by omega) h1 h2
end
section
theorem kY (l:List En):2*l.length<=cY l:=by
 induction l with
 |nil=>simp
 |cons x l ih=>
  have:cY (x::l)=lG x+cY l:=rfl;rw[this];unfold lG;simp only[List.length_cons];omega
theorem kZ (l:List ByteArray):5*l.length<=bV l:=by
 induction l with
 |nil=>simp
 |cons x l ih=>
  have:bV (x::l)=5+x.size+bV l:=rfl;rw[this];simp only[List.length_cons];omega
theorem Eg {n:Nd}(h:dF n=true)(hs:dZ n<=240):Sm n:=by
 have a:=kY n.es;have b:=kZ n.ss;unfold dZ at hs;cases hl:n.leaf
 ·rw[hl,if_neg (by simp)]at hs;obtain⟨h1,_,h3,_⟩:=(fK hl).1 h;exact⟨by rw[h1];simp,by omega,by omega,by rw[h1];simp[cY],by omega⟩
 ·rw[hl,if_pos rfl]at hs;obtain⟨h1,h2,_⟩:=(fX hl).1 h;exact⟨by omega,by rw[h1];simp,by rw[h2];simp,by omega,by rw[h2];simp[bV]⟩
theorem Wu {n:Nd}(h:dF n=true)(hs:dZ n<=240):uD (ov n) (kX n).data.toList=n∧vA (ov n) (kX n).data.toList=true∧(kX n).size=dZ n∧(kX n).size<=240:=by
 obtain⟨a,b,_⟩:=JI h hs;have e:(kX n).data.toList=yw n:=by rw[b]
 have z:(kX n).size=dZ n:=by rw[Lib.size_eq,e,iq h]
 rw[a,e];obtain⟨c,d⟩:=nL (zB h hs);exact⟨c,d,z,by rw[z];exact hs⟩
end
end N
end Go.Proofs.YtcenfooehjcddaaGreatDoor
namespace Go.Proofs.YtcenfooehjcddaaGreatDoor
section
open Go.RowKit N
def bX (x:TX)(d:Dk)(id:Int)(kind:UInt8):ByteArray×Int:=(x.get d id kind).1
def uS (kind:Int)(s:ByteArray):Nd×Int:=(uD kind s.data.toList,lr (vA kind s.data.toList))
def lf0:Nd:=⟨true,[],[],[]⟩
def dX (x:TX)(d:Dk)(id depth:Int):Nd×Int:=
 if id=0 then(lf0,0)else if 24<=depth then(nd0,3)
 else if(bX x d id 1).2=3 then(if(bX x d id 2).2=0 then uS 2 (bX x d id 2).1 else(nd0,(bX x d id 2).2))
 else if(bX x d id 1).2=0 then uS 1 (bX x d id 1).1 else(nd0,(bX x d id 1).2)
structure Dr where
 x:TX
 nodes:Int->Option Nd
 cnt:Nat
 taken:List Int
 spare:List Int
 bot:Int
def cB (n:Nd):Bool:=decide (n.es.length<=500)&&decide (n.ks.length<=500)&&decide (n.ss.length<=500)&&decide (cY n.es<=100000)&&decide (bV n.ss<=100000)&&n.ks.all fun k=>decide (0<=k∧k<=4294967295)
def Dr.may (S:Dr)(id:Int):Bool:=(S.x.fresh id).isSome&& !S.spare.contains id
def Dr.drop (S:Dr)(id:Int):Dr:=if S.may id=true then⟨S.x,fun q=>if q=id then none else S.nodes q,S.cnt,S.taken,S.spare++[id],S.bot⟩else S
def Dr.set (S:Dr)(id:Int)(n:Nd):Dr:=⟨S.x,fun q=>if q=id then some n else S.nodes q,S.cnt+1,S.taken,S.spare,S.bot⟩
def Dr.took (S:Dr)(room:Nat):Dr:=⟨(S.x.alloc room).2,S.nodes,S.cnt,S.taken++[(S.x.alloc room).1.1],S.spare,S.bot⟩
def Dr.held (S:Dr)(room:Nat):Dr:=⟨(S.x.alloc room).2,S.nodes,S.cnt,S.taken,S.spare,S.bot⟩
def Dr.okB (S:Dr):Bool:=decide (S.cnt<100000)&&decide (S.x.cnt<900000)&&decide (S.taken.length<100000)&&decide (S.spare.length<100000)
def Dr.put (S:Dr)(room:Nat)(id:Int)(n:Nd):Option ((Int×Int)×Dr):=
 if(S.okB&&cF n)=false then none
 else if S.may id=true then some ((id,0),S.set id n)
 else if(S.x.alloc room).1.2=0 then some (((S.x.alloc room).1.1,0),(S.took room).set (S.x.alloc room).1.1 n)
 else some ((0,(S.x.alloc room).1.2),S.held room)
def Dr.fY (S:Dr)(room:Nat)(a b:Int)(n:Nd):Option ((Int×Int)×Dr):=
 if S.okB=false then none else if S.may a=true then(S.drop b).put room a n else(S.drop a).put room b n
def Dr.read (S:Dr)(d:Dk)(id depth:Int):Nd×Int:=if(S.nodes id).isSome=true∧depth<24 then((S.nodes id).getD nd0,0)else dX S.x d id depth
abbrev NE:=Option ((Nd×Int)×Dr)
abbrev NBE:=Option ((Nd×Bool×Int)×Dr)
abbrev qV:=Dr->Nd->Int->Int->Int->NE
def gq (rec:qV)(room:Nat)(d:Dk)(S:Dr)(n:Nd)(depth i first:Int):NBE:=
 if first<0 then some ((n,false,0),S)
 else if(S.read d (n.ks.getD i.toNat 0) (depth+1)).2≠0 then some ((n,false,(S.read d (n.ks.getD i.toNat 0) (depth+1)).2),S)
 else if 80<=dZ (S.read d (n.ks.getD i.toNat 0) (depth+1)).1 then some ((n,false,0),S)
 else if(S.read d (n.ks.getD first.toNat 0) (depth+1)).2≠0 then some ((n,false,(S.read d (n.ks.getD first.toNat 0) (depth+1)).2),S)
 else if(S.read d (n.ks.getD (first.toNat+1) 0) (depth+1)).2≠0 then some ((n,false,(S.read d (n.ks.getD (first.toNat+1) 0) (depth+1)).2),S)
 else if n.ss.length<=first.toNat then none
 else if(S.read d (n.ks.getD first.toNat 0) (depth+1)).1.leaf≠(S.read d (n.ks.getD (first.toNat+1) 0) (depth+1)).1.leaf∨cF (jo (S.read d (n.ks.getD first.toNat 0) (depth+1)).1 (n.ss.getD first.toNat ⟨#[]⟩) (S.read d (n.ks.getD (first.toNat+1) 0) (depth+1)).1)=false then some ((n,false,0),S)
 else match rec S (jo (S.read d (n.ks.getD first.toNat 0) (depth+1)).1 (n.ss.getD first.toNat ⟨#[]⟩) (S.read d (n.ks.getD (first.toNat+1) 0) (depth+1)).1) (depth+1) (((S.read d (n.ks.getD first.toNat 0) (depth+1)).1.ks.length:Int)-1) (((S.read d (n.ks.getD first.toNat 0) (depth+1)).1.ks.length:Int)+1)with
  |none=>none
  |some ((m,e),S1)=>if e≠0 then some ((n,false,e),S1)else match S1.fY room (n.ks.getD first.toNat 0) (n.ks.getD (first.toNat+1) 0) m with
   |none=>none
   |some ((p,e2),S2)=>some ((gG n first (first+2) [p] [],true,e2),S2)
def bf (room:Nat)(d:Dk):Nat->qV
 |0,_,_,_,_,_=>none
 |f+1,S,n,depth,i,tt=>
  if cB n=false∨i<0 then none
  else if i<min tt (n.ks.length:Int)then
   match gq (fun S n depth i tt=>bf room d f S n depth (max i 0) tt) room d S n depth i (min i ((n.ks.length:Int)-2))with
   |none=>none
   |some ((m,j,e),S1)=>if e≠0 then some ((nd0,e),S1)else if j=true then bf room d f S1 m depth (min i ((n.ks.length:Int)-2)) tt else bf room d f S1 n depth (i+1) tt
  else some ((n,0),S)
def bn (room:Nat)(d:Dk)(f:Nat):qV:=fun S n depth i tt=>bf room d f S n depth (max i 0) tt
def bY (st:qV)(S:Dr)(n:Nd)(depth:Int):Option ((List Nd×List ByteArray×Int)×Dr):=
 if n.es=[]∧n.ks=[]then some (([],[],0),S)
 else if cB n=false then none
 else if dF n=false then some (([],[],3),S)
 else if cF n=true then some (([n],[],0),S)
 else match st S (sA n) depth (((sA n).ks.length:Int)-1) ((sA n).ks.length:Int)with
  |none=>none
  |some ((a,e),S1)=>if e≠0 then some (([],[],e),S1)else if(cF a&&cF (sB n))=true then some (([a,sB n],[sM n],0),S1)else none
def eQ (room:Nat):Dr->Int->List Nd->List Int->Option ((List Int×Int)×Dr)
 |S,_,[],ks=>some ((ks,0),S)
 |S,page,n::l,ks=>match S.put room page n with
  |none=>none
  |some ((k,e),S1)=>if e≠0 then some (([],e),S1)else eQ room S1 0 l (ks++[k])
def ei (st:qV)(room:Nat)(S:Dr)(n:Nd)(i depth:Int)(was is:Nd):NE:=
 if(S.okB&&cB n&&cB was)=false∨i<0∨(n.ks.length:Int)<=i then none
 else match bY st S is (depth+1)with
 |none=>none
 |some ((parts,keys,e),S1)=>if e≠0 then some ((nd0,e),S1)else
  match eQ room (if parts=[]then S1.drop (n.ks.getD i.toNat 0)else S1) (n.ks.getD i.toNat 0) parts []with
  |none=>none
  |some ((kids,e2),S2)=>if e2≠0 then some ((nd0,e2),S2)
   else if parts.length=1∧dZ was<=dZ is then st S2 (gG n i (i+1) kids keys) depth i (i+1)else st S2 (gG n i (i+1) kids keys) depth (i-1) (i+kids.length+1)
def bu (st:qV)(room:Nat)(d:Dk)(key:ByteArray)(ed:List En->List En):Nat->Dr->Nd->Int->NBE
 |0,_,_,_=>none
 |f+1,S,n,depth=>
  if cB n=false then none
  else if n.leaf=true then some ((⟨true,ed n.es,[],[]⟩,!decide (ed n.es=n.es),0),⟨S.x,S.nodes,S.cnt,S.taken,S.spare,depth⟩)
  else if n.ks.length<=dD n.ss key then none
  else if(S.read d (n.ks.getD (dD n.ss key) 0) (depth+1)).2≠0 then some ((nd0,false,(S.read d (n.ks.getD (dD n.ss key) 0) (depth+1)).2),S)
  else match bu st room d key ed f S (S.read d (n.ks.getD (dD n.ss key) 0) (depth+1)).1 (depth+1)with
  |none=>none
  |some ((is,ch,e),S1)=>if e≠0∨ch=false then some ((nd0,false,e),S1)else
   match ei st room S1 n (dD n.ss key) depth (S.read d (n.ks.getD (dD n.ss key) 0) (depth+1)).1 is with
   |none=>none
   |some ((m,e2),S2)=>some ((m,true,e2),S2)
def dM (d:Dk):Nat->Dr->Int->Int->Option ((Int×Int)×Dr)
 |0,S,_,_=>some ((0,3),S)
 |f+1,S,id,depth=>
  if S.okB=false then none
  else if(S.read d id depth).2≠0 then some ((0,(S.read d id depth).2),S)
  else if(S.read d id depth).1.ks.length=1 then dM d f (S.drop id) ((S.read d id depth).1.ks.getD 0 0) (depth+1)
  else if 24<=S.bot-depth then some ((0,3),S)
  else some ((id,0),S)
def aJ (x:TX)(l:List Int):TX:=l.foldl (fun x id=>x.drop id) x
def cQ (nodes:Int->Option Nd):TX->List Int->TX
 |x,[]=>x
 |x,id::l=>cQ nodes (x.put id (ov ((nodes id).getD nd0)).toNat.toUInt8 (kX ((nodes id).getD nd0))).2 l
def gi (x:TX):Dr:=⟨x,fun _=>none,0,[],[],0⟩
end
end Go.Proofs.YtcenfooehjcddaaGreatDoor
namespace Go.Proofs.YtcenfooehjcddaaGreatDoor
open Go.Shelf Go.RowKit Go.Lib Go.Sort
section
theorem oL.at {w:World}{ao:Option Addr}{n c:Nat}{ids:List Int}(h:oL w (.slice ao n c) ids){i:Nat}(hi:i<ids.length):∃r o,ao=some ⟨r,o,none⟩∧r<w.heap.size∧w.cell? ⟨r,o+i,none⟩=some (.int .i64 (ids.getD i 0)):=by
 obtain⟨cT,c',e,h1⟩:=h;cases e;obtain⟨r,o,e2,hr,hc⟩:=h1 (by intro e;rw[e]at hi;simp at hi);exact⟨r,o,e2,hr,hc i hi⟩
def jK (w:World)(l:List Pr)(e:Ending)(w':World):Prop:=∃ao n c,e=.returned (.slice ao n c)∧Own ax 2 w.heap.size w' (.slice ao n c) l∧Below w.heap.size w w'
theorem vP {w:World}{l:List Pr}{e:Ending}{w':World}(h:∃v',e=.returned v'∧Own ax 2 w.heap.size w' v' l∧Below w.heap.size w w'):jK w l e w':=by
 obtain⟨v',rfl,ho,hb⟩:=h;obtain⟨ao,c,rfl,_⟩:=id ho;exact⟨ao,_,c,rfl,ho,hb⟩
def gS (v:Value)(s:List Pr):aM:=fun w X=>Own ax 2 0 w v s∧∀k,X k↔s≠[]∧∃o n c,v=.slice (some ⟨k,o,none⟩) n c
theorem ia (v:Value)(s:List Pr):Good (gS v s):=
 ⟨fun w w' X h hk hs=>by
  obtain⟨⟨ao,cap,e,h1,h2,h3⟩,hX⟩:=h
  refine⟨⟨ao,cap,e,h1,h2,fun hne=>?_⟩,hX⟩
  obtain⟨b,off,e2,hb0,hb,hH⟩:=h3 hne
  subst e2 e
  have hb2:=hk b ((hX b).2 ⟨hne,off,_,_,rfl⟩)
  refine⟨b,off,rfl,hb0,Nat.lt_of_lt_of_le hb hs,fun t ht=>⟨(World.cell?_of_block (a:=⟨b,off+t,none⟩) hb2).trans (hH t ht).1,?_⟩⟩
  have:=(hH t ht).2
  simp only[World.frozen?,hb2]at this⊢
  exact this,fun w X h k hk=>by
  obtain⟨hne,o,n,c,e⟩:=(h.2 k).1 hk
  obtain⟨ao,cap,e1,_,_,h3⟩:=h.1
  obtain⟨b,off,e2,_,hb,_⟩:=h3 hne
  rw[e1,e2]at e
  cases e
  exact hb⟩
section
variable {B:Nat}{w0 w w':World}{l:List aM}{v:Value}{s:List Pr}
theorem Sep.free (h:Sep B w0 w (gS v s::l)):Own ax 2 0 w v s:=by
 obtain⟨_,_,Y,⟨_,X,_,ha,_⟩,_⟩:=h;exact ha.1
theorem Sep.Eh (h:Sep B w0 w l)(hb:Below w.heap.size w w')(o:Own ax 2 w.heap.size w' v s):Sep B w0 w' (gS v s::l):=
 h.add hb (ia _ _) (X:=fun k=>s≠[]∧∃o n c,v=.slice (some ⟨k,o,none⟩) n c) ⟨o.mono (Nat.zero_le _),fun _=>Iff.rfl⟩ (fun k hk=>by
  obtain⟨hne,o',n,c,e⟩:=hk
  obtain⟨ao,cap,e1,_,_,h3⟩:=o
  obtain⟨b,off,e2,hb,_⟩:=h3 hne
  rw[e1,e2]at e
  cases e
  exact hb)
theorem xK (r:Pr)(s:List Pr):(flatK ax 2 (r::s).toArray)[0]! =.int .i64 r.1:=by
 rw[get_flatK _ _ _ _ (by simp)];rfl
theorem xL (r:Pr)(s:List Pr):(flatK ax 2 (r::s).toArray)[1]! =.int .i64 r.2:=by
 rw[get_flatK _ _ _ _ (by simp;omega)];rfl
theorem Gc {a a' b:Int}{s:List Pr}{t:Nat}(h0:t≠0)(ht:t< (s.length+1)*2):(flatK ax 2 ((a',b)::s).toArray)[t]! =(flatK ax 2 ((a,b)::s).toArray)[t]! :=by
 by_cases h1:t=1
 ·subst h1;rw[xL,xL]
 ·rw[get_flatK _ _ _ _ (by simpa using ht),get_flatK _ _ _ _ (by simpa using ht)];obtain⟨q,hq⟩:∃q,t/2=q+1:=⟨t/2-1,by omega⟩;have e:(((a',b)::s).toArray)[q+1]! =(((a,b)::s).toArray)[q+1]! :=by
   rw[getElem!_pos _ _ (by simp;omega),getElem!_pos _ _ (by simp;omega)];simp
  rw[hq,e]
theorem row_one {W:World}{q:Nat}{a b:Int}(h:Cl W q #[.int .i64 a,.int .i64 b] 112):Row ax 2 W (.slice (some ⟨q,0,none⟩) 1 1) [(a,b)]:=by
 refine⟨_,1,rfl,Nat.le_refl _,(fun h=>by cases h),fun _=>⟨q,0,rfl,h.lt,fun t ht=>?_⟩⟩
 match t,ht with
 |0,_=>rw[xK];exact h.cell 0
 |1,_=>rw[xL];exact h.cell 1
 |t+2,ht=>simp at ht;omega
theorem Sep.Th {r:Pr}(h:Sep B w0 w (gS v (r::s)::l)):∃g o c,v=.slice (some ⟨g,o,none⟩) (s.length+1) c∧s.length+1<=c∧g<w.heap.size∧w.cell? ⟨g,o,none⟩=some (.int .i64 r.1)∧w.cell? ⟨g,o+1,none⟩=some (.int .i64 r.2)∧w.frozen? ⟨g,o,none⟩=false:=by
 obtain⟨ao,cap,e,h1,h2,h3⟩:=h.free;obtain⟨b,off,e2,_,hb,hH⟩:=h3 (by simp);subst e2 e;have x0:=hH 0 (by simp);have x1:=hH 1 (by simp;omega);rw[xK]at x0;rw[xL]at x1;exact⟨b,off,cap,rfl,by simpa using h1,hb,x0.1,x1.1,x0.2⟩
theorem Sep.Ae {v':Value}{s':List Pr}(h:Sep B w0 w (gS v s::l))(ht:∀X:Nat->Prop,(∀k,X k↔s≠[]∧∃o n c,v=.slice (some ⟨k,o,none⟩) n c)->dw X w w')(o:Own ax 2 0 w' v' s')(hx:∀k,(s'≠[]∧∃o n c,v'=.slice (some ⟨k,o,none⟩) n c)->s≠[]∧∃o n c,v=.slice (some ⟨k,o,none⟩) n c):Sep B w0 w' (gS v' s'::l):=
 h.step (ia _ _) fun X hX=>⟨fun k=>s'≠[]∧∃o n c,v'=.slice (some ⟨k,o,none⟩) n c,⟨o,fun _=>Iff.rfl⟩,ht X hX.2,fun k hk=>.inl ((hX.2 k).2 (hx k hk))⟩
theorem Sep.OC {g o n c:Nat}{a b a':Int}(h:Sep B w0 w (gS (.slice (some ⟨g,o,none⟩) n c) ((a,b)::s)::l)):Sep B w0 (w.setCell ⟨g,o,none⟩ (.int .i64 a')) (gS (.slice (some ⟨g,o,none⟩) n c) ((a',b)::s)::l):=by
 refine h.Ae (fun X hX=>dw.setCell w ((hX g).2 ⟨by simp,o,n,c,rfl⟩) _) ?_ (fun k hk=>⟨by simp,hk.2⟩);obtain⟨ao,cap,e,h1,h2,h3⟩:=h.free;obtain⟨b',off,e2,_,hb,hH⟩:=h3 (by simp);subst e2;cases e;have x0:=hH 0 (by simp);rw[xK]at x0;have hc0:w.cell? ⟨g,o,none⟩=some (.int .i64 a):=x0.1;refine⟨_,c,by simp,by simpa using h1,(fun h=>by cases h),fun _=>⟨g,o,rfl,Nat.zero_le _,by simpa[World.setCell]using hb,fun t ht=>?_⟩⟩;have Zv:=hH t (by simpa using ht);by_cases h0:t=0
 ·subst h0;refine⟨?_,?_⟩
  ·rw[Nat.add_zero,World.cell?_setCell_same _ _ _ hc0,xK];rfl
  ·rw[World.frozen?_setCell];exact Zv.2
 ·refine⟨?_,?_⟩
  ·rw[World.cell?_setCell_other _ _ _ _ (by intro e;injection e with _ e2 _;omega),Zv.1,Gc h0 (by simpa using ht)]
  ·rw[World.frozen?_setCell];exact Zv.2
theorem Sep.JP {g o c:Nat}{r:Pr}(h:Sep B w0 w (gS (.slice (some ⟨g,o,none⟩) (s.length+1) c) (r::s)::l)):Sep B w0 w (gS (.slice (if c=1 then some ⟨g,o,none⟩else some ⟨g,o+2,none⟩) s.length (c-1)) s::l):=by
 obtain⟨ao,cap,e,h1,h2,h3⟩:=h.free;obtain⟨b',off,e2,_,hb,hH⟩:=h3 (by simp);subst e2;cases e;simp only[List.length_cons]at h1;refine h.Ae (fun X _=>dw.refl X w) ⟨_,_,rfl,by omega,(fun h=>by split at h<;>cases h),fun hne=>?_⟩ (fun k hk=>⟨by simp,?_⟩)
 ·have hpos:0<s.length:=List.length_pos_iff.2 hne;refine⟨g,o+2,by rw[if_neg (by omega)],Nat.zero_le _,hb,fun t ht=>?_⟩;have ht2:t<s.length*2:=by simpa using ht
  have x:=hH (t+2) (by simp;omega);rw[show o+2+t=o+(t+2) by omega];refine⟨x.1.trans ?_,x.2⟩;rw[get_flatK _ _ _ _ (by simp;omega),get_flatK _ _ _ _ (by simpa using ht)];have e:((r::s).toArray)[(t+2)/2]! =s.toArray[t/2]! :=by
   rw[show(t+2)/2=t/2+1 by omega,getElem!_pos _ _ (by simp;omega),getElem!_pos _ _ (by simp;omega)];simp
  rw[e,show(t+2)%2=t%2 by omega]
 ·obtain⟨_,o',n',c',e⟩:=hk;split at e
  ·cases e;exact⟨_,_,_,rfl⟩
  ·cases e;exact⟨_,_,_,rfl⟩
theorem Ti:Tryz.prog.underlying 108=some (.slice (Tryz.prog.elem 108)):=by kernel_rfl
theorem Tj (u:World):(sizeOf (Tryz.prog.elem 108)).run Tryz.prog u=.ok 2 u:=by kernel_rfl
theorem JQ (g o n c:Nat)(hc:n+1<=c)(u:World):(Instr.slice 108 (.slice (some ⟨g,o,none⟩) (n+1) c) (some (.int .i64 1)) none none).run Tryz.prog u=.ok (.slice (if c=1 then some ⟨g,o,none⟩else some ⟨g,o+2,none⟩) n (c-1)) u:=by
 have:=run_slice_l u 108 (some ⟨g,o,none⟩) (n+1) c Ti .i64 1 (by omega) (by omega);rw[this,Tj];simp only[Result.andThen,sliced];by_cases h:c=1
 ·subst h;simp
 ·simp[h,Addr.add]
end
theorem Sep.tJ {B:Nat}{w0 w:World}{l:List aM}{q i:Nat}{cs:Array Value}{ty:TypeId}(h:Sep B w0 w (aF q (.cells cs ty (0,0))::l))(u:Value):Sep B w0 (w.setCell ⟨q,i,none⟩ u) (aF q (.cells (cs.setIfInBounds i u) ty (0,0))::l):=by
 refine h.step (aU _ _) fun X hX=>⟨X,⟨?_,hX.2⟩,dw.setCell w ((hX.2 q).2 rfl) u,fun k hk=>.inl hk⟩;exact Cl.set (t:=ty) hX.1 i u
def JR (f:Nat)(v:Value)(p m:Nat):Obj:=.cells #[ptr f,v,.int .i64 (p:Int),.map (some m)] 115 (0,0)
def Tx (t f:Nat)(x:TX):aM:=fun w X=>∃v m,Both (aF t (JR f v x.pages m)) (Both (gS v x.free) (nH m x.fresh x.cnt)) w X
theorem OD (t f:Nat)(x:TX):Good (Tx t f x):=
 ⟨fun w w' X ⟨v,m,h⟩ hk hs=>⟨v,m,(aQ (aU _ _) (aQ (ia _ _) (ir _ _ _))).kept w w' X h hk hs⟩,fun w X ⟨v,m,h⟩=>(aQ (aU _ _) (aQ (ia _ _) (ir _ _ _))).lt w X h⟩
section
variable {B:Nat}{w0 w:World}{l:List aM}{t f:Nat}{x:TX}
theorem Sep.iH (h:Sep B w0 w (Tx t f x::l)):∃v m,Sep B w0 w (aF t (JR f v x.pages m)::gS v x.free::nH m x.fresh x.cnt::l):=by
 obtain⟨hB,hb,Y,⟨_,X,Z,⟨v,m,ha⟩,hl,hd,hy⟩,hY⟩:=h;have g2:=aQ (ia v x.free) (ir m x.fresh x.cnt);have h1:Hp w (Both (aF t (JR f v x.pages m)) (Both (gS v x.free) (nH m x.fresh x.cnt))::l) Y:=⟨aQ (aU _ _) g2,X,Z,ha,hl,hd,hy⟩;have h2:=Hp.part (aU _ _) g2 h1;exact⟨v,m,hB,hb,Y,Hp.under h2 fun _ h3=>Hp.part (ia _ _) (ir _ _ _) h3,hY⟩
theorem Sep.txShut {v:Value}{m:Nat}(h:Sep B w0 w (aF t (JR f v x.pages m)::gS v x.free::nH m x.fresh x.cnt::l)):Sep B w0 w (Tx t f x::l):=by
 obtain⟨hB,hb,Y,h1,hY⟩:=h;have h2:Hp w (Both (aF t (JR f v x.pages m)) (Both (gS v x.free) (nH m x.fresh x.cnt))::l) Y:=Hp.join (Hp.under h1 fun _ h3=>Hp.join h3);obtain⟨_,X,Z,ha,hl,hd,hy⟩:=h2;exact⟨hB,hb,Y,⟨OD _ _ _,X,Z,⟨v,m,ha⟩,hl,hd,hy⟩,hY⟩
theorem Sep.fZ {v:Value}{m p:Nat}(h:Sep B w0 w (aF t (JR f v p m)::l)):t<w.heap.size∧w.cell? ⟨t,0,none⟩=some (ptr f)∧w.cell? ⟨t,1,none⟩=some v∧w.cell? ⟨t,2,none⟩=some (.int .i64 (p:Int))∧w.cell? ⟨t,3,none⟩=some (.map (some m))∧∀i,w.frozen? ⟨t,i,none⟩=false:=by
 have hb:=h.blk;refine⟨(Array.getElem?_eq_some_iff.1 hb).1,?_,?_,?_,?_,fun i=>?_⟩<;>simp[World.cell?,World.frozen?,hb,JR]
end
end
end Go.Proofs.YtcenfooehjcddaaGreatDoor
section
namespace Go.Proofs
open Go.Shelf
def Tryz.Af:Go.Shelf.Ren:=⟨fun|6=>137|15=>163|14=>174|28=>201|29=>202|20=>210|21=>211|22=>212|23=>213|24=>214|25=>215|26=>216|27=>217|46=>233|47=>223|48=>224|49=>234|50=>235|57=>242|n=>n,fun|22=>108|24=>112|25=>223|3=>3|39=>151|0=>0|53=>193|55=>196|4=>4|46=>274|45=>273|50=>144|5=>5|9=>9|66=>297|70=>301|76=>315|77=>316|n=>n,fun|n=>n⟩
theorem Tryz.Ei:Go.Proofs.SlLaysF0.n6 Tryz.prog Tryz.Af:={
 mixed:=by kernel_rfl
 f6:=⟨Tryz.f137.name,by decide,Tryz.func137.trans (congrArg some (by kernel_rfl))⟩
 f14:=⟨Tryz.f174.name,by decide,Tryz.func174.trans (congrArg some (by kernel_rfl))⟩
 f15:=Tryz.func163.trans (congrArg some (by kernel_rfl))
 f20:=⟨Tryz.f210.name,by decide,Tryz.func210.trans (congrArg some (by kernel_rfl))⟩
 f21:=⟨Tryz.f211.name,by decide,Tryz.func211.trans (congrArg some (by kernel_rfl))⟩
 f22:=⟨Tryz.f212.name,by decide,Tryz.func212.trans (congrArg some (by kernel_rfl))⟩
 f23:=⟨Tryz.f213.name,by decide,Tryz.func213.trans (congrArg some (by kernel_rfl))⟩
 f24:=⟨Tryz.f214.name,by decide,Tryz.func214.trans (congrArg some (by kernel_rfl))⟩
 f25:=⟨Tryz.f215.name,by decide,Tryz.func215.trans (congrArg some (by kernel_rfl))⟩
 f26:=⟨Tryz.f216.name,by decide,Tryz.func216.trans (congrArg some (by kernel_rfl))⟩
 f27:=⟨Tryz.f217.name,by decide,Tryz.func217.trans (congrArg some (by kernel_rfl))⟩
 f28:=Tryz.func201.trans (congrArg some (by kernel_rfl))
 f29:=Tryz.func202.trans (congrArg some (by kernel_rfl))
 f46:=⟨Tryz.f233.name,by decide,Tryz.func233.trans (congrArg some (by kernel_rfl))⟩
 f47:=Tryz.func223.trans (congrArg some (by kernel_rfl))
 f48:=Tryz.func224.trans (congrArg some (by kernel_rfl))
 f49:=⟨Tryz.f234.name,by decide,Tryz.func234.trans (congrArg some (by kernel_rfl))⟩
 f50:=⟨Tryz.f235.name,by decide,Tryz.func235.trans (congrArg some (by kernel_rfl))⟩
 f57:=⟨Tryz.f242.name,by decide,Tryz.func242.trans (congrArg some (by kernel_rfl))⟩
 t0:=Tryz.underlying0
 a0:=Tryz.isAgg0
 z0:=Tryz.sizeOf0
 v0:=Tryz.zeroValue0
 t3:=Tryz.underlying3
 a3:=Tryz.isAgg3
 z3:=Tryz.sizeOf3
 v3:=Tryz.zeroValue3
 t4:=Tryz.underlying4
 a4:=Tryz.isAgg4
 z4:=Tryz.sizeOf4
 v4:=Tryz.zeroValue4
 t5:=Tryz.underlying5
 a5:=Tryz.isAgg5
 z5:=Tryz.sizeOf5
 v5:=Tryz.zeroValue5
 t9:=Tryz.underlying9
 a9:=Tryz.isAgg9
 z9:=Tryz.sizeOf9
 v9:=Tryz.zeroValue9
 t22:=Tryz.underlying108
 a22:=Tryz.isAgg108
 z22:=Tryz.sizeOf108
 v22:=Tryz.zeroValue108
 t25:=Tryz.underlying223
 a25:=Tryz.isAgg223
 z25:=Tryz.sizeOf223
 v25:=Tryz.zeroValue223
 t39:=Tryz.underlying151
 a39:=Tryz.isAgg151
 z39:=Tryz.sizeOf151
 v39:=Tryz.zeroValue151
 t45:=Tryz.underlying273
 a45:=Tryz.isAgg273
 z45:=Tryz.sizeOf273
 v45:=Tryz.zeroValue273
 t46:=Tryz.underlying274
 a46:=Tryz.isAgg274
 z46:=Tryz.sizeOf274
 v46:=Tryz.zeroValue274
 t50:=Tryz.underlying144
 a50:=Tryz.isAgg144
 z50:=Tryz.sizeOf144
 v50:=Tryz.zeroValue144
 t53:=Tryz.underlying193
 a53:=Tryz.isAgg193
 z53:=Tryz.sizeOf193
 v53:=Tryz.zeroValue193
 t55:=Tryz.underlying196
 a55:=Tryz.isAgg196
 z55:=Tryz.sizeOf196
 v55:=Tryz.zeroValue196
 t66:=Tryz.underlying297
 a66:=Tryz.isAgg297
 z66:=Tryz.sizeOf297
 v66:=Tryz.zeroValue297
 t70:=Tryz.underlying301
 a70:=Tryz.isAgg301
 z70:=Tryz.sizeOf301
 v70:=Tryz.zeroValue301
 t76:=Tryz.underlying315
 a76:=Tryz.isAgg315
 z76:=Tryz.sizeOf315
 v76:=Tryz.zeroValue315
 t77:=Tryz.underlying316
 a77:=Tryz.isAgg316
 z77:=Tryz.sizeOf316
 v77:=Tryz.zeroValue316}
end Go.Proofs
end
