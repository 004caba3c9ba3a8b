/- Walks of the package cowtree and of what it stands on: lemmas, made short. -/
import Derived.Test.YtdcpfbidcpfboaaGreatDoorR6
import Derived.Test.YtdcpfbidcpfboaaGreatDoorR5
import Derived.OwnWalk
import Derived.Test.YtdcpfbidcpfboaaGreatDoorR4
import Derived.Deep.RegionHeld3
import Derived.Deep.LoopGhost
import Derived.Shelf.SlGeneric
import Derived.Shelf.SlSortCmp.NoneTotal
import Derived.Ground.SlsfProg
import Derived.Test.YtdcpfbidcpfboaaGreatDoorProg
set_option maxHeartbeats 16000000
set_option maxRecDepth 100000
set_option linter.unusedVariables false
set_option linter.unusedSimpArgs false
namespace Go.Proofs.YtdcpfbidcpfboaaGreatDoor
open Go.Shelf Go.RowKit Go.Lib Go.Sort
namespace N
section
theorem Ij (s:ByteArray):(flatK encS 1 [s].toArray).toList=[.string s]:=by
 have:=bM encS 1 fk [] s;rw[List.nil_append]at this;rw[this];simp[flatK,encS]
theorem Ik (s:Int):(flatK encI 1 [s].toArray).toList=[.int .i64 s]:=by
 have:=bM encI 1 iR [] s;rw[List.nil_append]at this;rw[this];simp[flatK,encI]
theorem UR {base:Nat}(w:World)(s:ByteArray)(hb:base<=w.heap.size):cH base (w.alloc (.cells #[.string s] 9)) (.slice (some ⟨w.heap.size,0,none⟩) 1 1) [s]:=by
 refine⟨by simp,.inr ⟨w.heap.size,1,#[.string s],rfl,hb,heap_alloc_new w _,Nat.le_refl _,by decide,rfl,?_⟩⟩;rw[Ij];rfl
theorem UT {base:Nat}(w:World)(s:Int)(hb:base<=w.heap.size):dP base (w.alloc (.cells #[.int .i64 s] 3)) (.slice (some ⟨w.heap.size,0,none⟩) 1 1) [s]:=by
 refine⟨by simp,.inr ⟨w.heap.size,1,#[.int .i64 s],rfl,hb,heap_alloc_new w _,Nat.le_refl _,by decide,rfl,?_⟩⟩;rw[Ik];rfl
def AQ:List Pk->List ByteArray
 |[]=>[]
 |p::l=>⟨(mg p.1).toArray⟩::⟨(b4 p.2).toArray⟩::AQ l
theorem ME (l m:List Pk):AQ (l++m)=AQ l++AQ m:=by
 induction l with
 |nil=>rfl
 |cons x l ih=>simp[AQ,ih]
theorem Il {l:List Pk}{i:Nat}(h:i<l.length):AQ (l.take (i+1))=AQ (l.take i)++[⟨(mg l[i]!.1).toArray⟩,⟨(b4 l[i]!.2).toArray⟩]:=by
 rw[cY h,ME];rfl
theorem CG (k:Int)(l:List Pk):cat (⟨(b4 k).toArray⟩::AQ l)=b4 k++yt l:=by
 have:∀l:List Pk,cat (AQ l)=yt l:=by
  intro l
  induction l with
  |nil=>rfl
  |cons x l ih=>
   unfold cat at ih⊢;simp[AQ,yt,ih]
 have e:cat (⟨(b4 k).toArray⟩::AQ l)=b4 k++cat (AQ l):=by unfold cat;simp
 rw[e,this]
theorem CI {k:Int}(h:qi k=true):gY 4 k=b4 k∧jn 4 k=0:=by
 have:=mR.1 h;have hb:fH 4 k=true:=by
  unfold fH bT;simp only[Bool.and_eq_true,decide_eq_true_eq];refine⟨by decide,by omega,?_⟩;have:((256^(4:Int).toNat:Nat):Int)=4294967296:=by decide
  rw[this];omega
 unfold gY jn;rw[if_pos hb,if_pos hb];exact⟨rfl,rfl⟩
theorem ud (k0:Int)(ps:List Pk)(ve vk vs:Value)(w:World)(h:im w ve vk vs (mS k0 ps))(hs:Sm (mS k0 ps))(hk0:qi k0=true)(hkk:∀p∈ps,qi p.2=true)(QU:Ay (ps.map (·.1))=true):
  Calls Tryz.prog 147 #[.agg #[.bool false,ve,vk,vs]] w fun e w'=>e=.returned (.string ⟨(b4 k0++yt ps).toArray⟩)∧Below w.heap.size w w':=by
 have s3:ps.length<=1000:=by have:=hs.s;simpa[mS]using this
 have s5:bW (ps.map (·.1))<=1000000:=hs.sz;have he:=h.e;have hk:=h.k;have hss:=h.s;simp only[mS]at he hk hss;obtain⟨B,c0,c1,c2,c3,hlt⟩:=wI w false ve vk vs 184;have ZB:=hk.below B;have QJ:=hss.below B;obtain⟨ae,ce,rfl,_⟩:=aF he;obtain⟨ak,ck,rfl,_⟩:=aF hk;obtain⟨az,cz,rfl,_⟩:=aF hss;have HB:Hid _:=B;clear he hk hss B h hs;simp only[List.length_cons,List.length_map,List.length_nil]at c0 c1 c2 c3 hlt HB ZB QJ⊢;obtain⟨pJ,ck1,e1,a1,a2,a3⟩:=ZB;injection e1 with e1 Kn XW;subst e1 XW;obtain⟨nM,nN,e2,b1,b2,b3⟩:=QJ;injection e2 with e2 e2' XZ;subst e2 XZ;have lk:(k0::ps.map (·.2)).length=ps.length+1:=by simp
 have ls:(ps.map (·.1)).length=ps.length:=by simp
 have K3:Aside (k0::ps.map (·.2)≠[]->∃b off,ak=some ⟨b,off,none⟩∧b< (w.alloc (.cells #[.bool false,.slice ae 0 ce,.slice ak (ps.length+1) ck,.slice az ps.length cz] 184)).heap.size∧cG encI 1 (w.alloc (.cells #[.bool false,.slice ae 0 ce,.slice ak (ps.length+1) ck,.slice az ps.length cz] 184)) b off (k0::ps.map (·.2))):=a3;have S3:Aside (ps.map (·.1)≠[]->∃b off,az=some ⟨b,off,none⟩∧b< (w.alloc (.cells #[.bool false,.slice ae 0 ce,.slice ak (ps.length+1) ck,.slice az ps.length cz] 184)).heap.size∧cG encS 1 (w.alloc (.cells #[.bool false,.slice ae 0 ce,.slice ak (ps.length+1) ck,.slice az ps.length cz] 184)) b off (ps.map (·.1))):=b3;have LK:Hid ((k0::ps.map (·.2)).length=ps.length+1):=lk;have LS:Hid ((ps.map (·.1)).length=ps.length):=ls;have HKK:Hid (∀p∈ps,qi p.2=true):=hkk;have HKY:Hid (Ay (ps.map (·.1))=true):=QU;clear a3 b3 lk ls hkk QU Kn e2';obtain⟨t1,t2⟩:=CI hk0;have C0:Hid _:=jo 4 k0 (w.alloc (.cells #[.bool false,.slice ae 0 ce,.slice ak (ps.length+1) ck,.slice az ps.length cz] 184));rw[t1,t2]at C0;obtain⟨fs,hfs⟩:∃x:ByteArray,(⟨(b4 k0).toArray⟩:ByteArray)=x:=⟨_,rfl⟩;rw[hfs]at C0;have ZC:Hid ((⟨(b4 k0).toArray⟩:ByteArray)=fs):=hfs;clear t1 t2 hfs hk0;go_enter Tryz.func147,Tryz.ntmps147
 go_upto_region 1 with fail
 generalize World.alloc _ _=W at*;obtain⟨kb,ko,rfl,hkb,x0⟩:=qj K3.out 0 (by rw[LK.out];omega) (Below.refl _ W);simp only[Nat.add_zero,List.getElem!_cons_zero]at x0;have i0:(0:Int)< (ps.length:Int)+1:=by omega
 go_wp2_with fail
 refine Calls.mono C0.out ?_;rintro e w1 ⟨rfl,bb1⟩;have B1:Hid (Below W.heap.size W w1):=bb1;have d3:w1.cell? ⟨w.heap.size,3,none⟩=some (.slice az ps.length cz):=(bb1.cell (p:=⟨w.heap.size,3,none⟩) hlt).trans c3;clear bb1 C0 x0;have O1:Aside (cH w1.heap.size (w1.alloc (.cells #[.string fs] 9)) (.slice (some ⟨w1.heap.size,0,none⟩) 1 1) [fs]):=UR w1 fs (Nat.le_refl _);have B2:Hid (Below w1.heap.size w1 (w1.alloc (.cells #[.string fs] 9))):=aq _ (Below.refl _ _);have lw1:=B1.out.size;have lw2:w.heap.size<w1.heap.size:=Nat.lt_of_lt_of_le hlt lw1;go_wp2
 go_loopg [5,25] ps.length (fun kx s5 s25 wr=>∃(i:Nat) (dJ:Option Addr) (n' c':Nat) (out:List ByteArray),s5=.slice dJ n' c'∧s25=.int .i64 i∧i<=ps.length∧ps.length-i<=kx∧out.length=2*i+1∧Hid (fs::AQ (ps.take i)=out)∧Aside (cH w1.heap.size wr (.slice dJ n' c') out)∧Hid (Below w1.heap.size w1 wr))
 case atStart=>exact⟨0,_,_,_,[fs],rfl,rfl,Nat.zero_le _,Nat.le_refl _,rfl,rfl,O1,B2⟩
 case round=>
  clear O1 B2;obtain⟨i,dJ,n',c',out,rfl,rfl,hi,hki,hol,HD,HO,TA⟩:=hrel;by_cases hil:i<ps.length
  ·have fP:(i:Int)< (ps.length:Int):=by omega
   have BT:Below W.heap.size W wr:=B1.out.trans (TA.out.mono B1.out.size);obtain⟨sb,so,rfl,hsb,x1⟩:=kG S3.out i (by rw[LS.out];exact hil) BT;obtain⟨_,_,e9,_,y1⟩:=qj K3.out (i+1) (by rw[LK.out];omega) BT;cases e9;have d2:wr.cell? ⟨w.heap.size,2,none⟩=some (.slice (some ⟨kb,ko,none⟩) (ps.length+1) ck):=(BT.cell (p:=⟨w.heap.size,2,none⟩) hlt).trans c2;rw[Cj hil]at x1;have ey:(k0::ps.map (·.2))[i+1]! =ps[i]!.2:=by
    have:(k0::ps.map (·.2))[i+1]! =(ps.map (·.2))[i]! :=by simp
    rw[this,Cj hil]
   rw[ey]at y1;have T:Hid _:=Il hil;have hkx:=HKK.out _ (jS hil);have hsx:=(wA HKY.out (List.mem_map_of_mem (f:=(·.1)) (jS hil))).2;have Wq:Hid (Below W.heap.size W wr):=BT;clear ey BT;generalize ps[i]! =x at*;obtain⟨sx,TC⟩:=x;simp only at x1 y1 hkx hsx T;obtain⟨t1,t2⟩:=Aw (s:=sx) (by omega);obtain⟨t3,t4⟩:=CI hkx;have C1:Hid _:=rv sx wr (by unfold maxLen;omega);rw[t1,t2]at C1;have C2:Hid (∀W',Calls Tryz.prog 77 #[.int .i64 4,.int .i64 TC] W' fun r w'=>r=.returned (.tuple #[.string ⟨(b4 TC).toArray⟩,.int .i64 0])∧Below W'.heap.size W' w'):=fun W'=>by
    have:=jo 4 TC W';rw[t3,t4]at this;exact this
   obtain⟨o2,ho2⟩:∃o2,fs::AQ (ps.take (i+1))=o2:=⟨_,rfl⟩;have T2:Hid (out++[(⟨(mg sx).toArray⟩:ByteArray),⟨(b4 TC).toArray⟩]=o2):=by show _=_;rw[<-ho2,T.out,<-HD.out];simp
   have l2:o2.length=2*(i+1)+1:=by rw[<-T2.out];simp;omega
   have HD2:Hid (fs::AQ (ps.take (i+1))=o2):=ho2;clear T ho2 t1 t2 t3 t4 hkx HD;generalize(⟨(mg sx).toArray⟩:ByteArray)=p1 at*;generalize(⟨(b4 TC).toArray⟩:ByteArray)=p2 at*
   go_wp2_with fail
   refine Calls.mono C1.out ?_;rintro e w3 ⟨rfl,hb3⟩;have B3:Hid (Below w1.heap.size w1 w3):=TA.out.trans (hb3.mono TA.out.size);have O3:Aside (cH w1.heap.size w3 (.slice dJ n' c') out):=HO.out.below hb3;have ZE:Below W.heap.size W w3:=Wq.out.trans (hb3.mono Wq.out.size);have d2':w3.cell? ⟨w.heap.size,2,none⟩=some (.slice (some ⟨kb,ko,none⟩) (ps.length+1) ck):=(ZE.cell (p:=⟨w.heap.size,2,none⟩) hlt).trans c2;have kbl:kb<wr.heap.size:=by have:=Wq.out.size;omega
   have y3:w3.cell? ⟨kb,ko+(i+1),none⟩=some (.int .i64 TC):=(hb3.cell (p:=⟨kb,ko+(i+1),none⟩) kbl).trans y1;clear hb3 C1 HO TA y1 x1 d2 ZE Wq
   go_wp2_with fail
   refine Calls.mono (C2.out _) ?_;rintro e w4 ⟨rfl,hb4⟩;have B4:Hid (Below w1.heap.size w1 w4):=B3.out.trans (hb4.mono B3.out.size);have O4:Aside (cH w1.heap.size w4 (.slice dJ n' c') out):=O3.out.below hb4;clear hb4 C2 O3 B3 y3 d2';have B5:Hid (Below w1.heap.size w1 (w4.alloc (.cells #[.string p1,.string p2] 9))):=B4.out.alloc B4.out.size _;have O5:Aside (cH w1.heap.size (w4.alloc (.cells #[.string p1,.string p2] 9)) (.slice dJ n' c') out):=O4.out.below ((Below.refl _ w4).alloc (Nat.le_refl _) _);have K5:Hid (Cl (w4.alloc (.cells #[.string p1,.string p2] 9)) w4.heap.size #[.string p1,.string p2] 9):=Cl.new _ _ _;have hsz:=B5.out.size;clear O4 B4
   go_wp2_with (at_builtin;refine Cg rfl _ _ rfl w1.heap.size _ out rfl O5.out _ p1 p2 rfl K5.out (by omega) hsz o2 T2.out ?_)
   intro a6 n6 c6 w6 P6 Q6;have O7:Aside (cH w1.heap.size w6 (.slice a6 n6 c6) o2):=P6;have B7:Hid (Below w1.heap.size w1 w6):=Q6 _ B5.out;clear P6 Q6 O5 K5 B5 hsz T2;go_wp2
   go_roundg (ps.length- (i+1))
   case measure=>omega
   case rel=>exact⟨i+1,a6,n6,c6,o2,rfl,by go_num,by omega,Nat.le_refl _,l2,HD2,O7,B7⟩
  ·have fP:¬(i:Int)< (ps.length:Int):=by omega
   obtain rfl:i=ps.length:=by omega
   rw[List.take_length]at HD;have CJ:Hid _:=yq HO.out (by omega) (by rw[<-HD.out,<-ZC.out,CG,List.length_append,fF,su];omega);rw[<-HD.out,<-ZC.out,CG]at CJ;clear HO HD
   go_wp2_with (go_at_call 78;refine Calls.mono CJ.out ?_;rintro e w6 ⟨rfl,hb6⟩)
   go_ret;exact⟨rfl,HB.out.trans ((B1.out.trans ((TA.out.trans (hb6.mono TA.out.size)).mono B1.out.size)).mono HB.out.size)⟩
end
section
def nO (n:Nd):Int:=if cE n=true then xD n else 0
def kK (n:Nd):ByteArray:=if cE n=true then⟨(xC n).toArray⟩else⟨#[]⟩
def uf (n:Nd):Int:=if dx n=true then(if dZ n<=240 then 0 else 50)else 1
theorem UU {n:Nd}(h:dx n=false):nO n=0∧kK n=⟨#[]⟩∧uf n=1:=by
 unfold nO kK uf cE;rw[h];exact⟨rfl,rfl,rfl⟩
theorem MF {n:Nd}(h:dx n=true)(h2:¬dZ n<=240):nO n=0∧kK n=⟨#[]⟩∧uf n=50:=by
 unfold nO kK uf cE;rw[h,decide_eq_false h2,if_neg h2];exact⟨rfl,rfl,rfl⟩
theorem Im {n:Nd}(h:dx n=true)(h2:dZ n<=240):nO n=xD n∧kK n=⟨(xC n).toArray⟩∧uf n=0:=by
 unfold nO kK uf cE;rw[h,decide_eq_true h2,if_pos h2];exact⟨rfl,rfl,rfl⟩
theorem EF (n:Nd)(ve vk vs:Value)(w:World)(h:im w ve vk vs n)(hs:xE n)(hr:dx n=false):
  Calls Tryz.prog 118 #[.agg #[.bool n.leaf,ve,vk,vs]] w fun e w'=>e=.returned (.tuple #[.int .u8 0,.string ⟨#[]⟩,.int .i64 1])∧Below w.heap.size w w':=by
 obtain⟨lf,hlf⟩:∃x,n.leaf=x:=⟨_,rfl⟩;obtain⟨B,c0,c1,c2,c3,hlt⟩:=wI w lf ve vk vs 184;have HR:Aside (im (w.alloc (.cells #[.bool lf,ve,vk,vs] 184)) ve vk vs n):=h.below B;have CR:Hid _:=yH n ve vk vs _ HR.out hs;have HB:Hid _:=B;rw[hlf]at CR⊢;have HL:Hid (n.leaf=lf):=hlf;rw[hr]at CR;clear hr HR;obtain⟨ae,ce,rfl,_⟩:=aF h.e;obtain⟨ak,ck,rfl,_⟩:=aF h.k;obtain⟨az,cz,rfl,_⟩:=aF h.s;clear h B hlf;generalize n.es.length=n1 at*;generalize n.ks.length=n2 at*;generalize n.ss.length=n3 at*;go_enter Tryz.func118,Tryz.ntmps118
 go_upto_region 1 with fail
 generalize World.alloc _ _=W at*
 go_wp2_with fail
 refine Calls.mono CR.out ?_;rintro e w1 ⟨rfl,b1⟩;have B1:Hid (Below W.heap.size W w1):=b1;clear b1 CR;go_wp2
 go_ret3
 exact⟨rfl,HB.out.trans (B1.out.mono HB.out.size)⟩
theorem yR (n:Nd)(ve vk vs:Value)(w:World)(h:im w ve vk vs n)(hs:Sm n)(hr:dx n=true)(h2:¬dZ n<=240):
  Calls Tryz.prog 118 #[.agg #[.bool n.leaf,ve,vk,vs]] w fun e w'=>e=.returned (.tuple #[.int .u8 0,.string ⟨#[]⟩,.int .i64 50])∧Below w.heap.size w w':=by
 obtain⟨lf,hlf⟩:∃x,n.leaf=x:=⟨_,rfl⟩;obtain⟨B,c0,c1,c2,c3,hlt⟩:=wI w lf ve vk vs 184;have HR:Aside (im (w.alloc (.cells #[.bool lf,ve,vk,vs] 184)) ve vk vs n):=h.below B;have CR:Hid _:=eU n ve vk vs _ HR.out hs;have HB:Hid _:=B;rw[hlf]at CR⊢;have HL:Hid (n.leaf=lf):=hlf;obtain⟨z,hz⟩:∃z,dZ n=z:=⟨_,rfl⟩;rw[hz]at h2;have HZ:Hid (dZ n=z):=hz;rw[hr]at CR;clear hz;have hzz:(240:Int)< (z:Int):=by omega
 clear hr h2;obtain⟨ae,ce,rfl,_⟩:=aF h.e;obtain⟨ak,ck,rfl,_⟩:=aF h.k;obtain⟨az,cz,rfl,_⟩:=aF h.s;clear h B hlf;generalize n.es.length=n1 at*;generalize n.ks.length=n2 at*;generalize n.ss.length=n3 at*;go_enter Tryz.func118,Tryz.ntmps118
 go_upto_region 1 with fail
 generalize World.alloc _ _=W at*
 go_wp2_with fail
 refine Calls.mono CR.out ?_;rintro e w1 ⟨rfl,b1⟩;have B1:Hid (Below W.heap.size W w1):=b1;have CZ:Hid _:=kJ n _ _ _ w1 (HR.out.below b1) hs;rw[HL.out,HZ.out]at CZ;have MG:w1.cell? ⟨w.heap.size,0,none⟩=some (.bool lf):=(b1.cell (p:=⟨w.heap.size,0,none⟩) hlt).trans c0;have UW:w1.cell? ⟨w.heap.size,1,none⟩=some (.slice ae n1 ce):=(b1.cell (p:=⟨w.heap.size,1,none⟩) hlt).trans c1;have UX:w1.cell? ⟨w.heap.size,2,none⟩=some (.slice ak n2 ck):=(b1.cell (p:=⟨w.heap.size,2,none⟩) hlt).trans c2;have UY:w1.cell? ⟨w.heap.size,3,none⟩=some (.slice az n3 cz):=(b1.cell (p:=⟨w.heap.size,3,none⟩) hlt).trans c3;have AR:w.heap.size<w1.heap.size:=Nat.lt_of_lt_of_le hlt b1.size;clear b1 CR
 go_wp2_with fail
 refine Calls.mono CZ.out ?_;rintro e w2 ⟨rfl,b2⟩;have B2:Hid (Below W.heap.size W w2):=B1.out.trans (b2.mono B1.out.size);clear b2 CZ;go_wp2
 go_ret3
 exact⟨rfl,HB.out.trans (B2.out.mono HB.out.size)⟩
theorem CM:(∀(n:Nd) (ve vk vs:Value) (w:World) (h:im w ve vk vs n) (hs:Sm n) (hr:dx n=true) (h2:dZ n<=240) (hl:n.leaf=true),Calls Tryz.prog 118 #[.agg #[.bool n.leaf,ve,vk,vs]] w fun e w'=>e=.returned (.tuple #[.int .u8 1,.string ⟨(xC n).toArray⟩,.int .i64 0])∧Below w.heap.size w w')∧
  (∀(n:Nd) (ve vk vs:Value) (w:World) (h:im w ve vk vs n) (hs:Sm n) (hr:dx n=true) (h2:dZ n<=240) (hl:n.leaf=false),Calls Tryz.prog 118 #[.agg #[.bool n.leaf,ve,vk,vs]] w fun e w'=>e=.returned (.tuple #[.int .u8 2,.string ⟨(xC n).toArray⟩,.int .i64 0])∧Below w.heap.size w w'):=by
 and_intros
 have jk:=trivial
 rotate_left
 have fu:=trivial
 rotate_left
 all_goals
  intro n ve vk vs w h hs hr h2 hl
  first
   |have zz:=fu
    obtain⟨B,c0,c1,c2,c3,hlt⟩:=wI w false ve vk vs 184;have HR:Aside (im (w.alloc (.cells #[.bool false,ve,vk,vs] 184)) ve vk vs n):=h.below B
   |obtain⟨B,c0,c1,c2,c3,hlt⟩:=wI w true ve vk vs 184
    have HR:Aside (im (w.alloc (.cells #[.bool true,ve,vk,vs] 184)) ve vk vs n):=h.below B
  have CR:Hid _:=eU n ve vk vs _ HR.out hs;have HB:Hid _:=B;obtain⟨bd,hbd⟩:∃x:ByteArray,(⟨(xC n).toArray⟩:ByteArray)=x:=⟨_,rfl⟩;rw[hbd];rw[hl]at CR⊢
  first
   |have zz:=fu
    have HL:Hid (n.leaf=false):=hl;have IB:Hid (∀ve vk vs W',im W' ve vk vs n->Calls Tryz.prog 147 #[.agg #[.bool false,ve,vk,vs]] W' fun e w'=>e=.returned (.string bd)∧Below W'.heap.size W' w'):=by
     intro ve vk vs W' hW;obtain⟨k0,ps,rfl,a,b,c⟩:=ot hr hl;rw[<-hbd,wC];exact ud k0 ps ve vk vs W' hW hs a b c
   |have HL:Hid (n.leaf=true):=hl
    have EE:Hid (OD n.es=0∧Tr n.es=bd):=by
     obtain⟨_,_,hg⟩:=(fR hl).1 hr;unfold OD Tr;rw[gD hg,<-hbd,mU hl];exact⟨rfl,rfl⟩
  obtain⟨z,hz⟩:∃z,dZ n=z:=⟨_,rfl⟩;rw[hz]at h2;have HZ:Hid (dZ n=z):=hz;rw[hr]at CR;clear hz;have hzz:¬(240:Int)< (z:Int):=by omega
  clear hr h2 hl hbd;obtain⟨ae,ce,rfl,_⟩:=aF h.e;obtain⟨ak,ck,rfl,_⟩:=aF h.k;obtain⟨az,cz,rfl,_⟩:=aF h.s;clear h B;generalize n.es.length=n1 at*;generalize n.ks.length=n2 at*;generalize n.ss.length=n3 at*;go_enter Tryz.func118,Tryz.ntmps118
  go_upto_region 1 with fail
  first
   |have zz:=fu
    generalize World.alloc _ _=W at*
   |generalize World.alloc _ _=W at*
  go_wp2_with fail
  refine Calls.mono CR.out ?_;rintro e w1 ⟨rfl,b1⟩;have B1:Hid (Below W.heap.size W w1):=b1;have CZ:Hid _:=kJ n _ _ _ w1 (HR.out.below b1) hs;rw[HL.out,HZ.out]at CZ
  first
   |have zz:=fu
    have MG:w1.cell? ⟨w.heap.size,0,none⟩=some (.bool false):=(b1.cell (p:=⟨w.heap.size,0,none⟩) hlt).trans c0
   |have MG:w1.cell? ⟨w.heap.size,0,none⟩=some (.bool true):=(b1.cell (p:=⟨w.heap.size,0,none⟩) hlt).trans c0
  have UW:w1.cell? ⟨w.heap.size,1,none⟩=some (.slice ae n1 ce):=(b1.cell (p:=⟨w.heap.size,1,none⟩) hlt).trans c1;have UX:w1.cell? ⟨w.heap.size,2,none⟩=some (.slice ak n2 ck):=(b1.cell (p:=⟨w.heap.size,2,none⟩) hlt).trans c2;have UY:w1.cell? ⟨w.heap.size,3,none⟩=some (.slice az n3 cz):=(b1.cell (p:=⟨w.heap.size,3,none⟩) hlt).trans c3;have AR:w.heap.size<w1.heap.size:=Nat.lt_of_lt_of_le hlt b1.size;clear b1 CR
  go_wp2_with fail
  refine Calls.mono CZ.out ?_;rintro e w2 ⟨rfl,b2⟩;have B2:Hid (Below W.heap.size W w2):=B1.out.trans (b2.mono B1.out.size)
  first
   |have zz:=jk
    have CE:Hid _:=sr _ n.es w2 (HR.out.e.below B2.out) (by have:=hs.e;omega);rw[EE.out.1,EE.out.2]at CE;have X0:w2.cell? ⟨w.heap.size,0,none⟩=some (.bool true):=(b2.cell (p:=⟨w.heap.size,0,none⟩) AR).trans MG
   |have CE:Hid _:=IB.out _ _ _ w2 (HR.out.below B2.out)
    have X0:w2.cell? ⟨w.heap.size,0,none⟩=some (.bool false):=(b2.cell (p:=⟨w.heap.size,0,none⟩) AR).trans MG
  have aad:w2.cell? ⟨w.heap.size,1,none⟩=some (.slice ae n1 ce):=(b2.cell (p:=⟨w.heap.size,1,none⟩) AR).trans UW;have aae:w2.cell? ⟨w.heap.size,2,none⟩=some (.slice ak n2 ck):=(b2.cell (p:=⟨w.heap.size,2,none⟩) AR).trans UX;have aaf:w2.cell? ⟨w.heap.size,3,none⟩=some (.slice az n3 cz):=(b2.cell (p:=⟨w.heap.size,3,none⟩) AR).trans UY;have aag:w.heap.size<w2.heap.size:=Nat.lt_of_lt_of_le AR b2.size
  first
   |have zz:=fu
    clear b2 CZ IB
   |clear b2 CZ
  go_wp2_with fail
  refine Calls.mono CE.out ?_;rintro e w3 ⟨rfl,b3⟩;have B3:Hid (Below W.heap.size W w3):=B2.out.trans (b3.mono B2.out.size);clear b3 CE;go_wp2
  go_ret3
  exact⟨rfl,HB.out.trans (B3.out.mono HB.out.size)⟩
theorem yS (n:Nd)(ve vk vs:Value)(w:World)(h:im w ve vk vs n)(hs:Sm n):
  Calls Tryz.prog 118 #[.agg #[.bool n.leaf,ve,vk,vs]] w fun e w'=>e=.returned (.tuple #[.int .u8 (nO n),.string (kK n),.int .i64 (uf n)])∧Below w.heap.size w w':=by
 cases hr:dx n with
 |false=>
  obtain⟨a,b,c⟩:=UU hr;rw[a,b,c];exact EF n ve vk vs w h hs.l hr
 |true=>
  by_cases h2:dZ n<=240
  ·obtain⟨a,b,c⟩:=Im hr h2;rw[a,b,c];cases hl:n.leaf with
   |true=>
    have ek:xD n=1:=by unfold xD;rw[hl];rfl
    rw[ek,<-hl];exact CM.1 n ve vk vs w h hs hr h2 hl
   |false=>
    have ek:xD n=2:=by unfold xD;rw[hl];rfl
    rw[ek,<-hl];exact CM.2 n ve vk vs w h hs hr h2 hl
  ·obtain⟨a,b,c⟩:=MF hr h2;rw[a,b,c];exact yR n ve vk vs w h hs hr h2
end
section
theorem UZ (s:ByteArray)(h:s.size≠0):(bn (a8 s 0).2.1 (a8 s 0).2.2 4).2.1.size<s.size∧
  (((bn (a8 s 0).2.1 (a8 s 0).2.2 4).2.2=0∧jI s.data.toList=some (((a8 s 0).1,(bn (a8 s 0).2.1 (a8 s 0).2.2 4).1),(bn (a8 s 0).2.1 (a8 s 0).2.2 4).2.1.data.toList))∨
   ((bn (a8 s 0).2.1 (a8 s 0).2.2 4).2.2≠0∧jI s.data.toList=none)):=by
 refine⟨Nat.lt_of_le_of_lt (jB _ _ _) (oZ s h),?_⟩;by_cases c:(bn (a8 s 0).2.1 (a8 s 0).2.2 4).2.2=0
 ·left;refine⟨c,?_⟩;obtain⟨e1,_,b,r,hs2,hd,hr2⟩:=iK _ _ _ c;obtain⟨_,c1,a,q,hs1,hc,hr1⟩:=lF s 0 e1;rw[hr2,hr1];rw[hr1]at hs2;have hq:q=b++r:=by
    have:=congrArg (fun x:ByteArray=>x.data.toList) hs2;simpa using this
  rw[hs1,hq];simp only;exact Co c1 a b r hc (by omega)
 ·right;refine⟨c,?_⟩;cases hs:s.data.toList with
  |nil=>rfl
  |cons c0 t=>
    simp only[jI];by_cases h1:t.length<c0.toNat+4
    ·rw[if_pos h1]
    ·exfalso;apply c;have l1:c0.toNat=(t.take c0.toNat).length:=by simp;omega
     have e1:s=⟨(c0::(t.take c0.toNat++t.drop c0.toNat)).toArray⟩:=by
      apply iz;rw[hs];simp
     have r1:=lD c0 (t.take c0.toNat) (t.drop c0.toNat) l1;rw[<-e1]at r1;rw[r1];have r2:=ei ((t.drop c0.toNat).take 4) ((t.drop c0.toNat).drop 4) 4 (by simp;omega) (by decide);rw[List.take_append_drop]at r2;rw[r2]
def Io (S s:ByteArray)(k0 e:Int)(out:List Pk):Prop:=(e=0∧Cs S.data.toList=(Et s.data.toList).map (fun l=>mS k0 (out++l)))∨(e≠0∧Cs S.data.toList=none)
theorem Ip {l r:List UInt8}(h:l.length=4):Cs (l++r)=(Et r).map (fun x=>mS ((beNat l:Nat):Int) ([]++x)):=by
 unfold Cs;have e1:(l++r).drop 4=r:=by rw[<-h];simp
 have e2:(l++r).take 4=l:=by rw[<-h];simp
 rw[if_neg (by rw[List.length_append];omega),e1,e2];rfl
theorem EG {s:List UInt8}(h:s.length<4):Cs s=none:=by unfold Cs;rw[if_pos h]
theorem Io.start (S:ByteArray):Io S (bn S 0 4).2.1 (bn S 0 4).1 (bn S 0 4).2.2 []:=by
 by_cases c:(bn S 0 4).2.2=0
 ·obtain⟨_,_,l,r,hs,hn,hr⟩:=iK S 0 4 c;left;refine⟨c,?_⟩;rw[hr,hs];exact Ip (by omega)
 ·right;refine⟨c,?_⟩;by_cases h:S.data.toList.length<4
  ·exact EG h
  ·exfalso;apply c;have r2:=ei (S.data.toList.take 4) (S.data.toList.drop 4) 4 (by simp at h⊢;omega) (by decide);rw[List.take_append_drop,<-PR S]at r2;rw[r2]
theorem EI (k0:Int)(out:List Pk)(x:Pk)(o:Option (List Pk)):(o.map (x:: ·)).map (fun l=>mS k0 (out++l))=o.map (fun l=>mS k0 ((out++[x])++l)):=by
 cases o<;>simp
theorem Io.next {S s s2:ByteArray}{k0:Int}{out:List Pk}{x:Pk}{e2:Int}(h:Io S s k0 0 out)(hs:s.size≠0)(h2:(e2=0∧jI s.data.toList=some (x,s2.data.toList))∨(e2≠0∧jI s.data.toList=none)):Io S s2 k0 e2 (out++[x]):=by
 rcases h with⟨_,h⟩| ⟨h,_⟩
 ·rcases h2 with⟨e,h2⟩| ⟨e,h2⟩
  ·left;refine⟨e,?_⟩;rw[h,sD h2,EI]
  ·right;refine⟨e,?_⟩;rw[h,yv (by
    intro e
    have:=Lib.size_eq s
    rw[e]at this
    exact hs this) h2]
   rfl
 ·exact absurd rfl h
theorem CQ {S:List UInt8}(h:S.length<=240):uL 2 S=match Cs S with|none=>none|some n=>if dx n=true then some n else none:=by
 unfold uL;rw[if_neg (by omega),if_neg (by decide),if_pos rfl];cases Cs S<;>rfl
theorem Io.bad {S s:ByteArray}{k0 e:Int}{out:List Pk}(h:Io S s k0 e out)(he:e≠0)(hS:S.size<=240):uL 2 S.data.toList=none:=by
 rw[CQ (by rw[<-Lib.size_eq];exact hS)];rcases h with⟨h,_⟩| ⟨_,h⟩
 ·exact absurd h he
 ·rw[h]
theorem Io.good {S s:ByteArray}{k0:Int}{out:List Pk}(h:Io S s k0 0 out)(hs:s.size=0)(hS:S.size<=240):uL 2 S.data.toList=if dx (mS k0 out)=true then some (mS k0 out)else none:=by
 rw[CQ (by rw[<-Lib.size_eq];exact hS)];rcases h with⟨_,h⟩| ⟨h,_⟩
 ·have e:s.data.toList=[]:=List.eq_nil_of_length_eq_zero (by rw[<-Lib.size_eq];exact hs);rw[e,Cq]at h;simp only[Option.map_some,List.append_nil]at h;rw[h]
 ·exact absurd rfl h
theorem iV {k:Int}{s:List UInt8}(h:uL k s=none):tS k s=nd0∧uM k s=false:=by unfold tS uM;rw[h];exact⟨rfl,rfl⟩
theorem mZ {k:Int}{s:List UInt8}{n:Nd}(h:uL k s=some n):tS k s=n∧uM k s=true:=by unfold tS uM;rw[h];exact⟨rfl,rfl⟩
theorem Iq {k:Int}{s:List UInt8}(h:240<s.length):uL k s=none:=by unfold uL;rw[if_pos h]
theorem EJ {k:Int}{s:List UInt8}(h1:k≠1)(h2:k≠2):uL k s=none:=by
 unfold uL;rw[if_neg h1,if_neg h2];split<;>rfl
theorem MH {s:List UInt8}(h:s.length<=240):uL 1 s=if Ec s=true then some ⟨true,xZ s,[],[]⟩else none:=by
 unfold uL;rw[if_neg (by omega),if_pos rfl]
end
section
def AU (T:TypeId)(w w':World):Prop:=∀(base:Nat) (e:TypeId) (k:Nat) (v:Value) (n:Nat) (xs:List Value),e≠T->w.ownsRow base e k v n xs->w'.ownsRow base e k v n xs
theorem Ir {T:TypeId}{w w':World}{base k n:Nat}{v:Value}{xs:List Value}(h:w.ownsRow base T k v n xs)(g:w.grownBy w' v.ownBlock):AU T w w':=by
 intro base' e' k' v' n' xs' hne h';refine h'.kept g ?_;rcases h'.2 with⟨rfl,_⟩| ⟨b',cap',cur',rfl,_,hb',_⟩
 ·exact Or.inl rfl
 ·right;rcases h.2 with⟨rfl,_⟩| ⟨b,cap,cur,rfl,_,hb,_⟩
  ·simp[Value.ownBlock]
  ·simp only[Value.ownBlock,ne_eq,Option.some.injEq];intro e;subst e;rw[hb']at hb;injection hb with hb;injection hb with _ h2;exact hne h2
end
section
theorem U0 {B q:Nat}{w w':World}{cs:Array Value}{t:TypeId}(h:Cl w q cs t)(hb:Below B w w')(hq:q<B):Cl w' q cs t:=(hb.block q hq).trans h
end
section
def AW (T:TypeId)(w w':World):Prop:=∀(q:Nat) (cs:Array Value) (t:TypeId),t≠T->Cl w q cs t->Cl w' q cs t
theorem CU {T:TypeId}{w w':World}{base k n:Nat}{v:Value}{xs:List Value}(h:w.ownsRow base T k v n xs)(g:w.grownBy w' v.ownBlock):AW T w w':=by
 intro q cs t hne hc;refine(g.block q hc.lt ?_).trans hc;rcases h.2 with⟨rfl,_⟩| ⟨b,cap,cur,rfl,_,hb,_⟩
 ·simp[Value.ownBlock]
 ·simp only[Value.ownBlock,ne_eq,Option.some.injEq];intro e;subst e;unfold Cl at hc;rw[hc]at hb;injection hb with hb;injection hb with _ h2;exact hne h2
theorem EK {base:Nat}{w:World}{v:Value}{l:List Int}{q:Nat}{x:Int}{t:TypeId}(ty:TypeId)(h:dP base w v l)(hu:Cl w q #[.int .i64 x] t)(hl:l.length<100000)(hbase:base<=w.heap.size):
  ∃ao n c w',(Builtin.append_ #[93,93] ty #[v,.slice (some ⟨q,0,none⟩) 1 1]).run Tryz.prog w=.ok (.slice ao n c) w'∧dP base w' (.slice ao n c) (l++[x])∧(∀w0,Below base w0 w->Below base w0 w')∧AU 3 w w'∧AW 3 w w':=by
 obtain⟨i0,hi,hz0,hz1,hz2⟩:=info_parts pV;have ht:=Tryz.underlying93;obtain⟨v',w',hr,g1,g2,_⟩:=run_append_own (P:=Tryz.prog) w base 93 ty 3 i0 _ 1 8 ht hi hz0 hz1 hz2 rfl (by decide) v _ _ h ⟨q,0,none⟩ 1 1 (flatK encI 1 [x].toArray).toList (by simp) (fun j u hj=>by
  rw[Ik]at hj
  obtain⟨hj1,hj2⟩:=List.getElem?_eq_some_iff.1 hj
  have jL:j=0:=by simpa using hj1
  subst jL
  rw[Go.WideShapes.add_plain,hu.cell]
  simp only[Nat.add_zero]
  rw[<-hj2]
  rfl) (cD yA iR) (by unfold maxLen;omega) (by omega) hbase
 obtain⟨av,cv,rfl⟩:=bN g1;refine⟨_,_,_,w',hr,?_,(fun w0 hb=>hb.grown g2 hbase fun k hk=>j7 h k hk),Ir h g2,CU h g2⟩;show w'.ownsRow base 3 1 _ (l++[x]).length (flatK encI 1 (l++[x]).toArray).toList;rw[List.length_append,bH encI 1 iR];exact g1
theorem EM {base:Nat}{w:World}{v:Value}{l:List ByteArray}{q:Nat}{x:ByteArray}{t:TypeId}(ty:TypeId)(h:cH base w v l)(hu:Cl w q #[.string x] t)(hl:l.length<100000)(hbase:base<=w.heap.size):
  ∃ao n c w',(Builtin.append_ #[54,54] ty #[v,.slice (some ⟨q,0,none⟩) 1 1]).run Tryz.prog w=.ok (.slice ao n c) w'∧cH base w' (.slice ao n c) (l++[x])∧(∀w0,Below base w0 w->Below base w0 w')∧AU 9 w w'∧AW 9 w w':=by
 obtain⟨i0,hi,hz0,hz1,hz2⟩:=info_parts mK;have ht:=Tryz.underlying54;obtain⟨v',w',hr,g1,g2,_⟩:=run_append_own (P:=Tryz.prog) w base 54 ty 9 i0 _ 1 16 ht hi hz0 hz1 hz2 rfl (by decide) v _ _ h ⟨q,0,none⟩ 1 1 (flatK encS 1 [x].toArray).toList (by simp) (fun j u hj=>by
  rw[Ij]at hj
  obtain⟨hj1,hj2⟩:=List.getElem?_eq_some_iff.1 hj
  have jL:j=0:=by simpa using hj1
  subst jL
  rw[Go.WideShapes.add_plain,hu.cell]
  simp only[Nat.add_zero]
  rw[<-hj2]
  rfl) (cD yo fk) (by unfold maxLen;omega) (by omega) hbase
 obtain⟨av,cv,rfl⟩:=bN g1;refine⟨_,_,_,w',hr,?_,(fun w0 hb=>hb.grown g2 hbase fun k hk=>j7 h k hk),Ir h g2,CU h g2⟩;show w'.ownsRow base 9 1 _ (l++[x]).length (flatK encS 1 (l++[x]).toArray).toList;rw[List.length_append,bH encS 1 fk];exact g1
theorem X5 {o:Oper}{a:Act}{K:Act->World->Prop}{Q:Exit->Act->World->Prop}{w:World}(s x:Operand)
  (ho:o.op=.call {callee:=.builtin .append,args:=#[s,x],argTypes:=#[93,93]})(base:Nat)(v:Value)(l:List Int)(hs:a.eval s=v)(hown:dP base w v l)
  (q:Nat)(y:Int)(t:TypeId)(hx:a.eval x=.slice (some ⟨q,0,none⟩) 1 1)(hu:Cl w q #[.int .i64 y] t)(hl:l.length<100000)(hbase:base<=w.heap.size)(lm:List Int)(hlm:l++[y]=lm)
  (h:∀ao n c w',dP base w' (.slice ao n c) lm->(∀w0,Below base w0 w->Below base w0 w')->AU 3 w w'->AW 3 w w'->K (a.put o.dst (.slice ao n c)) w'):Oper.wp Tryz.prog o a w K Q:=by
 subst hlm;obtain⟨ao,n,c,w',hrun,h1,h2,h3,h4⟩:=EK o.type hown hu hl hbase;unfold Oper.wp execOp;simp only[ho,resolve,invoke,builtin,Sem.run_bind,Sem.run_pure,Result.andThen_ok,List.map_toArray,List.map_cons,List.map_nil,hs,hx,hrun];exact h ao n c w' h1 h2 h3 h4
theorem X6 {o:Oper}{a:Act}{K:Act->World->Prop}{Q:Exit->Act->World->Prop}{w:World}(s x:Operand)
  (ho:o.op=.call {callee:=.builtin .append,args:=#[s,x],argTypes:=#[54,54]})(base:Nat)(v:Value)(l:List ByteArray)(hs:a.eval s=v)(hown:cH base w v l)
  (q:Nat)(y:ByteArray)(t:TypeId)(hx:a.eval x=.slice (some ⟨q,0,none⟩) 1 1)(hu:Cl w q #[.string y] t)(hl:l.length<100000)(hbase:base<=w.heap.size)(lm:List ByteArray)(hlm:l++[y]=lm)
  (h:∀ao n c w',cH base w' (.slice ao n c) lm->(∀w0,Below base w0 w->Below base w0 w')->AU 9 w w'->AW 9 w w'->K (a.put o.dst (.slice ao n c)) w'):Oper.wp Tryz.prog o a w K Q:=by
 subst hlm;obtain⟨ao,n,c,w',hrun,h1,h2,h3,h4⟩:=EM o.type hown hu hl hbase;unfold Oper.wp execOp;simp only[ho,resolve,invoke,builtin,Sem.run_bind,Sem.run_pure,Result.andThen_ok,List.map_toArray,List.map_cons,List.map_nil,hs,hx,hrun];exact h ao n c w' h1 h2 h3 h4
theorem qE {base b:Nat}{w w':World}{e:TypeId}{k:Nat}{v:Value}{n:Nat}{xs:List Value}(h:w.ownsRow base e k v n xs)(ho:Only b w w')(hb:b<base):w'.ownsRow base e k v n xs:=by
 refine⟨h.1,?_⟩;rcases h.2 with h2| ⟨g,cap,cur,hv,hg,hh,r⟩
 ·exact Or.inl h2
 ·exact Or.inr ⟨g,cap,cur,hv,hg,by rw[ho.block g (by omega)];exact hh,r⟩
theorem Iu {b q:Nat}{w w':World}{cs:Array Value}{t:TypeId}(h:Cl w q cs t)(ho:Only b w w')(hb:q≠b):Cl w' q cs t:=(ho.block q hb).trans h
theorem CV {base q i:Nat}{w:World}{e t:TypeId}{k:Nat}{v x:Value}{n:Nat}{xs:List Value}{cs:Array Value}(h:w.ownsRow base e k v n xs)(hc:Cl w q cs t)(hne:t≠e):(w.setCell ⟨q,i,none⟩ x).ownsRow base e k v n xs:=by
 refine⟨h.1,?_⟩;rcases h.2 with h2| ⟨g,cap,cur,hv,hg,hh,r⟩
 ·exact Or.inl h2
 ·refine Or.inr ⟨g,cap,cur,hv,hg,?_,r⟩;have Ty:g≠q:=by
   intro e1;subst e1;unfold Cl at hc;rw[hc]at hh;injection hh with hh;injection hh with h1 h2;exact hne h2
  rw[Below.heap_setCell _ _ _ _ Ty];exact hh
theorem _root_.Go.Proofs.YtdcpfbidcpfboaaGreatDoor.Rd.cl {b:Nat}{s:ByteArray}{e:Int}{w:World}(h:Rd b s e w):Cl w b #[.string s,.int .i64 e] 180:=h.blk
theorem _root_.Go.Proofs.YtdcpfbidcpfboaaGreatDoor.Rd.of {b:Nat}{s:ByteArray}{e:Int}{w w':World}(h:Rd b s e w)(hc:Cl w' b #[.string s,.int .i64 e] 180):Rd b s e w':=⟨hc,h.sz⟩
theorem CW {w:World}{q b i:Nat}{cs:Array Value}{t:TypeId}(h:Cl w q cs t)(c:b≠q)(x:Value):Cl (w.setCell ⟨b,i,none⟩ x) q cs t:=by
 unfold Cl at h⊢;simp[World.setCell,Array.getElem?_modify,c,h]
structure mh (base:Nat)(w:World)(ve vk vs:Value)(n:Nd):Prop where
 e:Own aG 2 base w ve n.es
 k:Own encI 1 base w vk n.ks
 s:Own encS 1 base w vs n.ss
theorem kH.w {base:Nat}{w:World}{ve vk vs:Value}{n:Nd}(h:kH base w ve vk vs n):mh base w ve vk vs n:=⟨cj (by decide) h.e,cj (by decide) h.k,cj (by decide) h.s⟩
theorem mh.r {base:Nat}{w:World}{ve vk vs:Value}{n:Nd}(h:mh base w ve vk vs n):im w ve vk vs n:=⟨h.e.row,h.k.row,h.s.row⟩
theorem mh.mono {base base':Nat}{w:World}{ve vk vs:Value}{n:Nd}(h:mh base w ve vk vs n)(hb:base'<=base):mh base' w ve vk vs n:=⟨h.e.mono hb,h.k.mono hb,h.s.mono hb⟩
theorem mh.below {base:Nat}{w w':World}{ve vk vs:Value}{n:Nd}(h:mh base w ve vk vs n)(hb:Below w.heap.size w w'):mh base w' ve vk vs n:=⟨h.e.below hb,h.k.below hb,h.s.below hb⟩
theorem mh.zero (base:Nat)(w:World):mh base w (.slice none 0 0) (.slice none 0 0) (.slice none 0 0) nd0:=⟨Own.nil,Own.nil,Own.nil⟩
theorem fw {α:Type}[Inhabited α]{enc:α->List Value}{k base q i:Nat}{w:World}{v x:Value}{l:List α}(h:Own enc k base w v l)(hq:q<base):Own enc k base (w.setCell ⟨q,i,none⟩ x) v l:=by
 obtain⟨ao,cap,e,h1,h2,h3⟩:=h;refine⟨ao,cap,e,h1,h2,fun hne=>?_⟩;obtain⟨b,off,e2,hb,hlt,hh⟩:=h3 hne;have hbq:b≠q:=by omega
 refine⟨b,off,e2,hb,by simpa using hlt,fun t ht=>?_⟩;have hbk:=Below.heap_setCell w ⟨q,i,none⟩ x b hbq;have:=hh t ht
 rwa [<-World.cell?_of_block (w:=w) (w':=w.setCell ⟨q,i,none⟩ x) (a:=⟨b,off+t,none⟩) hbk,<-World.frozen?_of_block (w:=w) (w':=w.setCell ⟨q,i,none⟩ x) (a:=⟨b,off+t,none⟩) hbk]at this
theorem mh.fo {base q:Nat}{w:World}{ve vk vs a b c d:Value}{n:Nd}(h:mh base w ve vk vs n)(hq:q<base):mh base (Go.Proofs.YtdcpfbidcpfboaaGreatDoor.N.fo w q a b c d) ve vk vs n:=
 ⟨fw (fw (fw (fw h.e hq) hq) hq) hq,fw (fw (fw (fw h.k hq) hq) hq) hq,fw (fw (fw (fw h.s hq) hq) hq) hq⟩
theorem aL {fn:Func}{p q:Tmp}{ty:TypeId}(h:fn.results=#[.cell p ty,.tmp q])(tmps:Array Value)(P:Program)(w:World):
  (results fn tmps).run P w=((asAddr (tmps.getD p undef)).run P w).andThen fun a w₁=>((loadVar ty a).run P w₁).andThen fun x w₂=>.ok (.tuple #[x,tmps.getD q undef]) w₂:=by
 simp only[results,h];simp[Sem.run_bind,Result.andThen]
def OS (w:World)(kind:Int)(S:List UInt8)(e:Ending)(w':World):Prop:=
 ∃ve vk vs,e=.returned (.tuple #[.agg #[.bool (tS kind S).leaf,ve,vk,vs],.int .i64 (kV (uM kind S))])∧mh w.heap.size w' ve vk vs (tS kind S)∧Below w.heap.size w w'
end
section
theorem yT (s:ByteArray)(e n:Int):(aM s e n).1.size<=s.size:=by
 unfold aM;split
 ·simp
 ·split
  ·simp
  ·split
   ·simp
   ·simp;omega
theorem AX (s:ByteArray)(e:Int):(a8 s e).1.size<=s.size:=Nat.le_trans (yT _ _ _) (jB _ _ _)
theorem AY (S:ByteArray)(w:World)(hS:S.size<=240):Calls Tryz.prog 183 #[.string S] w (OS w 1 S.data.toList):=by
 have BW:Below w.heap.size w (w.alloc (.cells #[.bool false,.slice none 0 0,.slice none 0 0,.slice none 0 0] 184)):=aq _ (Below.refl _ _);have K1:Cl (w.alloc (.cells #[.bool false,.slice none 0 0,.slice none 0 0,.slice none 0 0] 184)) w.heap.size #[.bool false,.slice none 0 0,.slice none 0 0,.slice none 0 0] 184:=Cl.lT _ _ _;have C:Hid _:=Ax S (w.alloc (.cells #[.bool false,.slice none 0 0,.slice none 0 0,.slice none 0 0] 184)) (by omega);have DN:=MH (s:=S.data.toList) (by rw[<-Lib.size_eq];exact hS);go_enter Tryz.func183,Tryz.ntmps183
 go_upto_region 1 with fail
 have sz:(w.alloc (.cells #[.bool false,.slice none 0 0,.slice none 0 0,.slice none 0 0] 184)).heap.size=w.heap.size+1:=by simp
 generalize World.alloc _ _=W at*;obtain⟨p,hp⟩:∃p,w.heap.size=p:=⟨_,rfl⟩;have HP:Hid (w.heap.size=p):=hp;rw[hp]at K1 BW sz⊢;clear hp;have SZ:Hid _:=sz;clear sz;cases hb:Ec S.data.toList with
 |true=>
  rw[hb]at C;rw[hb,if_pos rfl]at DN;obtain⟨r1,r2⟩:=mZ DN;have R1:Hid _:=r1;have R2:Hid _:=r2;clear r1 r2 DN hb
  go_wp2_with fail
  refine Calls.mono C.out ?_;rintro e w1 ⟨v',rfl,o1,b1⟩;clear C;generalize xZ S.data.toList=l at*;obtain⟨ae,ce,rfl,_⟩:=aF o1.row;have K2:=K1.on b1;obtain⟨c0,c1,c2,c3⟩:=K2.four;obtain⟨g0,g1,g2,g3⟩:=K2.thaw;have KX:Cl ((((w1.setCell ⟨p,0,none⟩ (.bool true)).setCell ⟨p,1,none⟩ (.slice ae l.length ce)).setCell ⟨p,2,none⟩ (.slice none 0 0)).setCell ⟨p,3,none⟩ (.slice none 0 0)) p #[.bool true,.slice ae l.length ce,.slice none 0 0,.slice none 0 0] 184:=K2.fo _ _ _ _;have BX:Hid (Below p w ((((w1.setCell ⟨p,0,none⟩ (.bool true)).setCell ⟨p,1,none⟩ (.slice ae l.length ce)).setCell ⟨p,2,none⟩ (.slice none 0 0)).setCell ⟨p,3,none⟩ (.slice none 0 0))):=cU (BW.trans (b1.mono (by have:=SZ.out;omega))) (Nat.le_refl _);have OX:Hid (mh p ((((w1.setCell ⟨p,0,none⟩ (.bool true)).setCell ⟨p,1,none⟩ (.slice ae l.length ce)).setCell ⟨p,2,none⟩ (.slice none 0 0)).setCell ⟨p,3,none⟩ (.slice none 0 0)) (.slice ae l.length ce) (.slice none 0 0) (.slice none 0 0) ⟨true,l,[],[]⟩):=by
   have:=mh.fo (q:=p) (a:=.bool true) (b:=.slice ae l.length ce) (c:=.slice none 0 0) (d:=.slice none 0 0) (⟨o1,Own.nil,Own.nil⟩:mh W.heap.size w1 (.slice ae l.length ce) (.slice none 0 0) (.slice none 0 0) ⟨true,l,[],[]⟩) (by have:=SZ.out;omega);exact this.mono (by have:=SZ.out;omega)
  clear K1 K2 o1 b1 BW;go_wp2
  (try simp only[Exit.inBlock,Exit.then])
  clear c0 c1 c2 c3 g0 g1 g2 g3;generalize World.setCell _ _ _=X at*;obtain⟨k0,k1,k2,k3⟩:=KX.four;refine bodyPost_ret (v:=.tuple #[.agg #[.bool true,.slice ae l.length ce,.slice none 0 0,.slice none 0 0],.int .i64 0]) ?_ rfl ⟨_,_,_,by rw[R1.out,R2.out];rfl,by rw[R1.out,HP.out];exact OX.out,by rw[HP.out];exact BX.out⟩;rw[aL rfl];go_simp
 |false=>
  rw[hb]at C;rw[hb,if_neg (by simp)]at DN;obtain⟨r1,r2⟩:=iV DN;have R1:Hid _:=r1;have R2:Hid _:=r2;clear r1 r2 DN hb
  go_wp2_with fail
  refine Calls.mono C.out ?_;rintro e w1 ⟨v',rfl,o1,b1⟩;clear C;obtain⟨ae,ce,rfl,_⟩:=aF o1.row;have K2:=K1.on b1;obtain⟨c0,c1,c2,c3⟩:=K2.four;obtain⟨g0,g1,g2,g3⟩:=K2.thaw;have KX:Cl ((((w1.setCell ⟨p,0,none⟩ (.bool false)).setCell ⟨p,1,none⟩ (.slice none 0 0)).setCell ⟨p,2,none⟩ (.slice none 0 0)).setCell ⟨p,3,none⟩ (.slice none 0 0)) p #[.bool false,.slice none 0 0,.slice none 0 0,.slice none 0 0] 184:=K2.fo _ _ _ _;have BX:Hid (Below p w ((((w1.setCell ⟨p,0,none⟩ (.bool false)).setCell ⟨p,1,none⟩ (.slice none 0 0)).setCell ⟨p,2,none⟩ (.slice none 0 0)).setCell ⟨p,3,none⟩ (.slice none 0 0))):=cU (BW.trans (b1.mono (by have:=SZ.out;omega))) (Nat.le_refl _);clear K1 K2 o1 b1 BW;go_wp2
  (try simp only[Exit.inBlock,Exit.then])
  clear c0 c1 c2 c3 g0 g1 g2 g3;generalize World.setCell _ _ _=X at*;obtain⟨k0,k1,k2,k3⟩:=KX.four;refine bodyPost_ret (v:=.tuple #[.agg #[.bool false,.slice none 0 0,.slice none 0 0,.slice none 0 0],.int .i64 3]) ?_ rfl ⟨_,_,_,by rw[R1.out,R2.out];rfl,by rw[R1.out];exact mh.zero _ _,by rw[HP.out];exact BX.out⟩;rw[aL rfl];go_simp
end
section
theorem ML (out:List Pk)(x:Pk):(out++[x]).map (·.1)=out.map (·.1)++[x.1]:=by simp
theorem MN (k0:Int)(out:List Pk)(x:Pk):k0::(out++[x]).map (·.2)=(k0::out.map (·.2))++[x.2]:=by simp
structure iW (W:World)(rb q:Nat)(ak:Option Addr)(nk ck:Nat)(az:Option Addr)(nz cz:Nat)(kl:List Int)(sl:List ByteArray)(s s1:ByteArray)(e e1:Int)(f3 f5:Bool)(w:World):Prop where
 k:Cl w q #[.bool false,.slice none 0 0,.slice ak nk ck,.slice az nz cz] 184
 b:Below rb W w
 other:dP (rb+1) w (.slice ak nk ck) kl
 r:Rd rb (cond f3 s1 s) (cond f3 e1 e) w
 o:f5=false->cH (rb+1) w (.slice az nz cz) sl
 ne:q≠rb
theorem iW.z {W:World}{rb q:Nat}{ak:Option Addr}{nk ck:Nat}{az:Option Addr}{nz cz:Nat}{kl:List Int}{sl:List ByteArray}{s s1:ByteArray}{e e1:Int}{f3 f5:Bool}{w:World}(h:iW W rb q ak nk ck az nz cz kl sl s s1 e e1 f3 f5 w):rb+1<=w.heap.size:=h.r.lt
theorem iW.lay {W:World}{rb q:Nat}{ak:Option Addr}{nk ck:Nat}{az:Option Addr}{nz cz:Nat}{kl:List Int}{sl:List ByteArray}{s s1:ByteArray}{e e1:Int}{f3 f5:Bool}{w:World}(h:iW W rb q ak nk ck az nz cz kl sl s s1 e e1 f3 f5 w)(x:Obj):iW W rb q ak nk ck az nz cz kl sl s s1 e e1 f3 f5 (w.alloc x):=
 ⟨h.k.alloc _,h.b.alloc (Nat.le_of_lt h.r.lt) _,ownsRow_below h.other (aq _ (Below.refl _ _)),h.r.below (aq _ (Below.refl _ w)) h.r.lt,fun t=>ownsRow_below (h.o t) (aq _ (Below.refl _ _)),h.ne⟩
theorem iW.read {W:World}{rb q:Nat}{ak:Option Addr}{nk ck:Nat}{az:Option Addr}{nz cz:Nat}{kl:List Int}{sl:List ByteArray}{s s1:ByteArray}{e e1:Int}{f3 f5:Bool}{w w':World}(h:iW W rb q ak nk ck az nz cz kl sl s s1 e e1 f3 f5 w)(hr:Rd rb s1 e1 w')(ho:Only rb w w')(_un:f3=false):iW W rb q ak nk ck az nz cz kl sl s s1 e e1 true f5 w':=
 ⟨Iu h.k ho h.ne,h.b.trans (ho.below (Nat.le_refl _)),qE h.other ho (Nat.lt_succ_self _),hr,fun t=>qE (h.o t) ho (Nat.lt_succ_self _),h.ne⟩
theorem iW.grow {W:World}{rb q:Nat}{ak:Option Addr}{nk ck:Nat}{az:Option Addr}{nz cz:Nat}{kl:List Int}{sl:List ByteArray}{s s1:ByteArray}{e e1:Int}{f3 f5:Bool}{w w':World}(h:iW W rb q ak nk ck az nz cz kl sl s s1 e e1 f3 f5 w)(hq:∀w0,Below (rb+1) w0 w->Below (rb+1) w0 w')(ht:AU 9 w w')(hc:AW 9 w w'):iW W rb q ak nk ck az nz cz kl sl s s1 e e1 f3 true w':=
 ⟨hc _ _ _ (by decide) h.k,h.b.trans ((hq _ (Below.refl _ _)).mono (Nat.le_succ _)),ht _ _ _ _ _ _ (by decide) h.other,h.r.of (hc _ _ _ (by decide) h.r.cl),(fun t=>by cases t),h.ne⟩
structure iX (W:World)(rb q:Nat)(ak:Option Addr)(nk ck:Nat)(az:Option Addr)(nz cz:Nat)(kl:List Int)(sl:List ByteArray)(s s1:ByteArray)(e e1:Int)(f3 f5:Bool)(w:World):Prop where
 k:Cl w q #[.bool false,.slice none 0 0,.slice ak nk ck,.slice az nz cz] 184
 b:Below rb W w
 other:cH (rb+1) w (.slice az nz cz) sl
 r:Rd rb (cond f3 s1 s) (cond f3 e1 e) w
 o:f5=false->dP (rb+1) w (.slice ak nk ck) kl
 ne:q≠rb
theorem iX.z {W:World}{rb q:Nat}{ak:Option Addr}{nk ck:Nat}{az:Option Addr}{nz cz:Nat}{kl:List Int}{sl:List ByteArray}{s s1:ByteArray}{e e1:Int}{f3 f5:Bool}{w:World}(h:iX W rb q ak nk ck az nz cz kl sl s s1 e e1 f3 f5 w):rb+1<=w.heap.size:=h.r.lt
theorem iX.lay {W:World}{rb q:Nat}{ak:Option Addr}{nk ck:Nat}{az:Option Addr}{nz cz:Nat}{kl:List Int}{sl:List ByteArray}{s s1:ByteArray}{e e1:Int}{f3 f5:Bool}{w:World}(h:iX W rb q ak nk ck az nz cz kl sl s s1 e e1 f3 f5 w)(x:Obj):iX W rb q ak nk ck az nz cz kl sl s s1 e e1 f3 f5 (w.alloc x):=
 ⟨h.k.alloc _,h.b.alloc (Nat.le_of_lt h.r.lt) _,ownsRow_below h.other (aq _ (Below.refl _ _)),h.r.below (aq _ (Below.refl _ w)) h.r.lt,fun t=>ownsRow_below (h.o t) (aq _ (Below.refl _ _)),h.ne⟩
theorem iX.read {W:World}{rb q:Nat}{ak:Option Addr}{nk ck:Nat}{az:Option Addr}{nz cz:Nat}{kl:List Int}{sl:List ByteArray}{s s1:ByteArray}{e e1:Int}{f3 f5:Bool}{w w':World}(h:iX W rb q ak nk ck az nz cz kl sl s s1 e e1 f3 f5 w)(hr:Rd rb s1 e1 w')(ho:Only rb w w')(_un:f3=false):iX W rb q ak nk ck az nz cz kl sl s s1 e e1 true f5 w':=
 ⟨Iu h.k ho h.ne,h.b.trans (ho.below (Nat.le_refl _)),qE h.other ho (Nat.lt_succ_self _),hr,fun t=>qE (h.o t) ho (Nat.lt_succ_self _),h.ne⟩
theorem iX.grow {W:World}{rb q:Nat}{ak:Option Addr}{nk ck:Nat}{az:Option Addr}{nz cz:Nat}{kl:List Int}{sl:List ByteArray}{s s1:ByteArray}{e e1:Int}{f3 f5:Bool}{w w':World}(h:iX W rb q ak nk ck az nz cz kl sl s s1 e e1 f3 f5 w)(hq:∀w0,Below (rb+1) w0 w->Below (rb+1) w0 w')(ht:AU 3 w w')(hc:AW 3 w w'):iX W rb q ak nk ck az nz cz kl sl s s1 e e1 f3 true w':=
 ⟨hc _ _ _ (by decide) h.k,h.b.trans ((hq _ (Below.refl _ _)).mono (Nat.le_succ _)),ht _ _ _ _ _ _ (by decide) h.other,h.r.of (hc _ _ _ (by decide) h.r.cl),(fun t=>by cases t),h.ne⟩
def X7 (W:World)(rb q:Nat)(ak:Option Addr)(nk ck:Nat)(az:Option Addr)(nz cz:Nat)(kl:List Int)(sl:List ByteArray)(s s1:ByteArray)(e e1:Int)(kk:ByteArray)(lm:List ByteArray){y0 y1 y2 y3 y6 y7 y8 y9 wE sK sL y13 tW pN pO sN wF wG y27 y28 y29 yK y31 y32 wK y34 ua ub wL y38 y39 yL yM yN yO:Value}(C:List Bool->Act->Prop)(w:World):Prop:=∀{f0 f1 f2 f3 f4 f5 f6 f7:Bool}{x20 j8 lU kW x24 x25 sO:Value},f7=false->iW W rb q ak nk ck az nz cz kl sl s s1 e e1 f3 f5 w->Hid (f0=true->x20=.pointer (some ⟨q,3,none⟩))->Hid (f1=true->j8=.slice az nz cz)->Hid (f2=true->lU=.pointer (some ⟨rb,0,none⟩))->Hid (f3=true->kW=.string kk)->Hid (f4=true->f5=false->f3=true∧∃qq,x24=.slice (some ⟨qq,0,none⟩) 1 1∧Cl w qq #[.string kk] 9)->Hid (f5=true->f3=true∧∃ao n c,x25=.slice ao n c∧cH (rb+1) w x25 (lm))->Hid (f6=true->sO=.pointer (some ⟨q,3,none⟩))->C [f0,f1,f2,f3,f4,f5,f6,f7] {tmps:=#[y0,y1,y2,y3,.pointer (some ⟨rb,0,none⟩),.pointer (some ⟨q,0,none⟩),y6,y7,y8,y9,wE,sK,sL,y13,tW,pN,pO,sN,wF,wG,x20,j8,lU,kW,x24,x25,sO,y27,y28,y29,yK,y31,y32,wK,y34,ua,ub,wL,y38,y39,yL,yM,yN,yO],defers:=[]}
def X8 (W:World)(rb q:Nat)(ak:Option Addr)(nk ck:Nat)(az:Option Addr)(nz cz:Nat)(kl:List Int)(sl:List ByteArray)(s s1:ByteArray)(e e1:Int)(vv:Int)(lm:List Int){y0 y1 y2 y3 y6 y7 y8 y9 wE sK sL y13 tW pN pO sN wF wG y20 y21 y22 y23 y24 y25 yJ y34 ua ub wL y38 y39 yL yM yN yO:Value}(C:List Bool->Act->Prop)(w:World):Prop:=∀{f0 f1 f2 f3 f4 f5 f6 f7:Bool}{x27 x28 x29 x30 x31 x32 H0:Value},f7=false->iX W rb q ak nk ck az nz cz kl sl s s1 e e1 f3 f5 w->Hid (f0=true->x27=.pointer (some ⟨q,2,none⟩))->Hid (f1=true->x28=.slice ak nk ck)->Hid (f2=true->x29=.pointer (some ⟨rb,0,none⟩))->Hid (f3=true->x30=.int .i64 vv)->Hid (f4=true->f5=false->f3=true∧∃qq,x31=.slice (some ⟨qq,0,none⟩) 1 1∧Cl w qq #[.int .i64 vv] 3)->Hid (f5=true->f3=true∧∃ao n c,x32=.slice ao n c∧dP (rb+1) w x32 (lm))->Hid (f6=true->H0=.pointer (some ⟨q,2,none⟩))->C [f0,f1,f2,f3,f4,f5,f6,f7] {tmps:=#[y0,y1,y2,y3,.pointer (some ⟨rb,0,none⟩),.pointer (some ⟨q,0,none⟩),y6,y7,y8,y9,wE,sK,sL,y13,tW,pN,pO,sN,wF,wG,y20,y21,y22,y23,y24,y25,yJ,x27,x28,x29,x30,x31,x32,H0,y34,ua,ub,wL,y38,y39,yL,yM,yN,yO],defers:=[]}
theorem yU (S:ByteArray)(w:World)(hS:S.size<=240):Calls Tryz.prog 184 #[.string S] w (OS w 2 S.data.toList):=by
 have BW:Below w.heap.size w (w.alloc (.cells #[.bool false,.slice none 0 0,.slice none 0 0,.slice none 0 0] 184)):=aq _ (Below.refl _ _);have K1:Cl (w.alloc (.cells #[.bool false,.slice none 0 0,.slice none 0 0,.slice none 0 0] 184)) w.heap.size #[.bool false,.slice none 0 0,.slice none 0 0,.slice none 0 0] 184:=Cl.lT _ _ _;have sz:(w.alloc (.cells #[.bool false,.slice none 0 0,.slice none 0 0,.slice none 0 0] 184)).heap.size=w.heap.size+1:=by simp
 go_enter Tryz.func184,Tryz.ntmps184
 go_upto_region 1 with fail
 generalize World.alloc _ _=W at*;have C0:Hid _:=mo S W;have R0:Hid (Rd W.heap.size S 0 (W.alloc (.cells #[.string S,.int .i64 0] 180))):=Rd.made S (by unfold maxLen;omega) W;have B1:Hid (Below W.heap.size W (W.alloc (.cells #[.string S,.int .i64 0] 180))):=aq _ (Below.refl _ _);have ZF:(W.alloc (.cells #[.string S,.int .i64 0] 180)).heap.size=W.heap.size+1:=by simp
 obtain⟨p,hp⟩:∃p,w.heap.size=p:=⟨_,rfl⟩;have HP:Hid (w.heap.size=p):=hp;obtain⟨rb,hrb⟩:∃rb,W.heap.size=rb:=⟨_,rfl⟩;have Xy:Hid (W.heap.size=rb):=hrb;rw[hp]at K1 BW sz⊢;rw[hrb]at C0 R0 B1 sz ZF;clear hp hrb;have prb:p<rb:=by omega
 have sz0:rb+1<=(W.alloc (.cells #[.string S,.int .i64 0] 180)).heap.size:=by omega
 clear sz ZF;generalize World.alloc _ _=W1 at*
 go_upto_region 2 with(go_at_call 80;refine Calls.mono C0.out ?_;rintro e w1 ⟨rfl,rfl⟩)
 clear C0;have C1:Hid _:=jm rb S 0 4 w1 R0.out;have D0:Hid _:=Io.start S;have z0:=jB S 0 4;obtain⟨T0,hT0⟩:∃x,bn S 0 4=x:=⟨_,rfl⟩;rw[hT0]at C1 D0 z0;clear hT0;obtain⟨k0,s0,e0⟩:=T0
 (try dsimp only at z0)
 go_wp2_with fail
 refine Calls.mono C1.out ?_;rintro e w2 ⟨rfl,hr2,ho2⟩
 (try dsimp only at hr2)
 clear C1 R0;have sz2:rb+1<=w2.heap.size:=Nat.le_trans sz0 (Nat.le_of_eq ho2.size.symm);have B2:Hid (Below rb W w2):=B1.out.trans (ho2.below (Nat.le_refl _));have OI:Aside (dP (rb+1) (w2.alloc (.cells #[.int .i64 k0] 3)) (.slice (some ⟨w2.heap.size,0,none⟩) 1 1) [k0]):=UT w2 k0 sz2;have b3:Below w2.heap.size w2 ((w2.alloc (.cells #[.int .i64 k0] 3)).alloc (.cells #[.bool false,.slice none 0 0,.slice (some ⟨w2.heap.size,0,none⟩) 1 1,.slice none 0 0] 184)):=aq _ (aq _ (Below.refl _ _));have R3:Hid (Rd rb s0 e0 ((w2.alloc (.cells #[.int .i64 k0] 3)).alloc (.cells #[.bool false,.slice none 0 0,.slice (some ⟨w2.heap.size,0,none⟩) 1 1,.slice none 0 0] 184))):=hr2.below b3 (by omega);have KQ:Aside (Cl ((w2.alloc (.cells #[.int .i64 k0] 3)).alloc (.cells #[.bool false,.slice none 0 0,.slice (some ⟨w2.heap.size,0,none⟩) 1 1,.slice none 0 0] 184)) (w2.heap.size+1) #[.bool false,.slice none 0 0,.slice (some ⟨w2.heap.size,0,none⟩) 1 1,.slice none 0 0] 184):=Cl.pI _ _ _ _;have ZG:Aside (dP (rb+1) ((w2.alloc (.cells #[.int .i64 k0] 3)).alloc (.cells #[.bool false,.slice none 0 0,.slice (some ⟨w2.heap.size,0,none⟩) 1 1,.slice none 0 0] 184)) (.slice (some ⟨w2.heap.size,0,none⟩) 1 1) [k0]):=ownsRow_below OI.out (aq _ (Below.refl _ _));have B3:Hid (Below rb W ((w2.alloc (.cells #[.int .i64 k0] 3)).alloc (.cells #[.bool false,.slice none 0 0,.slice (some ⟨w2.heap.size,0,none⟩) 1 1,.slice none 0 0] 184))):=B2.out.trans (b3.mono (by omega));have hq:rb+1<=w2.heap.size+1:=by omega
 clear OI b3 hr2 ho2 B2 B1;go_wp2;generalize World.alloc _ _=W3 at*;generalize w2.heap.size+1=q at*
 go_loopg [12] (S.size+1) (fun kx s12 wr=>∃(ak:Option Addr) (nk ck:Nat) (az:Option Addr) (nz cz:Nat) (out:List Pk) (s:ByteArray) (e:Int),s.size<kx+1∧out.length+s.size<=S.size∧Hid (bW (out.map (·.1))<=245*out.length)∧Hid (Rd rb s e wr)∧Hid (Io S s k0 e out)∧Aside (Cl wr q #[.bool false,.slice none 0 0,.slice ak nk ck,.slice az nz cz] 184)∧Aside (dP (rb+1) wr (.slice ak nk ck) (k0::out.map (·.2)))∧Aside (cH (rb+1) wr (.slice az nz cz) (out.map (·.1)))∧Hid (Below rb W wr))
 case atStart=>exact⟨_,_,_,_,_,_,[],s0,e0,by omega,by simp;omega,by show _<=_;simp[bW],R3,D0,KQ,ZG,cH.empty _ _,B3⟩
 case round=>
  clear R3 KQ ZG B3 D0;obtain⟨ak,nk,ck,az,nz,cz,out,s,e,hk,hsz,HZ,HR,HD,HQ,HI,HO,HB⟩:=hrel;have CE:Hid _:=mn rb s e wr HR.out;have CL:Hid _:=jP rb s e wr HR.out;have hlt:=HR.out.lt;by_cases he:e=0
  ·subst he;by_cases hs0:s.size=0
   ·have hs1:¬(0:Int)< (s.size:Int):=by omega
    have CN:Hid _:=mq rb s 0 wr HR.out;have en:eO s 0=0:=by simp[eO,hs0]
    rw[en]at CN;have G:Hid _:=HD.out.good hs0 hS;have NX:kH (rb+1) wr (.slice none 0 0) (.slice ak nk ck) (.slice az nz cz) (mS k0 out):=⟨bc.empty _ _,HI.out,HO.out⟩;have sm:Sm (mS k0 out):=⟨by simp[mS],by simp[mS];omega,by simp[mS];omega,by simp[mS,cP],by have:=HZ.out;simp only[mS];omega⟩;have CR:Hid _:=eU (mS k0 out) _ _ _ wr NX.r sm;have NW:Hid _:=NX.w;obtain⟨c0,c1,c2,c3⟩:=HQ.out.four;have k1:=U0 K1 HB.out (by omega);have lf:(mS k0 out).leaf=false:=rfl;rw[lf]at CR;clear en HD hs0 NX sm HI HO HZ;cases hr:dx (mS k0 out)with
    |true=>
     rw[hr,if_pos rfl]at G;rw[hr]at CR;obtain⟨r1,r2⟩:=mZ G.out;have R1:Hid _:=r1;have R2:Hid _:=r2;clear r1 r2 hr G
     go_wp2_with (first| (go_at_call 110;refine Calls.mono CE.out ?_;rintro e w' ⟨rfl,rfl⟩)| (go_at_call 111;refine Calls.mono CL.out ?_;rintro e w' ⟨rfl,rfl⟩)| (go_at_call 82;refine Calls.mono CN.out ?_;rintro e w' ⟨rfl,rfl⟩))
     refine Calls.mono CR.out ?_;rintro e w5 ⟨rfl,hb5⟩;have ZH:=HQ.out.on hb5;have k5:=k1.on hb5;obtain⟨d0,d1,d2,d3⟩:=ZH.four;obtain⟨f0,f1,f2,f3⟩:=k5.four;obtain⟨g0,g1,g2,g3⟩:=k5.thaw;have KX:Cl ((((w5.setCell ⟨p,0,none⟩ (.bool false)).setCell ⟨p,1,none⟩ (.slice none 0 0)).setCell ⟨p,2,none⟩ (.slice ak nk ck)).setCell ⟨p,3,none⟩ (.slice az nz cz)) p #[.bool false,.slice none 0 0,.slice ak nk ck,.slice az nz cz] 184:=k5.fo _ _ _ _;have BX:Hid (Below p w ((((w5.setCell ⟨p,0,none⟩ (.bool false)).setCell ⟨p,1,none⟩ (.slice none 0 0)).setCell ⟨p,2,none⟩ (.slice ak nk ck)).setCell ⟨p,3,none⟩ (.slice az nz cz))):=cU (BW.trans ((HB.out.trans (hb5.mono (by omega))).mono (by omega))) (Nat.le_refl _);have OX:Hid (mh p ((((w5.setCell ⟨p,0,none⟩ (.bool false)).setCell ⟨p,1,none⟩ (.slice none 0 0)).setCell ⟨p,2,none⟩ (.slice ak nk ck)).setCell ⟨p,3,none⟩ (.slice az nz cz)) (.slice none 0 0) (.slice ak nk ck) (.slice az nz cz) (mS k0 out)):=by
      have:=mh.fo (q:=p) (a:=.bool false) (b:=.slice none 0 0) (c:=.slice ak nk ck) (d:=.slice az nz cz) (NW.out.below hb5) (by omega);exact this.mono (by omega)
     clear K1 k1 k5 ZH hb5 BW NW c0 c1 c2 c3;go_wp2
     (try simp only[Exit.inBlock,Exit.then])
     clear d0 d1 d2 d3 f0 f1 f2 f3 g0 g1 g2 g3;generalize World.setCell _ _ _=X at*;obtain⟨k0,k1,k2,k3⟩:=KX.four;refine bodyPost_ret (v:=.tuple #[.agg #[.bool false,.slice none 0 0,.slice ak nk ck,.slice az nz cz],.int .i64 0]) ?_ rfl ⟨_,_,_,by rw[R1.out,R2.out];rfl,by rw[R1.out,HP.out];exact OX.out,by rw[HP.out];exact BX.out⟩;rw[aL rfl];go_simp
    |false=>
     rw[hr,if_neg (by simp)]at G;rw[hr]at CR;obtain⟨r1,r2⟩:=iV G.out;have R1:Hid _:=r1;have R2:Hid _:=r2;clear r1 r2 hr G
     go_wp2_with (first| (go_at_call 110;refine Calls.mono CE.out ?_;rintro e w' ⟨rfl,rfl⟩)| (go_at_call 111;refine Calls.mono CL.out ?_;rintro e w' ⟨rfl,rfl⟩)| (go_at_call 82;refine Calls.mono CN.out ?_;rintro e w' ⟨rfl,rfl⟩))
     refine Calls.mono CR.out ?_;rintro e w5 ⟨rfl,hb5⟩;have k5:=k1.on hb5;obtain⟨f0,f1,f2,f3⟩:=k5.four;obtain⟨g0,g1,g2,g3⟩:=k5.thaw;have KX:Cl ((((w5.setCell ⟨p,0,none⟩ (.bool false)).setCell ⟨p,1,none⟩ (.slice none 0 0)).setCell ⟨p,2,none⟩ (.slice none 0 0)).setCell ⟨p,3,none⟩ (.slice none 0 0)) p #[.bool false,.slice none 0 0,.slice none 0 0,.slice none 0 0] 184:=k5.fo _ _ _ _;have BX:Hid (Below p w ((((w5.setCell ⟨p,0,none⟩ (.bool false)).setCell ⟨p,1,none⟩ (.slice none 0 0)).setCell ⟨p,2,none⟩ (.slice none 0 0)).setCell ⟨p,3,none⟩ (.slice none 0 0))):=cU (BW.trans ((HB.out.trans (hb5.mono (by omega))).mono (by omega))) (Nat.le_refl _);clear K1 k1 k5 hb5 BW NW c0 c1 c2 c3;go_wp2
     (try simp only[Exit.inBlock,Exit.then])
     clear f0 f1 f2 f3 g0 g1 g2 g3;generalize World.setCell _ _ _=X at*;obtain⟨k0,k1,k2,k3⟩:=KX.four;refine bodyPost_ret (v:=.tuple #[.agg #[.bool false,.slice none 0 0,.slice none 0 0,.slice none 0 0],.int .i64 3]) ?_ rfl ⟨_,_,_,by rw[R1.out,R2.out];rfl,by rw[R1.out];exact mh.zero _ _,by rw[HP.out];exact BX.out⟩;rw[aL rfl];go_simp
   ·have hs1:(0:Int)< (s.size:Int):=by omega
    obtain⟨k1,k2⟩:=UZ s hs0;have f1:=AX s 0;obtain⟨T1,hT1⟩:∃T1,a8 s 0=T1:=⟨_,rfl⟩;rw[hT1]at k1 k2 f1;obtain⟨kk,s1,e1⟩:=T1
    (try dsimp only at k1 k2 f1)
    obtain⟨T2,QC⟩:∃T2,bn s1 e1 4=T2:=⟨_,rfl⟩;rw[QC]at k1 k2;obtain⟨vv,s2,e2⟩:=T2
    (try dsimp only at k1 k2)
    have ZI:Hid (a8 s 0=(kk,s1,e1)):=hT1;have HD2:Hid _:=HD.out.next hs0 k2;have TT:Hid (bn s1 e1 4=(vv,s2,e2)):=QC;clear hT1 QC k2 HD;obtain⟨o2,ho2⟩:∃x,out++[(kk,vv)]=x:=⟨_,rfl⟩;have l2:o2.length=out.length+1:=by rw[<-ho2];simp
    have m1:Hid (out.map (·.1)++[kk]=o2.map (·.1)):=by show _=_;rw[<-ho2,ML]
    have m2:Hid ((k0::out.map (·.2))++[vv]=k0::o2.map (·.2)):=by show _=_;rw[<-ho2,MN]
    have HZ2:Hid (bW (o2.map (·.1))<=245*o2.length):=by
     show _<=_;have:=HZ.out;rw[<-m1.out,dE,l2];have:bW [kk]=5+kk.size:=by simp[bW]
     omega
    rw[ho2]at HD2;clear ho2 HZ
    go_upto_region 4 with(first| (go_at_call 110;refine Calls.mono CE.out ?_;rintro e w' ⟨rfl,rfl⟩)| (go_at_call 111;refine Calls.mono CL.out ?_;rintro e w' ⟨rfl,rfl⟩))
    clear CE CL;have LS:Hid ((out.map (·.1)).length<100000):=by show _<_;simp;omega
    have l3:Hid ((k0::out.map (·.2)).length<100000):=by show _<_;simp;omega
    have ZJ:Hid (out.map (·.1)++[kk]=o2.map (·.1)):=m1;clear m1;have hqr:q≠rb:=by omega
    have ez:decide (0<s.size)=true:=decide_eq_true (by omega);simp only[ez];clear ez;have ST:Hid (iW W rb q ak nk ck az nz cz (k0::out.map (·.2)) (out.map (·.1)) s s1 0 e1 false false wr.drew):=⟨HQ.out,HB.out.drew,HI.out,⟨HR.out.blk,HR.out.sz⟩,fun _=>HO.out,hqr⟩;refine bf 7 (X7 W rb q ak nk ck az nz cz (k0::out.map (·.2)) (out.map (·.1)) s s1 0 e1 kk (o2.map (·.1))) (by kernel_rfl) (by kernel_rfl) (by kernel_rfl) (fun _ k=>k rfl ST.out ar ar ar ar ar ar ar) ?_ ?_ ?_
    ·intro i w' hne f0 f1 f2 f3 f4 f5 f6 f7 x20 j8 lU kW x24 x25 sO e7 hB h0 h1 h2 h3 h4 h5 h6 hi;obtain⟨hlt,hun,_⟩:=aP hi;have hlt':i<8:=hlt;clear hlt;rcases(by omega:i=0∨i=1∨i=2∨i=3∨i=4∨i=5∨i=6)with rfl|rfl|rfl|rfl|rfl|rfl|rfl
     ·refine ai rfl fun K HK=>?_;go_simp;exact HK.out _ _ fun _ k=>by apply k<;>first|assumption|exact hidR|(repeat' first|apply Exists.intro|assumption|rfl|apply And.intro|exact fun _=>rfl)
     ·cases h0 (ah 0 hi (by kernel_rfl));obtain⟨i0,i1,i2,i3⟩:=hB.k.four;refine ai rfl fun K HK=>?_;go_simp;exact HK.out _ _ fun _ k=>by apply k<;>first|assumption|exact hidR|(repeat' first|apply Exists.intro|assumption|rfl|apply And.intro|exact fun _=>rfl)
     ·refine ai rfl fun K HK=>?_;go_simp;exact HK.out _ _ fun _ k=>by apply k<;>first|assumption|exact hidR|(repeat' first|apply Exists.intro|assumption|rfl|apply And.intro|exact fun _=>rfl)
     ·have un:f3=false:=hun;cases h2 (ah 2 hi (by kernel_rfl));refine ai rfl fun K HK=>?_;go_simp;refine Calls.mono (by
        have hr:=hB.r
        rw[un]at hr
        have hh:=nR rb s 0 w' hr
        rw[ZI.out]at hh
        exact hh) ?_
      rintro e w1 ⟨rfl,r1,o1⟩;exact HK.out _ _ fun _ k=>k e7 (hB.read r1 o1 un) h0 h1 h2 hidR (fun d t=>by have e:=(h4.out d t).1;rw[un]at e;cases e) (fun d=>by have e:=(h5.out d).1;rw[un]at e;cases e) h6
     ·have d3:f3=true:=ah 3 hi (by kernel_rfl);cases h3 d3;refine ai rfl fun K HK=>?_;go_simp;exact HK.out _ _ fun _ k=>k e7 (hB.lay _) h0 h1 h2 h3 (fun _ _=>⟨d3,_,rfl,Cl.new _ _ _⟩) (fun d=>let⟨n0,ao,n,c,e,o⟩:=h5.out d;⟨n0,ao,n,c,e,ownsRow_below o (aq _ (Below.refl _ _))⟩) h6
     ·have un:f5=false:=hun;have d3:f3=true:=ah 3 hi (by kernel_rfl);cases h3 d3;cases h1 (ah 1 hi (by kernel_rfl));have d4:f4=true:=ah 4 hi (by kernel_rfl);obtain⟨_,q4,y4,c4⟩:=h4.out d4 un;subst y4;refine ai rfl fun K HK=>?_;refine X6 _ _ rfl (rb+1) _ _ rfl (hB.o un) q4 _ _ rfl c4 LS.out hB.z _ ZJ.out ?_;intro ao nn cc w1 P1 Q1 T1 D1;go_simp;exact HK.out _ _ fun _ k=>k e7 (hB.grow Q1 T1 D1) h0 h1 h2 h3 (fun _ t=>by cases t) (fun _=>⟨d3,ao,nn,cc,rfl,P1⟩) h6
     ·refine ai rfl fun K HK=>?_;go_simp;exact HK.out _ _ fun _ k=>by apply k<;>first|assumption|exact hidR|(repeat' first|apply Exists.intro|assumption|rfl|apply And.intro|exact fun _=>rfl)
    ·intro w' f0 f1 f2 f3 f4 f5 f6 f7 x20 j8 lU kW x24 x25 sO e7 hB h0 h1 h2 h3 h4 h5 h6 hi;have d5:f5=true:=ah 5 hi (by kernel_rfl);obtain⟨u3,a5,n5,m5,rfl,o5⟩:=h5.out d5;have d6:f6=true:=ah 6 hi (by kernel_rfl);cases h6 d6;clear hi;obtain⟨i0,i1,i2,i3⟩:=hB.k.four;obtain⟨g0,g1,g2,g3⟩:=hB.k.thaw;refine ai rfl fun K HK=>?_;go_simp;refine HK.out _ _ ?_;have X9:=u3;subst X9;have ST:Hid (iX W rb q ak nk ck a5 n5 m5 (k0::out.map (·.2)) (o2.map (·.1)) s1 s2 e1 e2 false false (w'.setCell ⟨q,3,none⟩ (.slice a5 n5 m5)).drew):=⟨hB.k.set 3 _,(hB.b.setCell (p:=⟨q,3,none⟩) (show rb<=q by omega) _).drew,CV o5 hB.k (by decide),⟨CW hB.r.cl hB.ne _,hB.r.sz⟩,fun _=>CV hB.other hB.k (by decide),hB.ne⟩;have TX:Hid (bn s1 e1 4=(vv,s2,e2)):=TT;have LL:Hid ((k0::out.map (·.2)).length<100000):=l3;have LM:Hid ((k0::out.map (·.2))++[vv]=k0::o2.map (·.2)):=m2;clear hB o5 h0 h1 h2 h3 h4 h5 h6 LS ZI ZJ TT m2
     go_upto_region 5 with fail
     clear i0 i1 i2 i3 g0 g1 g2 g3;generalize World.setCell _ _ _=w6 at*;generalize a5=b5 at*;generalize n5=k5 at*;generalize m5=Ws at*;refine bf 7 (X8 W rb q ak nk ck b5 k5 Ws (k0::out.map (·.2)) (o2.map (·.1)) s1 s2 e1 e2 vv (k0::o2.map (·.2))) (by kernel_rfl) (by kernel_rfl) (by kernel_rfl) (fun _ k=>k rfl ST.out ar ar ar ar ar ar ar) ?_ ?_ ?_
     ·intro i w' hne f0 f1 f2 f3 f4 f5 f6 f7 x27 x28 x29 x30 x31 x32 H0 e7 hB h0 h1 h2 h3 h4 h5 h6 hi;obtain⟨hlt,hun,_⟩:=aP hi;have hlt':i<8:=hlt;clear hlt;rcases(by omega:i=0∨i=1∨i=2∨i=3∨i=4∨i=5∨i=6)with rfl|rfl|rfl|rfl|rfl|rfl|rfl
      ·refine ai rfl fun K HK=>?_;go_simp;exact HK.out _ _ fun _ k=>by apply k<;>first|assumption|exact hidR|(repeat' first|apply Exists.intro|assumption|rfl|apply And.intro|exact fun _=>rfl)
      ·cases h0 (ah 0 hi (by kernel_rfl));obtain⟨i0,i1,i2,i3⟩:=hB.k.four;refine ai rfl fun K HK=>?_;go_simp;exact HK.out _ _ fun _ k=>by apply k<;>first|assumption|exact hidR|(repeat' first|apply Exists.intro|assumption|rfl|apply And.intro|exact fun _=>rfl)
      ·refine ai rfl fun K HK=>?_;go_simp;exact HK.out _ _ fun _ k=>by apply k<;>first|assumption|exact hidR|(repeat' first|apply Exists.intro|assumption|rfl|apply And.intro|exact fun _=>rfl)
      ·have un:f3=false:=hun;cases h2 (ah 2 hi (by kernel_rfl));refine ai rfl fun K HK=>?_;go_simp;refine Calls.mono (by
         have hr:=hB.r
         rw[un]at hr
         have hh:=jm rb s1 e1 4 w' hr
         rw[TX.out]at hh
         exact hh) ?_
       rintro e w1 ⟨rfl,r1,o1⟩;exact HK.out _ _ fun _ k=>k e7 (hB.read r1 o1 un) h0 h1 h2 hidR (fun d t=>by have e:=(h4.out d t).1;rw[un]at e;cases e) (fun d=>by have e:=(h5.out d).1;rw[un]at e;cases e) h6
      ·have d3:f3=true:=ah 3 hi (by kernel_rfl);cases h3 d3;refine ai rfl fun K HK=>?_;go_simp;exact HK.out _ _ fun _ k=>k e7 (hB.lay _) h0 h1 h2 h3 (fun _ _=>⟨d3,_,rfl,Cl.new _ _ _⟩) (fun d=>let⟨n0,ao,n,c,e,o⟩:=h5.out d;⟨n0,ao,n,c,e,ownsRow_below o (aq _ (Below.refl _ _))⟩) h6
      ·have un:f5=false:=hun;have d3:f3=true:=ah 3 hi (by kernel_rfl);cases h3 d3;cases h1 (ah 1 hi (by kernel_rfl));have d4:f4=true:=ah 4 hi (by kernel_rfl);obtain⟨_,q4,y4,c4⟩:=h4.out d4 un;subst y4;refine ai rfl fun K HK=>?_;refine X5 _ _ rfl (rb+1) _ _ rfl (hB.o un) q4 _ _ rfl c4 LL.out hB.z _ LM.out ?_;intro ao nn cc w1 P1 Q1 T1 D1;go_simp;exact HK.out _ _ fun _ k=>k e7 (hB.grow Q1 T1 D1) h0 h1 h2 h3 (fun _ t=>by cases t) (fun _=>⟨d3,ao,nn,cc,rfl,P1⟩) h6
      ·refine ai rfl fun K HK=>?_;go_simp;exact HK.out _ _ fun _ k=>by apply k<;>first|assumption|exact hidR|(repeat' first|apply Exists.intro|assumption|rfl|apply And.intro|exact fun _=>rfl)
     ·intro w' f0 f1 f2 f3 f4 f5 f6 f7 x27 x28 x29 x30 x31 x32 H0 e7 hB h0 h1 h2 h3 h4 h5 h6 hi;have d5:f5=true:=ah 5 hi (by kernel_rfl);obtain⟨u3,a5,n5,m5,rfl,o5⟩:=h5.out d5;have d6:f6=true:=ah 6 hi (by kernel_rfl);cases h6 d6;clear hi;obtain⟨i0,i1,i2,i3⟩:=hB.k.four;obtain⟨g0,g1,g2,g3⟩:=hB.k.thaw;refine ai rfl fun K HK=>?_;go_simp;refine HK.out _ _ ?_;have X9:=u3;subst X9;have KQ9:Aside (Cl (w'.setCell ⟨q,2,none⟩ (.slice a5 n5 m5)) q #[.bool false,.slice none 0 0,.slice a5 n5 m5,.slice b5 k5 Ws] 184):=hB.k.set 2 _;have R9:Hid (Rd rb s2 e2 (w'.setCell ⟨q,2,none⟩ (.slice a5 n5 m5))):=hB.r.of (CW hB.r.cl hB.ne _);have S9:Aside (cH (rb+1) (w'.setCell ⟨q,2,none⟩ (.slice a5 n5 m5)) (.slice b5 k5 Ws) (o2.map (·.1))):=CV hB.other hB.k (by decide);have I9:Aside (dP (rb+1) (w'.setCell ⟨q,2,none⟩ (.slice a5 n5 m5)) (.slice a5 n5 m5) (k0::o2.map (·.2))):=CV o5 hB.k (by decide);have B9:Hid (Below rb W (w'.setCell ⟨q,2,none⟩ (.slice a5 n5 m5))):=hB.b.setCell (p:=⟨q,2,none⟩) (show rb<=q by omega) _;clear hB o5 h0 h1 h2 h3 h4 h5 h6 i0 i1 i2 i3 g0 g1 g2 g3;generalize World.setCell _ _ _=w9 at*;go_wp2
      go_roundg s2.size
      case measure=>omega
      case rel=>exact⟨a5,n5,m5,b5,k5,Ws,o2,s2,e2,by omega,by omega,HZ2,R9,HD2,KQ9,I9,S9,B9⟩
     ·intro _ _;intros;assumption
    ·intro _ _;intros;assumption
  ·have CN:Hid _:=mq rb s e wr HR.out;have en:eO s e=e:=by simp[eO,he]
   rw[en]at CN;obtain⟨r1,r2⟩:=iV (HD.out.bad he hS);have R1:Hid _:=r1;have R2:Hid _:=r2;have e1:(e==0)=false:=beq_eq_false_iff_ne.2 he;have e2:(e != 0)=true:=by rw[bne_iff_ne];exact he
   have k5:=U0 K1 HB.out (by omega);obtain⟨f0,f1,f2,f3⟩:=k5.four;obtain⟨g0,g1,g2,g3⟩:=k5.thaw;have KX:Cl ((((wr.setCell ⟨p,0,none⟩ (.bool false)).setCell ⟨p,1,none⟩ (.slice none 0 0)).setCell ⟨p,2,none⟩ (.slice none 0 0)).setCell ⟨p,3,none⟩ (.slice none 0 0)) p #[.bool false,.slice none 0 0,.slice none 0 0,.slice none 0 0] 184:=k5.fo _ _ _ _;have BX:Hid (Below p w ((((wr.setCell ⟨p,0,none⟩ (.bool false)).setCell ⟨p,1,none⟩ (.slice none 0 0)).setCell ⟨p,2,none⟩ (.slice none 0 0)).setCell ⟨p,3,none⟩ (.slice none 0 0))):=cU (BW.trans (HB.out.mono (by omega))) (Nat.le_refl _);clear r1 r2 en HD he K1 k5 BW HI HO HQ HZ
   go_wp2_with (first| (go_at_call 110;refine Calls.mono CE.out ?_;rintro e w' ⟨rfl,rfl⟩)| (go_at_call 82;refine Calls.mono CN.out ?_;rintro e w' ⟨rfl,rfl⟩))
   (try simp only[Exit.inBlock,Exit.then])
   clear f0 f1 f2 f3 g0 g1 g2 g3;generalize World.setCell _ _ _=X at*;obtain⟨k0,k1,k2,k3⟩:=KX.four;refine bodyPost_ret (v:=.tuple #[.agg #[.bool false,.slice none 0 0,.slice none 0 0,.slice none 0 0],.int .i64 3]) ?_ rfl ⟨_,_,_,by rw[R1.out,R2.out];rfl,by rw[R1.out];exact mh.zero _ _,by rw[HP.out];exact BX.out⟩;rw[aL rfl];go_simp
end
section
theorem CX:(∀(kind:Int) (S:ByteArray) (w:World) (hS0:S.size<=maxLen) (hS:240<S.size),Calls Tryz.prog 150 #[.int .u8 kind,.string S] w (OS w kind S.data.toList))∧
  (∀(kind:Int) (S:ByteArray) (w:World) (hS0:S.size<=maxLen) (hS:S.size<=240) (h1:kind≠1) (h2:kind≠2),Calls Tryz.prog 150 #[.int .u8 kind,.string S] w (OS w kind S.data.toList)):=by
 and_intros
 have jk:=trivial
 rotate_left
 have fu:=trivial
 rotate_left
 all_goals
  first
   |have zz:=fu
    intro kind S w hS0 hS h1 h2
   |intro kind S w hS0 hS
  unfold maxLen at hS0;have BW:Below w.heap.size w (w.alloc (.cells #[.bool false,.slice none 0 0,.slice none 0 0,.slice none 0 0] 184)):=aq _ (Below.refl _ _);have K1:Cl (w.alloc (.cells #[.bool false,.slice none 0 0,.slice none 0 0,.slice none 0 0] 184)) w.heap.size #[.bool false,.slice none 0 0,.slice none 0 0,.slice none 0 0] 184:=Cl.lT _ _ _;have sz:w.heap.size< (w.alloc (.cells #[.bool false,.slice none 0 0,.slice none 0 0,.slice none 0 0] 184)).heap.size:=by simp
  go_enter Tryz.func150,Tryz.ntmps150
  go_upto_region 1 with fail
  generalize World.alloc _ _=W at*;obtain⟨p,hp⟩:∃p,w.heap.size=p:=⟨_,rfl⟩;have HP:Hid (w.heap.size=p):=hp;rw[hp]at K1 BW sz⊢;clear hp
  first
   |have zz:=jk
    obtain⟨r1,r2⟩:=iV (Iq (k:=kind) (s:=S.data.toList) (by rw[<-Lib.size_eq];exact hS))
   |obtain⟨r1,r2⟩:=iV (EJ (s:=S.data.toList) h1 h2)
  have R1:Hid _:=r1;have R2:Hid _:=r2;clear r1 r2
  first
   |have zz:=fu
    have hSz:¬(240:Int)< (S.size:Int):=by omega
    have e1:(kind==1)=false:=beq_eq_false_iff_ne.2 h1;have e2:(kind==2)=false:=beq_eq_false_iff_ne.2 h2
   |have hSz:(240:Int)< (S.size:Int):=by omega
  obtain⟨c0,c1,c2,c3⟩:=K1.four;obtain⟨g0,g1,g2,g3⟩:=K1.thaw;have KX:Cl ((((W.setCell ⟨p,0,none⟩ (.bool false)).setCell ⟨p,1,none⟩ (.slice none 0 0)).setCell ⟨p,2,none⟩ (.slice none 0 0)).setCell ⟨p,3,none⟩ (.slice none 0 0)) p #[.bool false,.slice none 0 0,.slice none 0 0,.slice none 0 0] 184:=K1.fo _ _ _ _;have BX:Hid (Below p w ((((W.setCell ⟨p,0,none⟩ (.bool false)).setCell ⟨p,1,none⟩ (.slice none 0 0)).setCell ⟨p,2,none⟩ (.slice none 0 0)).setCell ⟨p,3,none⟩ (.slice none 0 0))):=cU BW (Nat.le_refl _);clear K1 BW;go_wp2
  (try simp only[Exit.inBlock,Exit.then])
  clear c0 c1 c2 c3 g0 g1 g2 g3;generalize World.setCell _ _ _=X at*;obtain⟨k0,k1,k2,k3⟩:=KX.four;refine bodyPost_ret (v:=.tuple #[.agg #[.bool false,.slice none 0 0,.slice none 0 0,.slice none 0 0],.int .i64 3]) ?_ rfl ⟨_,_,_,by rw[R1.out,R2.out];rfl,by rw[R1.out];exact mh.zero _ _,by rw[HP.out];exact BX.out⟩;rw[aL rfl];go_simp
theorem CY:(∀(kind:Int) (S:ByteArray) (w:World) (hS0:S.size<=maxLen) (hk:kind=1) (hS:S.size<=240),Calls Tryz.prog 150 #[.int .u8 kind,.string S] w (OS w kind S.data.toList))∧
  (∀(kind:Int) (S:ByteArray) (w:World) (hS0:S.size<=maxLen) (hk:kind=2) (hS:S.size<=240),Calls Tryz.prog 150 #[.int .u8 kind,.string S] w (OS w kind S.data.toList)):=by
 and_intros
 have jk:=trivial
 rotate_left
 have fu:=trivial
 rotate_left
 all_goals
  intro kind S w hS0 hk hS;unfold maxLen at hS0;have BW:Below w.heap.size w (w.alloc (.cells #[.bool false,.slice none 0 0,.slice none 0 0,.slice none 0 0] 184)):=aq _ (Below.refl _ _);have K1:Cl (w.alloc (.cells #[.bool false,.slice none 0 0,.slice none 0 0,.slice none 0 0] 184)) w.heap.size #[.bool false,.slice none 0 0,.slice none 0 0,.slice none 0 0] 184:=Cl.lT _ _ _;have sz:w.heap.size< (w.alloc (.cells #[.bool false,.slice none 0 0,.slice none 0 0,.slice none 0 0] 184)).heap.size:=by simp
  subst hk
  first
   |have zz:=fu
    have C:Hid _:=yU S (w.alloc (.cells #[.bool false,.slice none 0 0,.slice none 0 0,.slice none 0 0] 184)) hS
   |have C:Hid _:=AY S (w.alloc (.cells #[.bool false,.slice none 0 0,.slice none 0 0,.slice none 0 0] 184)) hS
  go_enter Tryz.func150,Tryz.ntmps150
  go_upto_region 1 with fail
  generalize World.alloc _ _=W at*;have hSz:¬(240:Int)< (S.size:Int):=by omega
  obtain⟨p,hp⟩:∃p,w.heap.size=p:=⟨_,rfl⟩;have HP:Hid (w.heap.size=p):=hp;rw[hp]at K1 BW sz⊢;clear hp
  go_wp2_with fail
  refine Calls.mono C.out ?_;rintro e w1 ⟨ve,vk,vs,rfl,o1,b1⟩;clear C
  first
   |have zz:=jk
    obtain⟨dn,hdn⟩:∃x,tS 1 S.data.toList=x:=⟨_,rfl⟩
   |obtain⟨dn,hdn⟩:∃x,tS 2 S.data.toList=x:=⟨_,rfl⟩
  have HD:Hid _:=hdn;rw[hdn]at o1;simp only[hdn];clear hdn
  first
   |have zz:=jk
    obtain⟨er,her⟩:∃x,kV (uM 1 S.data.toList)=x:=⟨_,rfl⟩;have ER:Hid (kV (uM 1 S.data.toList)=er):=her
   |obtain⟨er,her⟩:∃x,kV (uM 2 S.data.toList)=x:=⟨_,rfl⟩
    have ER:Hid (kV (uM 2 S.data.toList)=er):=her
  simp only[her];clear her;obtain⟨ae,ce,rfl,_⟩:=aF o1.r.e;obtain⟨ak,ck,rfl,_⟩:=aF o1.r.k;obtain⟨az,cz,rfl,_⟩:=aF o1.r.s;have K2:=K1.on b1;obtain⟨c0,c1,c2,c3⟩:=K2.four;obtain⟨g0,g1,g2,g3⟩:=K2.thaw;have KX:Cl ((((w1.setCell ⟨p,0,none⟩ (.bool dn.leaf)).setCell ⟨p,1,none⟩ (.slice ae dn.es.length ce)).setCell ⟨p,2,none⟩ (.slice ak dn.ks.length ck)).setCell ⟨p,3,none⟩ (.slice az dn.ss.length cz)) p #[.bool dn.leaf,.slice ae dn.es.length ce,.slice ak dn.ks.length ck,.slice az dn.ss.length cz] 184:=K2.fo _ _ _ _;have BX:Hid (Below p w ((((w1.setCell ⟨p,0,none⟩ (.bool dn.leaf)).setCell ⟨p,1,none⟩ (.slice ae dn.es.length ce)).setCell ⟨p,2,none⟩ (.slice ak dn.ks.length ck)).setCell ⟨p,3,none⟩ (.slice az dn.ss.length cz))):=cU (BW.trans (b1.mono (by omega))) (Nat.le_refl _);have OX:Hid (mh p ((((w1.setCell ⟨p,0,none⟩ (.bool dn.leaf)).setCell ⟨p,1,none⟩ (.slice ae dn.es.length ce)).setCell ⟨p,2,none⟩ (.slice ak dn.ks.length ck)).setCell ⟨p,3,none⟩ (.slice az dn.ss.length cz)) (.slice ae dn.es.length ce) (.slice ak dn.ks.length ck) (.slice az dn.ss.length cz) dn):=(mh.fo o1 sz).mono (by omega);clear K1 K2 BW o1 b1;go_wp2
  (try simp only[Exit.inBlock,Exit.then])
  clear c0 c1 c2 c3 g0 g1 g2 g3;generalize World.setCell _ _ _=X at*;obtain⟨k0,k1,k2,k3⟩:=KX.four;refine bodyPost_ret (v:=.tuple #[.agg #[.bool dn.leaf,.slice ae dn.es.length ce,.slice ak dn.ks.length ck,.slice az dn.ss.length cz],.int .i64 er]) ?_ rfl ⟨_,_,_,by rw[HD.out,ER.out],by rw[HD.out,HP.out];exact OX.out,by rw[HP.out];exact BX.out⟩;rw[aL rfl];go_simp
theorem kg (kind:Int)(S:ByteArray)(w:World)(hS:S.size<=maxLen):Calls Tryz.prog 150 #[.int .u8 kind,.string S] w (OS w kind S.data.toList):=by
 by_cases h:240<S.size
 ·exact CX.1 kind S w hS h
 ·by_cases h1:kind=1
  ·exact CY.1 kind S w hS h1 (by omega)
  ·by_cases h2:kind=2
   ·exact CY.2 kind S w hS h2 (by omega)
   ·exact CX.2 kind S w hS (by omega) h1 h2
end
section
theorem kL (l:List En):2*l.length<=cP l:=by
 induction l with
 |nil=>simp
 |cons x l ih=>
  have:cP (x::l)=k8 x+cP l:=rfl;rw[this];unfold k8;simp only[List.length_cons];omega
theorem kM (l:List ByteArray):5*l.length<=bW l:=by
 induction l with
 |nil=>simp
 |cons x l ih=>
  have:bW (x::l)=5+x.size+bW l:=rfl;rw[this];simp only[List.length_cons];omega
theorem Da {n:Nd}(h:dx n=true)(hs:dZ n<=240):Sm n:=by
 have a:=kL n.es;have b:=kM n.ss;unfold dZ at hs;cases hl:n.leaf
 ·rw[hl,if_neg (by simp)]at hs;obtain⟨h1,_,h3,_⟩:=(fE hl).1 h;exact⟨by rw[h1];simp,by omega,by omega,by rw[h1];simp[cP],by omega⟩
 ·rw[hl,if_pos rfl]at hs;obtain⟨h1,h2,_⟩:=(fR hl).1 h;exact⟨by omega,by rw[h1];simp,by rw[h2];simp,by omega,by rw[h2];simp[bW]⟩
theorem U4 {n:Nd}(h:dx n=true)(hs:dZ n<=240):tS (nO n) (kK n).data.toList=n∧uM (nO n) (kK n).data.toList=true∧(kK n).size=dZ n∧(kK n).size<=240:=by
 obtain⟨a,b,_⟩:=Im h hs;have e:(kK n).data.toList=xC n:=by rw[b]
 have z:(kK n).size=dZ n:=by rw[Lib.size_eq,e,ij h]
 rw[a,e];obtain⟨c,d⟩:=mZ (yw h hs);exact⟨c,d,z,by rw[z];exact hs⟩
end
end N
end Go.Proofs.YtdcpfbidcpfboaaGreatDoor
namespace Go.Proofs.YtdcpfbidcpfboaaGreatDoor
section
open Go.RowKit N
def bY (x:TX)(d:Dk)(id:Int)(kind:UInt8):ByteArray×Int:=(x.get d id kind).1
def ug (kind:Int)(s:ByteArray):Nd×Int:=(tS kind s.data.toList,kV (uM kind s.data.toList))
def lf0:Nd:=⟨true,[],[],[]⟩
def dL (x:TX)(d:Dk)(id depth:Int):Nd×Int:=
 if id=0 then(lf0,0)else if 24<=depth then(nd0,3)
 else if(bY x d id 1).2=3 then(if(bY x d id 2).2=0 then ug 2 (bY x d id 2).1 else(nd0,(bY x d id 2).2))
 else if(bY x d id 1).2=0 then ug 1 (bY x d id 1).1 else(nd0,(bY x d id 1).2)
structure Dr where
 x:TX
 nodes:Int->Option Nd
 cnt:Nat
 taken:List Int
 spare:List Int
 bot:Int
def cB (n:Nd):Bool:=decide (n.es.length<=500)&&decide (n.ks.length<=500)&&decide (n.ss.length<=500)&&decide (cP n.es<=100000)&&decide (bW n.ss<=100000)&&n.ks.all fun k=>decide (0<=k∧k<=4294967295)
def Dr.may (S:Dr)(id:Int):Bool:=(S.x.fresh id).isSome&& !S.spare.contains id
def Dr.drop (S:Dr)(id:Int):Dr:=if S.may id=true then⟨S.x,fun q=>if q=id then none else S.nodes q,S.cnt,S.taken,S.spare++[id],S.bot⟩else S
def Dr.set (S:Dr)(id:Int)(n:Nd):Dr:=⟨S.x,fun q=>if q=id then some n else S.nodes q,S.cnt+1,S.taken,S.spare,S.bot⟩
def Dr.took (S:Dr)(room:Nat):Dr:=⟨(S.x.alloc room).2,S.nodes,S.cnt,S.taken++[(S.x.alloc room).1.1],S.spare,S.bot⟩
def Dr.held (S:Dr)(room:Nat):Dr:=⟨(S.x.alloc room).2,S.nodes,S.cnt,S.taken,S.spare,S.bot⟩
def Dr.okB (S:Dr):Bool:=decide (S.cnt<100000)&&decide (S.x.cnt<900000)&&decide (S.taken.length<100000)&&decide (S.spare.length<100000)
def Dr.put (S:Dr)(room:Nat)(id:Int)(n:Nd):Option ((Int×Int)×Dr):=
 if(S.okB&&cE n)=false then none
 else if S.may id=true then some ((id,0),S.set id n)
 else if(S.x.alloc room).1.2=0 then some (((S.x.alloc room).1.1,0),(S.took room).set (S.x.alloc room).1.1 n)
 else some ((0,(S.x.alloc room).1.2),S.held room)
def Dr.fS (S:Dr)(room:Nat)(a b:Int)(n:Nd):Option ((Int×Int)×Dr):=
 if S.okB=false then none else if S.may a=true then(S.drop b).put room a n else(S.drop a).put room b n
def Dr.read (S:Dr)(d:Dk)(id depth:Int):Nd×Int:=if(S.nodes id).isSome=true∧depth<24 then((S.nodes id).getD nd0,0)else dL S.x d id depth
abbrev NE:=Option ((Nd×Int)×Dr)
abbrev ZK:=Option ((Nd×Bool×Int)×Dr)
abbrev qF:=Dr->Nd->Int->Int->Int->NE
def fV (rec:qF)(room:Nat)(d:Dk)(S:Dr)(n:Nd)(depth i first:Int):ZK:=
 if first<0 then some ((n,false,0),S)
 else if(S.read d (n.ks.getD i.toNat 0) (depth+1)).2≠0 then some ((n,false,(S.read d (n.ks.getD i.toNat 0) (depth+1)).2),S)
 else if 80<=dZ (S.read d (n.ks.getD i.toNat 0) (depth+1)).1 then some ((n,false,0),S)
 else if(S.read d (n.ks.getD first.toNat 0) (depth+1)).2≠0 then some ((n,false,(S.read d (n.ks.getD first.toNat 0) (depth+1)).2),S)
 else if(S.read d (n.ks.getD (first.toNat+1) 0) (depth+1)).2≠0 then some ((n,false,(S.read d (n.ks.getD (first.toNat+1) 0) (depth+1)).2),S)
 else if n.ss.length<=first.toNat then none
 else if(S.read d (n.ks.getD first.toNat 0) (depth+1)).1.leaf≠(S.read d (n.ks.getD (first.toNat+1) 0) (depth+1)).1.leaf∨cE (ji (S.read d (n.ks.getD first.toNat 0) (depth+1)).1 (n.ss.getD first.toNat ⟨#[]⟩) (S.read d (n.ks.getD (first.toNat+1) 0) (depth+1)).1)=false then some ((n,false,0),S)
 else match rec S (ji (S.read d (n.ks.getD first.toNat 0) (depth+1)).1 (n.ss.getD first.toNat ⟨#[]⟩) (S.read d (n.ks.getD (first.toNat+1) 0) (depth+1)).1) (depth+1) (((S.read d (n.ks.getD first.toNat 0) (depth+1)).1.ks.length:Int)-1) (((S.read d (n.ks.getD first.toNat 0) (depth+1)).1.ks.length:Int)+1)with
  |none=>none
  |some ((m,e),S1)=>if e≠0 then some ((n,false,e),S1)else match S1.fS room (n.ks.getD first.toNat 0) (n.ks.getD (first.toNat+1) 0) m with
   |none=>none
   |some ((p,e2),S2)=>some ((gp n first (first+2) [p] [],true,e2),S2)
def bh (room:Nat)(d:Dk):Nat->qF
 |0,_,_,_,_,_=>none
 |f+1,S,n,depth,i,tt=>
  if cB n=false∨i<0 then none
  else if i<min tt (n.ks.length:Int)then
   match fV (fun S n depth i tt=>bh room d f S n depth (max i 0) tt) room d S n depth i (min i ((n.ks.length:Int)-2))with
   |none=>none
   |some ((m,j,e),S1)=>if e≠0 then some ((nd0,e),S1)else if j=true then bh room d f S1 m depth (min i ((n.ks.length:Int)-2)) tt else bh room d f S1 n depth (i+1) tt
  else some ((n,0),S)
def bA (room:Nat)(d:Dk)(f:Nat):qF:=fun S n depth i tt=>bh room d f S n depth (max i 0) tt
def bZ (st:qF)(S:Dr)(n:Nd)(depth:Int):Option ((List Nd×List ByteArray×Int)×Dr):=
 if n.es=[]∧n.ks=[]then some (([],[],0),S)
 else if cB n=false then none
 else if dx n=false then some (([],[],3),S)
 else if cE n=true then some (([n],[],0),S)
 else match st S (sA n) depth (((sA n).ks.length:Int)-1) ((sA n).ks.length:Int)with
  |none=>none
  |some ((a,e),S1)=>if e≠0 then some (([],[],e),S1)else if(cE a&&cE (sB n))=true then some (([a,sB n],[sM n],0),S1)else none
def eV (room:Nat):Dr->Int->List Nd->List Int->Option ((List Int×Int)×Dr)
 |S,_,[],ks=>some ((ks,0),S)
 |S,page,n::l,ks=>match S.put room page n with
  |none=>none
  |some ((k,e),S1)=>if e≠0 then some (([],e),S1)else eV room S1 0 l (ks++[k])
def eH (st:qF)(room:Nat)(S:Dr)(n:Nd)(i depth:Int)(was is:Nd):NE:=
 if(S.okB&&cB n&&cB was)=false∨i<0∨(n.ks.length:Int)<=i then none
 else match bZ st S is (depth+1)with
 |none=>none
 |some ((parts,keys,e),S1)=>if e≠0 then some ((nd0,e),S1)else
  match eV room (if parts=[]then S1.drop (n.ks.getD i.toNat 0)else S1) (n.ks.getD i.toNat 0) parts []with
  |none=>none
  |some ((kids,e2),S2)=>if e2≠0 then some ((nd0,e2),S2)
   else if parts.length=1∧dZ was<=dZ is then st S2 (gp n i (i+1) kids keys) depth i (i+1)else st S2 (gp n i (i+1) kids keys) depth (i-1) (i+kids.length+1)
def bB (st:qF)(room:Nat)(d:Dk)(key:ByteArray)(ed:List En->List En):Nat->Dr->Nd->Int->ZK
 |0,_,_,_=>none
 |f+1,S,n,depth=>
  if cB n=false then none
  else if n.leaf=true then some ((⟨true,ed n.es,[],[]⟩,!decide (ed n.es=n.es),0),⟨S.x,S.nodes,S.cnt,S.taken,S.spare,depth⟩)
  else if n.ks.length<=dy n.ss key then none
  else if(S.read d (n.ks.getD (dy n.ss key) 0) (depth+1)).2≠0 then some ((nd0,false,(S.read d (n.ks.getD (dy n.ss key) 0) (depth+1)).2),S)
  else match bB st room d key ed f S (S.read d (n.ks.getD (dy n.ss key) 0) (depth+1)).1 (depth+1)with
  |none=>none
  |some ((is,ch,e),S1)=>if e≠0∨ch=false then some ((nd0,false,e),S1)else
   match eH st room S1 n (dy n.ss key) depth (S.read d (n.ks.getD (dy n.ss key) 0) (depth+1)).1 is with
   |none=>none
   |some ((m,e2),S2)=>some ((m,true,e2),S2)
def dF (d:Dk):Nat->Dr->Int->Int->Option ((Int×Int)×Dr)
 |0,S,_,_=>some ((0,3),S)
 |f+1,S,id,depth=>
  if S.okB=false then none
  else if(S.read d id depth).2≠0 then some ((0,(S.read d id depth).2),S)
  else if(S.read d id depth).1.ks.length=1 then dF d f (S.drop id) ((S.read d id depth).1.ks.getD 0 0) (depth+1)
  else if 24<=S.bot-depth then some ((0,3),S)
  else some ((id,0),S)
def aI (x:TX)(l:List Int):TX:=l.foldl (fun x id=>x.drop id) x
def cL (nodes:Int->Option Nd):TX->List Int->TX
 |x,[]=>x
 |x,id::l=>cL nodes (x.put id (nO ((nodes id).getD nd0)).toNat.toUInt8 (kK ((nodes id).getD nd0))).2 l
def fh (x:TX):Dr:=⟨x,fun _=>none,0,[],[],0⟩
end
end Go.Proofs.YtdcpfbidcpfboaaGreatDoor
namespace Go.Proofs.YtdcpfbidcpfboaaGreatDoor
open Go.Shelf Go.RowKit Go.Lib Go.Sort
section
theorem nY.at {w:World}{ao:Option Addr}{n c:Nat}{ids:List Int}(h:nY w (.slice ao n c) ids){i:Nat}(hi:i<ids.length):∃r o,ao=some ⟨r,o,none⟩∧r<w.heap.size∧w.cell? ⟨r,o+i,none⟩=some (.int .i64 (ids.getD i 0)):=by
 obtain⟨dJ,c',e,h1⟩:=h;cases e;obtain⟨r,o,e2,hr,hc⟩:=h1 (by intro e;rw[e]at hi;simp at hi);exact⟨r,o,e2,hr,hc i hi⟩
def jE (w:World)(l:List Pr)(e:Ending)(w':World):Prop:=∃ao n c,e=.returned (.slice ao n c)∧Own aG 2 w.heap.size w' (.slice ao n c) l∧Below w.heap.size w w'
theorem uT {w:World}{l:List Pr}{e:Ending}{w':World}(h:∃v',e=.returned v'∧Own aG 2 w.heap.size w' v' l∧Below w.heap.size w w'):jE w l e w':=by
 obtain⟨v',rfl,ho,hb⟩:=h;obtain⟨ao,c,rfl,_⟩:=id ho;exact⟨ao,_,c,rfl,ho,hb⟩
def gG (v:Value)(s:List Pr):aN:=fun w X=>Own aG 2 0 w v s∧∀k,X k↔s≠[]∧∃o n c,v=.slice (some ⟨k,o,none⟩) n c
theorem gT (v:Value)(s:List Pr):Good (gG v s):=
 ⟨fun w w' X h hk hs=>by
  obtain⟨⟨ao,cap,e,h1,h2,h3⟩,hX⟩:=h
  refine⟨⟨ao,cap,e,h1,h2,fun hne=>?_⟩,hX⟩
  obtain⟨b,off,e2,hb0,hb,hH⟩:=h3 hne
  subst e2 e
  have hb2:=hk b ((hX b).2 ⟨hne,off,_,_,rfl⟩)
  refine⟨b,off,rfl,hb0,Nat.lt_of_lt_of_le hb hs,fun t ht=>⟨(World.cell?_of_block (a:=⟨b,off+t,none⟩) hb2).trans (hH t ht).1,?_⟩⟩
  have:=(hH t ht).2
  simp only[World.frozen?,hb2]at this⊢
  exact this,fun w X h k hk=>by
  obtain⟨hne,o,n,c,e⟩:=(h.2 k).1 hk
  obtain⟨ao,cap,e1,_,_,h3⟩:=h.1
  obtain⟨b,off,e2,_,hb,_⟩:=h3 hne
  rw[e1,e2]at e
  cases e
  exact hb⟩
section
variable {B:Nat}{w0 w w':World}{l:List aN}{v:Value}{s:List Pr}
theorem Sep.free (h:Sep B w0 w (gG v s::l)):Own aG 2 0 w v s:=by
 obtain⟨_,_,Y,⟨_,X,_,ha,_⟩,_⟩:=h;exact ha.1
theorem Sep.Db (h:Sep B w0 w l)(hb:Below w.heap.size w w')(o:Own aG 2 w.heap.size w' v s):Sep B w0 w' (gG v s::l):=
 h.add hb (gT _ _) (X:=fun k=>s≠[]∧∃o n c,v=.slice (some ⟨k,o,none⟩) n c) ⟨o.mono (Nat.zero_le _),fun _=>Iff.rfl⟩ (fun k hk=>by
  obtain⟨hne,o',n,c,e⟩:=hk
  obtain⟨ao,cap,e1,_,_,h3⟩:=o
  obtain⟨b,off,e2,hb,_⟩:=h3 hne
  rw[e1,e2]at e
  cases e
  exact hb)
theorem wM (r:Pr)(s:List Pr):(flatK aG 2 (r::s).toArray)[0]! =.int .i64 r.1:=by
 rw[get_flatK _ _ _ _ (by simp)];rfl
theorem wN (r:Pr)(s:List Pr):(flatK aG 2 (r::s).toArray)[1]! =.int .i64 r.2:=by
 rw[get_flatK _ _ _ _ (by simp;omega)];rfl
theorem EN {a a' b:Int}{s:List Pr}{t:Nat}(h0:t≠0)(ht:t< (s.length+1)*2):(flatK aG 2 ((a',b)::s).toArray)[t]! =(flatK aG 2 ((a,b)::s).toArray)[t]! :=by
 by_cases h1:t=1
 ·subst h1;rw[wN,wN]
 ·rw[get_flatK _ _ _ _ (by simpa using ht),get_flatK _ _ _ _ (by simpa using ht)];obtain⟨q,hq⟩:∃q,t/2=q+1:=⟨t/2-1,by omega⟩;have e:(((a',b)::s).toArray)[q+1]! =(((a,b)::s).toArray)[q+1]! :=by
   rw[getElem!_pos _ _ (by simp;omega),getElem!_pos _ _ (by simp;omega)];simp
  rw[hq,e]
theorem row_one {W:World}{q:Nat}{a b:Int}(h:Cl W q #[.int .i64 a,.int .i64 b] 123):Row aG 2 W (.slice (some ⟨q,0,none⟩) 1 1) [(a,b)]:=by
 refine⟨_,1,rfl,Nat.le_refl _,(fun h=>by cases h),fun _=>⟨q,0,rfl,h.lt,fun t ht=>?_⟩⟩
 match t,ht with
 |0,_=>rw[wM];exact h.cell 0
 |1,_=>rw[wN];exact h.cell 1
 |t+2,ht=>simp at ht;omega
theorem Sep.QV {r:Pr}(h:Sep B w0 w (gG v (r::s)::l)):∃g o c,v=.slice (some ⟨g,o,none⟩) (s.length+1) c∧s.length+1<=c∧g<w.heap.size∧w.cell? ⟨g,o,none⟩=some (.int .i64 r.1)∧w.cell? ⟨g,o+1,none⟩=some (.int .i64 r.2)∧w.frozen? ⟨g,o,none⟩=false:=by
 obtain⟨ao,cap,e,h1,h2,h3⟩:=h.free;obtain⟨b,off,e2,_,hb,hH⟩:=h3 (by simp);subst e2 e;have x0:=hH 0 (by simp);have x1:=hH 1 (by simp;omega);rw[wM]at x0;rw[wN]at x1;exact⟨b,off,cap,rfl,by simpa using h1,hb,x0.1,x1.1,x0.2⟩
theorem Sep.yV {v':Value}{s':List Pr}(h:Sep B w0 w (gG v s::l))(ht:∀X:Nat->Prop,(∀k,X k↔s≠[]∧∃o n c,v=.slice (some ⟨k,o,none⟩) n c)->df X w w')(o:Own aG 2 0 w' v' s')(hx:∀k,(s'≠[]∧∃o n c,v'=.slice (some ⟨k,o,none⟩) n c)->s≠[]∧∃o n c,v=.slice (some ⟨k,o,none⟩) n c):Sep B w0 w' (gG v' s'::l):=
 h.step (gT _ _) fun X hX=>⟨fun k=>s'≠[]∧∃o n c,v'=.slice (some ⟨k,o,none⟩) n c,⟨o,fun _=>Iff.rfl⟩,ht X hX.2,fun k hk=>.inl ((hX.2 k).2 (hx k hk))⟩
theorem Sep.MO {g o n c:Nat}{a b a':Int}(h:Sep B w0 w (gG (.slice (some ⟨g,o,none⟩) n c) ((a,b)::s)::l)):Sep B w0 (w.setCell ⟨g,o,none⟩ (.int .i64 a')) (gG (.slice (some ⟨g,o,none⟩) n c) ((a',b)::s)::l):=by
 refine h.yV (fun X hX=>df.setCell w ((hX g).2 ⟨by simp,o,n,c,rfl⟩) _) ?_ (fun k hk=>⟨by simp,hk.2⟩);obtain⟨ao,cap,e,h1,h2,h3⟩:=h.free;obtain⟨b',off,e2,_,hb,hH⟩:=h3 (by simp);subst e2;cases e;have x0:=hH 0 (by simp);rw[wM]at x0;have hc0:w.cell? ⟨g,o,none⟩=some (.int .i64 a):=x0.1;refine⟨_,c,by simp,by simpa using h1,(fun h=>by cases h),fun _=>⟨g,o,rfl,Nat.zero_le _,by simpa[World.setCell]using hb,fun t ht=>?_⟩⟩;have Ya:=hH t (by simpa using ht);by_cases h0:t=0
 ·subst h0;refine⟨?_,?_⟩
  ·rw[Nat.add_zero,World.cell?_setCell_same _ _ _ hc0,wM];rfl
  ·rw[World.frozen?_setCell];exact Ya.2
 ·refine⟨?_,?_⟩
  ·rw[World.cell?_setCell_other _ _ _ _ (by intro e;injection e with _ e2 _;omega),Ya.1,EN h0 (by simpa using ht)]
  ·rw[World.frozen?_setCell];exact Ya.2
theorem Sep.Iw {g o c:Nat}{r:Pr}(h:Sep B w0 w (gG (.slice (some ⟨g,o,none⟩) (s.length+1) c) (r::s)::l)):Sep B w0 w (gG (.slice (if c=1 then some ⟨g,o,none⟩else some ⟨g,o+2,none⟩) s.length (c-1)) s::l):=by
 obtain⟨ao,cap,e,h1,h2,h3⟩:=h.free;obtain⟨b',off,e2,_,hb,hH⟩:=h3 (by simp);subst e2;cases e;simp only[List.length_cons]at h1;refine h.yV (fun X _=>df.refl X w) ⟨_,_,rfl,by omega,(fun h=>by split at h<;>cases h),fun hne=>?_⟩ (fun k hk=>⟨by simp,?_⟩)
 ·have hpos:0<s.length:=List.length_pos_iff.2 hne;refine⟨g,o+2,by rw[if_neg (by omega)],Nat.zero_le _,hb,fun t ht=>?_⟩;have ht2:t<s.length*2:=by simpa using ht
  have x:=hH (t+2) (by simp;omega);rw[show o+2+t=o+(t+2) by omega];refine⟨x.1.trans ?_,x.2⟩;rw[get_flatK _ _ _ _ (by simp;omega),get_flatK _ _ _ _ (by simpa using ht)];have e:((r::s).toArray)[(t+2)/2]! =s.toArray[t/2]! :=by
   rw[show(t+2)/2=t/2+1 by omega,getElem!_pos _ _ (by simp;omega),getElem!_pos _ _ (by simp;omega)];simp
  rw[e,show(t+2)%2=t%2 by omega]
 ·obtain⟨_,o',n',c',e⟩:=hk;split at e
  ·cases e;exact⟨_,_,_,rfl⟩
  ·cases e;exact⟨_,_,_,rfl⟩
theorem QW:Tryz.prog.underlying 120=some (.slice (Tryz.prog.elem 120)):=by kernel_rfl
theorem QX (u:World):(sizeOf (Tryz.prog.elem 120)).run Tryz.prog u=.ok 2 u:=by kernel_rfl
theorem Ix (g o n c:Nat)(hc:n+1<=c)(u:World):(Instr.slice 120 (.slice (some ⟨g,o,none⟩) (n+1) c) (some (.int .i64 1)) none none).run Tryz.prog u=.ok (.slice (if c=1 then some ⟨g,o,none⟩else some ⟨g,o+2,none⟩) n (c-1)) u:=by
 have:=run_slice_l u 120 (some ⟨g,o,none⟩) (n+1) c QW .i64 1 (by omega) (by omega);rw[this,QX];simp only[Result.andThen,sliced];by_cases h:c=1
 ·subst h;simp
 ·simp[h,Addr.add]
end
theorem Sep.sP {B:Nat}{w0 w:World}{l:List aN}{q i:Nat}{cs:Array Value}{ty:TypeId}(h:Sep B w0 w (ax q (.cells cs ty (0,0))::l))(u:Value):Sep B w0 (w.setCell ⟨q,i,none⟩ u) (ax q (.cells (cs.setIfInBounds i u) ty (0,0))::l):=by
 refine h.step (aT _ _) fun X hX=>⟨X,⟨?_,hX.2⟩,df.setCell w ((hX.2 q).2 rfl) u,fun k hk=>.inl hk⟩;exact Cl.set (t:=ty) hX.1 i u
def Iy (f:Nat)(v:Value)(p m:Nat):Obj:=.cells #[ptr f,v,.int .i64 (p:Int),.map (some m)] 126 (0,0)
def Tx (t f:Nat)(x:TX):aN:=fun w X=>∃v m,Both (ax t (Iy f v x.pages m)) (Both (gG v x.free) (mP m x.fresh x.cnt)) w X
theorem MQ (t f:Nat)(x:TX):Good (Tx t f x):=
 ⟨fun w w' X ⟨v,m,h⟩ hk hs=>⟨v,m,(aO (aT _ _) (aO (gT _ _) (ig _ _ _))).kept w w' X h hk hs⟩,fun w X ⟨v,m,h⟩=>(aO (aT _ _) (aO (gT _ _) (ig _ _ _))).lt w X h⟩
section
variable {B:Nat}{w0 w:World}{l:List aN}{t f:Nat}{x:TX}
theorem Sep.iD (h:Sep B w0 w (Tx t f x::l)):∃v m,Sep B w0 w (ax t (Iy f v x.pages m)::gG v x.free::mP m x.fresh x.cnt::l):=by
 obtain⟨hB,hb,Y,⟨_,X,Z,⟨v,m,ha⟩,hl,hd,hy⟩,hY⟩:=h;have g2:=aO (gT v x.free) (ig m x.fresh x.cnt);have h1:Hp w (Both (ax t (Iy f v x.pages m)) (Both (gG v x.free) (mP m x.fresh x.cnt))::l) Y:=⟨aO (aT _ _) g2,X,Z,ha,hl,hd,hy⟩;have h2:=Hp.part (aT _ _) g2 h1;exact⟨v,m,hB,hb,Y,Hp.under h2 fun _ h3=>Hp.part (gT _ _) (ig _ _ _) h3,hY⟩
theorem Sep.txShut {v:Value}{m:Nat}(h:Sep B w0 w (ax t (Iy f v x.pages m)::gG v x.free::mP m x.fresh x.cnt::l)):Sep B w0 w (Tx t f x::l):=by
 obtain⟨hB,hb,Y,h1,hY⟩:=h;have h2:Hp w (Both (ax t (Iy f v x.pages m)) (Both (gG v x.free) (mP m x.fresh x.cnt))::l) Y:=Hp.join (Hp.under h1 fun _ h3=>Hp.join h3);obtain⟨_,X,Z,ha,hl,hd,hy⟩:=h2;exact⟨hB,hb,Y,⟨MQ _ _ _,X,Z,⟨v,m,ha⟩,hl,hd,hy⟩,hY⟩
theorem Sep.fT {v:Value}{m p:Nat}(h:Sep B w0 w (ax t (Iy f v p m)::l)):t<w.heap.size∧w.cell? ⟨t,0,none⟩=some (ptr f)∧w.cell? ⟨t,1,none⟩=some v∧w.cell? ⟨t,2,none⟩=some (.int .i64 (p:Int))∧w.cell? ⟨t,3,none⟩=some (.map (some m))∧∀i,w.frozen? ⟨t,i,none⟩=false:=by
 have hb:=h.blk;refine⟨(Array.getElem?_eq_some_iff.1 hb).1,?_,?_,?_,?_,fun i=>?_⟩<;>simp[World.cell?,World.frozen?,hb,Iy]
end
end
end Go.Proofs.YtdcpfbidcpfboaaGreatDoor
section
namespace Go.Proofs
open Go.Shelf
def Tryz.yX:Go.Shelf.Ren:=⟨fun|6=>152|15=>174|14=>185|28=>212|29=>213|20=>221|21=>222|22=>223|23=>224|24=>225|25=>226|26=>227|27=>228|46=>244|47=>234|48=>235|49=>245|50=>246|57=>253|n=>n,fun|22=>120|24=>123|25=>232|3=>3|39=>163|0=>0|53=>206|55=>209|4=>4|46=>279|45=>278|50=>157|5=>5|9=>9|66=>302|70=>306|76=>320|77=>321|n=>n,fun|n=>n⟩
theorem Tryz.Dc:Go.Proofs.SlLaysF0.n6 Tryz.prog Tryz.yX:={
 mixed:=by kernel_rfl
 f6:=⟨Tryz.f152.name,by decide,Tryz.func152.trans (congrArg some (by kernel_rfl))⟩
 f14:=⟨Tryz.f185.name,by decide,Tryz.func185.trans (congrArg some (by kernel_rfl))⟩
 f15:=Tryz.func174.trans (congrArg some (by kernel_rfl))
 f20:=⟨Tryz.f221.name,by decide,Tryz.func221.trans (congrArg some (by kernel_rfl))⟩
 f21:=⟨Tryz.f222.name,by decide,Tryz.func222.trans (congrArg some (by kernel_rfl))⟩
 f22:=⟨Tryz.f223.name,by decide,Tryz.func223.trans (congrArg some (by kernel_rfl))⟩
 f23:=⟨Tryz.f224.name,by decide,Tryz.func224.trans (congrArg some (by kernel_rfl))⟩
 f24:=⟨Tryz.f225.name,by decide,Tryz.func225.trans (congrArg some (by kernel_rfl))⟩
 f25:=⟨Tryz.f226.name,by decide,Tryz.func226.trans (congrArg some (by kernel_rfl))⟩
 f26:=⟨Tryz.f227.name,by decide,Tryz.func227.trans (congrArg some (by kernel_rfl))⟩
 f27:=⟨Tryz.f228.name,by decide,Tryz.func228.trans (congrArg some (by kernel_rfl))⟩
 f28:=Tryz.func212.trans (congrArg some (by kernel_rfl))
 f29:=Tryz.func213.trans (congrArg some (by kernel_rfl))
 f46:=⟨Tryz.f244.name,by decide,Tryz.func244.trans (congrArg some (by kernel_rfl))⟩
 f47:=Tryz.func234.trans (congrArg some (by kernel_rfl))
 f48:=Tryz.func235.trans (congrArg some (by kernel_rfl))
 f49:=⟨Tryz.f245.name,by decide,Tryz.func245.trans (congrArg some (by kernel_rfl))⟩
 f50:=⟨Tryz.f246.name,by decide,Tryz.func246.trans (congrArg some (by kernel_rfl))⟩
 f57:=⟨Tryz.f253.name,by decide,Tryz.func253.trans (congrArg some (by kernel_rfl))⟩
 t0:=Tryz.underlying0
 a0:=Tryz.isAgg0
 z0:=Tryz.sizeOf0
 v0:=Tryz.zeroValue0
 t3:=Tryz.underlying3
 a3:=Tryz.isAgg3
 z3:=Tryz.sizeOf3
 v3:=Tryz.zeroValue3
 t4:=Tryz.underlying4
 a4:=Tryz.isAgg4
 z4:=Tryz.sizeOf4
 v4:=Tryz.zeroValue4
 t5:=Tryz.underlying5
 a5:=Tryz.isAgg5
 z5:=Tryz.sizeOf5
 v5:=Tryz.zeroValue5
 t9:=Tryz.underlying9
 a9:=Tryz.isAgg9
 z9:=Tryz.sizeOf9
 v9:=Tryz.zeroValue9
 t22:=Tryz.underlying120
 a22:=Tryz.isAgg120
 z22:=Tryz.sizeOf120
 v22:=Tryz.zeroValue120
 t25:=Tryz.underlying232
 a25:=Tryz.isAgg232
 z25:=Tryz.sizeOf232
 v25:=Tryz.zeroValue232
 t39:=Tryz.underlying163
 a39:=Tryz.isAgg163
 z39:=Tryz.sizeOf163
 v39:=Tryz.zeroValue163
 t45:=Tryz.underlying278
 a45:=Tryz.isAgg278
 z45:=Tryz.sizeOf278
 v45:=Tryz.zeroValue278
 t46:=Tryz.underlying279
 a46:=Tryz.isAgg279
 z46:=Tryz.sizeOf279
 v46:=Tryz.zeroValue279
 t50:=Tryz.underlying157
 a50:=Tryz.isAgg157
 z50:=Tryz.sizeOf157
 v50:=Tryz.zeroValue157
 t53:=Tryz.underlying206
 a53:=Tryz.isAgg206
 z53:=Tryz.sizeOf206
 v53:=Tryz.zeroValue206
 t55:=Tryz.underlying209
 a55:=Tryz.isAgg209
 z55:=Tryz.sizeOf209
 v55:=Tryz.zeroValue209
 t66:=Tryz.underlying302
 a66:=Tryz.isAgg302
 z66:=Tryz.sizeOf302
 v66:=Tryz.zeroValue302
 t70:=Tryz.underlying306
 a70:=Tryz.isAgg306
 z70:=Tryz.sizeOf306
 v70:=Tryz.zeroValue306
 t76:=Tryz.underlying320
 a76:=Tryz.isAgg320
 z76:=Tryz.sizeOf320
 v76:=Tryz.zeroValue320
 t77:=Tryz.underlying321
 a77:=Tryz.isAgg321
 z77:=Tryz.sizeOf321
 v77:=Tryz.zeroValue321}
end Go.Proofs
end
