/- Walks of the package cowtree and of what it stands on: lemmas, made short. -/
import Derived.Test.YtcenfooehjcddaaGreatDoorR3
import Derived.Test.YtcenfooehjcddaaGreatDoorR2
import Derived.Test.YtcenfooehjcddaaGreatDoorR4
set_option maxHeartbeats 16000000
set_option maxRecDepth 100000
set_option linter.unusedVariables false
set_option linter.unusedSimpArgs false
namespace Go.Proofs.YtcenfooehjcddaaGreatDoor
open Go.Shelf Go.RowKit Go.Lib Go.Sort
namespace N
section
theorem oT (v:Value)(l:List En)(w:World)(h:Row ax 2 w v l)(hl:l.length<=100000):
  Calls Tryz.prog 164 #[v] w fun e w'=>e=.returned (.bool (im l))∧Below w.heap.size w w':=by
 have C:Hid _:=sF v l w h hl;obtain⟨ao,cap,rfl,_⟩:=aG h;clear h;cases hr:im l with
 |false=>
  have EE:Ql l=1:=by unfold Ql;rw[hr];rfl
  rw[EE]at C;generalize U4 l=sx at*;clear hr EE;go_enter Tryz.func164,Tryz.ntmps164
  go_wp2_with (go_at_call 131;refine Calls.mono C.out ?_;rintro e w1 ⟨rfl,hb⟩)
  go_ret;exact⟨rfl,hb⟩
 |true=>
  have EE:Ql l=0:=by unfold Ql;rw[hr];rfl
  rw[EE]at C;generalize U4 l=sx at*;clear hr EE;go_enter Tryz.func164,Tryz.ntmps164
  go_wp2_with (go_at_call 131;refine Calls.mono C.out ?_;rintro e w1 ⟨rfl,hb⟩)
  go_ret;exact⟨rfl,hb⟩
theorem Js {k:Int}(h:k<2∨4294967295<k):qG k=false:=by
 unfold qG;exact decide_eq_false (by omega)
theorem NM {k:Int}(h1:¬k<2)(h2:¬4294967295<k):qG k=true:=mZ.2 (by omega)
theorem Jt {α:Type}[Inhabited α]{l:List α}{i:Nat}{p:α->Prop}(h:∀x∈l.take i,p x)(hi:i<l.length)(hx:p l[i]!):∀x∈l.take (i+1),p x:=by
 rw[bU hi];intro x hm;rcases List.mem_append.1 hm with e|e
 ·exact h x e
 ·rw[List.mem_singleton.1 e];exact hx
theorem uM (v:Value)(l:List Int)(w:World)(h:Row encI 1 w v l)(hl:l.length<=1000000):
  Calls Tryz.prog 165 #[v] w fun e w'=>e=.returned (.bool (G8 l))∧w=w':=by
 obtain⟨ao,cap,rfl,h1,h2,h3⟩:=h;have H3:Aside (l≠[]->∃b off,ao=some ⟨b,off,none⟩∧b<w.heap.size∧cx encI 1 w b off l):=h3;clear h3;go_enter Tryz.func165,Tryz.ntmps165;go_wp2
 go_loopg [7] l.length (fun kx s7 wr=>∃(i:Nat),s7=.int .i64 i∧i<=l.length∧l.length-i<=kx∧w=wr∧Hid (∀k∈l.take i,qG k=true))
 case atStart=>exact⟨0,rfl,Nat.zero_le _,Nat.le_refl _,rfl,fun x hx=>by simp at hx⟩
 case round=>
  obtain⟨i,rfl,hi,hki,rfl,HN⟩:=hrel;by_cases hil:i<l.length
  ·have dO:(i:Int)< (l.length:Int):=by omega
   obtain⟨b,off,rfl,hb,x1⟩:=nh H3.out i hil (Below.refl _ w);have M:Hid (l[i]! ∈l):=j6 hil;have T:Hid (qG l[i]! =true->∀k∈l.take (i+1),qG k=true):=fun e=>Jt HN.out hil e;generalize l[i]! =x at*;by_cases c1:x<2
   ·have E:Hid (G8 l=false):=IW M.out (Js (Or.inl c1));clear HN T;go_wp2;go_ret;exact⟨dK E.out.symm,rfl⟩
   ·by_cases c2:4294967295<x
    ·have E:Hid (G8 l=false):=IW M.out (Js (Or.inr c2));clear HN T;go_wp2;go_ret;exact⟨dK E.out.symm,rfl⟩
    ·have N2:Hid _:=T.out (NM c1 c2);clear HN T;go_wp2
     go_roundg (l.length- (i+1))
     case measure=>omega
     case rel=>exact⟨i+1,by go_num,by omega,Nat.le_refl _,rfl,N2⟩
  ·have dO:¬(i:Int)< (l.length:Int):=by omega
   obtain rfl:i=l.length:=by omega
   rw[List.take_length]at HN;have E:Hid (G8 l=true):=DA HN.out;clear HN;go_wp2;go_ret;exact⟨dK E.out.symm,rfl⟩
theorem uN (v:Value)(l:List ByteArray)(w:World)(h:Row encS 1 w v l)(hl:l.length<=1000000):
  Calls Tryz.prog 166 #[v] w fun e w'=>e=.returned (.bool (Br l))∧Below w.heap.size w w':=by
 obtain⟨ao,cap,rfl,h1,h2,h3⟩:=h;have H3:Aside (l≠[]->∃b off,ao=some ⟨b,off,none⟩∧b<w.heap.size∧cx encS 1 w b off l):=h3;clear h3;go_enter Tryz.func166,Tryz.ntmps166;go_wp2
 go_loopg [7] l.length (fun kx s7 wr=>∃(i:Nat),s7=.int .i64 i∧i<=l.length∧l.length-i<=kx∧w=wr∧Hid (∀j,j<i->Nf l j=true))
 case atStart=>exact⟨0,rfl,Nat.zero_le _,Nat.le_refl _,rfl,fun j hj=>absurd hj (Nat.not_lt_zero _)⟩
 case round=>
  obtain⟨i,rfl,hi,hki,rfl,HN⟩:=hrel;by_cases hil:i<l.length
  ·have dO:(i:Int)< (l.length:Int):=by omega
   obtain⟨b,off,rfl,hb,x1⟩:=kS H3.out i hil (Below.refl _ w);obtain⟨x,hx⟩:∃x,l[i]! =x:=⟨_,rfl⟩;rw[hx]at x1;have X:Hid (l[i]! =x):=hx;clear hx;cases hm:cJ x ⟨#[]⟩with
   |false=>
    have C:Hid _:=iT x ⟨#[]⟩ w;rw[kQ,hm]at C;have RF:Hid (Br l=false):=IV i hil (xh (b:=false) (c:=(i==0||bB l[i-1]! l[i]!)) (by rw[X.out];exact hm) rfl);clear HN hm
    go_wp2_with (go_at_call 44;refine Calls.mono C.out ?_;rintro e w1 ⟨rfl,rfl⟩)
    go_ret;exact⟨dK RF.out.symm,Below.refl _ _⟩
   |true=>
    have C:Hid _:=iT x ⟨#[]⟩ w;rw[kQ,hm]at C;have M:Hid (cJ x ⟨#[]⟩=true):=hm;clear hm;rcases Nat.eq_zero_or_pos i with hi0|hi0
    ·have N2:Hid (∀j,j<i+1->Nf l j=true):=fun j hj=>by
      obtain rfl:j=i:=by omega
      rw[xh (b:=true) (c:=true) (by rw[X.out];exact M.out) (by rw[hi0];rfl)];rfl
     have hd:¬((0:Int)< (i:Int)):=by omega
     have hd2:¬(0<i):=by omega
     clear HN hi0
     go_wp2_with (go_at_call 44;refine Calls.mono C.out ?_;rintro e w1 ⟨rfl,rfl⟩)
     go_roundg (l.length- (i+1))
     case measure=>omega
     case rel=>exact⟨i+1,by go_num,by omega,Nat.le_refl _,rfl,N2⟩
    ·obtain⟨i,rfl⟩:∃i',i=i'+1:=⟨i-1,by omega⟩;clear hi0;obtain⟨b2,YN,e2,hb2,z1⟩:=kS H3.out i (by omega) (Below.refl _ w);cases e2;obtain⟨y,hy⟩:∃y,l[i]! =y:=⟨_,rfl⟩;rw[hy]at z1;have Y:Hid (l[i]! =y):=hy;clear hy;cases hlt:bB y x
     ·have RF:Hid (Br l=false):=IV (i+1) hil (xh (b:=true) (c:=false) (by rw[X.out];exact M.out) (by
       rw[show i+1-1=i from rfl,X.out,Y.out,hlt];rfl))
      have hlt2:Op.bytesLess y.toList x.toList=false:=hlt;clear HN hlt
      go_wp2_with (go_at_call 44;refine Calls.mono C.out ?_;rintro e w1 ⟨rfl,rfl⟩)
      go_ret;exact⟨dK RF.out.symm,Below.refl _ _⟩
     ·have N2:Hid (∀j,j<i+1+1->Nf l j=true):=fun j hj=>by
       rcases Nat.lt_or_ge j (i+1)with c|c
       ·exact HN.out j c
       ·obtain rfl:j=i+1:=by omega
        rw[xh (b:=true) (c:=true) (by rw[X.out];exact M.out) (by rw[show i+1-1=i from rfl,X.out,Y.out,hlt];simp)];rfl
      have hlt2:Op.bytesLess y.toList x.toList=true:=hlt;clear HN hlt
      go_wp2_with (go_at_call 44;refine Calls.mono C.out ?_;rintro e w1 ⟨rfl,rfl⟩)
      go_roundg (l.length- (i+1+1))
      case measure=>omega
      case rel=>exact⟨i+1+1,by go_num,by omega,Nat.le_refl _,rfl,N2⟩
  ·have dO:¬(i:Int)< (l.length:Int):=by omega
   obtain rfl:i=l.length:=by omega
   have RT:Hid (Br l=true):=Ng HN.out;clear HN;go_wp2;go_ret;exact⟨dK RT.out.symm,Below.refl _ _⟩
end
section
theorem xG (w:World)(lf:Bool)(ve vk vs:Value)(t:TypeId):Below w.heap.size w (w.alloc (.cells #[.bool lf,ve,vk,vs] t))∧(w.alloc (.cells #[.bool lf,ve,vk,vs] t)).cell? ⟨w.heap.size,0,none⟩=some (.bool lf)∧(w.alloc (.cells #[.bool lf,ve,vk,vs] t)).cell? ⟨w.heap.size,1,none⟩=some ve∧(w.alloc (.cells #[.bool lf,ve,vk,vs] t)).cell? ⟨w.heap.size,2,none⟩=some vk∧(w.alloc (.cells #[.bool lf,ve,vk,vs] t)).cell? ⟨w.heap.size,3,none⟩=some vs∧w.heap.size< (w.alloc (.cells #[.bool lf,ve,vk,vs] t)).heap.size:=by
 obtain⟨a,b,c,d⟩:=(Cl.new w #[.bool lf,ve,vk,vs] t).four;exact⟨(Below.refl _ w).alloc (Nat.le_refl _) _,a,b,c,d,by simp⟩
theorem zT (n:Nd)(ve vk vs:Value)(w:World)(h:iw w ve vk vs n)(hs:yz n):
  Calls Tryz.prog 130 #[.agg #[.bool n.leaf,ve,vk,vs]] w fun e w'=>e=.returned (.bool (dF n))∧Below w.heap.size w w':=by
 obtain⟨lf,es,ks,ss⟩:=n;obtain⟨he,hk,hss⟩:=h;obtain⟨s1,s2,s3⟩:=hs;simp only at he hk hss s1 s2 s3;obtain⟨B,c0,c1,c2,c3,hlt⟩:=xG w lf ve vk vs 170;have CE:Hid _:=oT ve es _ (he.below B) (by omega);have CK:Hid _:=uM vk ks _ (hk.below B) (by omega);have CS:Hid _:=uN vs ss _ (hss.below B) (by omega);obtain⟨ae,ce,rfl,_⟩:=aG he;obtain⟨ak,ck,rfl,_⟩:=aG hk;obtain⟨az,cz,rfl,_⟩:=aG hss;have HB:Hid _:=B;clear he hk hss B;cases lf with
 |true=>
  by_cases k1:ks.length=0
  ·by_cases k2:ss.length=0
   ·
    have z1:((ks.length:Int)==0)=true:=by rw[beq_iff_eq];omega
    have z2:((ss.length:Int)==0)=true:=by rw[beq_iff_eq];omega
    have E:Hid (dF ⟨true,es,ks,ss⟩=im es):=by
     show _=_;unfold dF;rw[if_pos rfl,decide_eq_true k1,decide_eq_true k2];simp
    clear k1 k2;go_enter Tryz.func130,Tryz.ntmps130
    go_upto_region 1 with fail
    generalize World.alloc _ _=W at*
    go_wp2_with (go_at_call 164;refine Calls.mono CE.out ?_;rintro e w1 ⟨rfl,hb⟩)
    go_ret;exact⟨dK E.out.symm,HB.out.trans (hb.mono HB.out.size)⟩
   ·
    have z1:((ks.length:Int)==0)=true:=by rw[beq_iff_eq];omega
    have z2:((ss.length:Int)==0)=false:=by rw[beq_eq_false_iff_ne];omega
    have E:Hid (dF ⟨true,es,ks,ss⟩=false):=by
     show _=_;unfold dF;rw[if_pos rfl,decide_eq_true k1,decide_eq_false k2];simp
    clear k1 k2;go_enter Tryz.func130,Tryz.ntmps130
    go_upto_region 1 with fail
    generalize World.alloc _ _=W at*
    go_wp2_with (fail)
    go_ret;exact⟨dK E.out.symm,HB.out⟩
  ·
   have z1:((ks.length:Int)==0)=false:=by rw[beq_eq_false_iff_ne];omega
   have E:Hid (dF ⟨true,es,ks,ss⟩=false):=by
    show _=_;unfold dF;rw[if_pos rfl,decide_eq_false k1];simp
   clear k1;go_enter Tryz.func130,Tryz.ntmps130
   go_upto_region 1 with fail
   generalize World.alloc _ _=W at*
   go_wp2_with (fail)
   go_ret;exact⟨dK E.out.symm,HB.out⟩
 |false=>
  by_cases k1:es.length=0
  ·by_cases k2:0<ks.length
   ·have k2z:(0:Int)< (ks.length:Int):=by omega
    by_cases k3:ss.length+1=ks.length
    ·have z3:((ss.length:Int)==(ks.length:Int)-1)=true:=by rw[beq_iff_eq];omega
     cases hr:G8 ks with
     |false=>
      rw[hr]at CK;have z1:((es.length:Int)==0)=true:=by rw[beq_iff_eq];omega
      have E:Hid (dF ⟨false,es,ks,ss⟩=false):=by
       show _=_;unfold dF;rw[if_neg (by simp),decide_eq_true k1,decide_eq_true k2,decide_eq_true k3,hr];simp
      clear k1 k3 hr;go_enter Tryz.func130,Tryz.ntmps130
      go_upto_region 1 with fail
      generalize World.alloc _ _=W at*
      go_wp2_with (first| (go_at_call 165;refine Calls.mono CK.out ?_;rintro e w1 ⟨rfl,rfl⟩)| (go_at_call 166;refine Calls.mono CS.out ?_;rintro e w1 ⟨rfl,hb⟩))
      go_ret;exact⟨dK E.out.symm,HB.out⟩
     |true=>
      rw[hr]at CK;have z1:((es.length:Int)==0)=true:=by rw[beq_iff_eq];omega
      have E:Hid (dF ⟨false,es,ks,ss⟩=Br ss):=by
       show _=_;unfold dF;rw[if_neg (by simp),decide_eq_true k1,decide_eq_true k2,decide_eq_true k3,hr];simp
      clear k1 k3 hr;go_enter Tryz.func130,Tryz.ntmps130
      go_upto_region 1 with fail
      generalize World.alloc _ _=W at*
      go_wp2_with (first| (go_at_call 165;refine Calls.mono CK.out ?_;rintro e w1 ⟨rfl,rfl⟩)| (go_at_call 166;refine Calls.mono CS.out ?_;rintro e w1 ⟨rfl,hb⟩))
      go_ret;exact⟨dK E.out.symm,HB.out.trans (hb.mono HB.out.size)⟩
    ·have z3:((ss.length:Int)==(ks.length:Int)-1)=false:=by rw[beq_eq_false_iff_ne];omega
     have z1:((es.length:Int)==0)=true:=by rw[beq_iff_eq];omega
     have E:Hid (dF ⟨false,es,ks,ss⟩=false):=by
      show _=_;unfold dF;rw[if_neg (by simp),decide_eq_true k1,decide_eq_true k2,decide_eq_false k3];simp
     clear k1 k3;go_enter Tryz.func130,Tryz.ntmps130
     go_upto_region 1 with fail
     generalize World.alloc _ _=W at*
     go_wp2_with (fail)
     go_ret;exact⟨dK E.out.symm,HB.out⟩
   ·have k2z:¬(0:Int)< (ks.length:Int):=by omega
    have z1:((es.length:Int)==0)=true:=by rw[beq_iff_eq];omega
    have E:Hid (dF ⟨false,es,ks,ss⟩=false):=by
     show _=_;unfold dF;rw[if_neg (by simp),decide_eq_true k1,decide_eq_false k2];simp
    clear k1;go_enter Tryz.func130,Tryz.ntmps130
    go_upto_region 1 with fail
    generalize World.alloc _ _=W at*
    go_wp2_with (fail)
    go_ret;exact⟨dK E.out.symm,HB.out⟩
  ·
   have z1:((es.length:Int)==0)=false:=by rw[beq_eq_false_iff_ne];omega
   have E:Hid (dF ⟨false,es,ks,ss⟩=false):=by
    show _=_;unfold dF;rw[if_neg (by simp),decide_eq_false k1];simp
   clear k1;go_enter Tryz.func130,Tryz.ntmps130
   go_upto_region 1 with fail
   generalize World.alloc _ _=W at*
   go_wp2_with (fail)
   go_ret;exact⟨dK E.out.symm,HB.out⟩
theorem eO (n:Nd)(ve vk vs:Value)(w:World)(h:iw w ve vk vs n)(hs:Sm n):
  Calls Tryz.prog 130 #[.agg #[.bool n.leaf,ve,vk,vs]] w fun e w'=>e=.returned (.bool (dF n))∧Below w.heap.size w w':=zT n ve vk vs w h hs.l
theorem kW (n:Nd)(ve vk vs:Value)(w:World)(h:iw w ve vk vs n)(hs:Sm n):
  Calls Tryz.prog 123 #[.agg #[.bool n.leaf,ve,vk,vs]] w fun e w'=>e=.returned (.int .i64 (dZ n))∧Below w.heap.size w w':=by
 obtain⟨lf,es,ks,ss⟩:=n;obtain⟨he,hk,hss⟩:=h;obtain⟨s1,s2,s3,s4,s5⟩:=hs;simp only at he hk hss s1 s2 s3 s4 s5;obtain⟨B,c0,c1,c2,c3,hlt⟩:=xG w lf ve vk vs 170;have CE:Hid _:=sD ve es _ (he.below B) (by omega) (by omega);have SS:=hss.below B;obtain⟨ae,ce,rfl,_⟩:=aG he;obtain⟨ak,ck,rfl,_⟩:=aG hk;obtain⟨az,cz,rfl,_⟩:=aG hss;have HB:Hid _:=B;clear he hk hss;cases lf with
 |true=>
  have E:Hid (dZ ⟨true,es,ks,ss⟩=cY es):=by show _=_;unfold dZ;rw[if_pos rfl]
  clear SS;go_enter Tryz.func123,Tryz.ntmps123
  go_upto_region 1 with fail
  generalize World.alloc _ _=W at*
  go_wp2_with (go_at_call 156;refine Calls.mono CE.out ?_;rintro e w1 ⟨rfl,hb⟩)
  go_ret;exact⟨lH (by rw[E.out]),HB.out.trans (hb.mono HB.out.size)⟩
 |false=>
  have E:Hid (dZ ⟨false,es,ks,ss⟩=4+bV ss):=by show _=_;unfold dZ;rw[if_neg (by simp)]
  obtain⟨ot,ou,e1,h1,h2,h3⟩:=SS;cases e1;have H3:Aside (ss≠[]->∃b off,az=some ⟨b,off,none⟩∧b< (w.alloc (.cells #[.bool false,.slice ae es.length ce,.slice ak ks.length ck,.slice az ss.length cz] 170)).heap.size∧cx encS 1 (w.alloc (.cells #[.bool false,.slice ae es.length ce,.slice ak ks.length ck,.slice az ss.length cz] 170)) b off ss):=h3;clear h3 CE B;go_enter Tryz.func123,Tryz.ntmps123
  go_upto_region 1 with fail
  generalize World.alloc _ _=W at*;go_wp2
  go_loopg [3,14] ss.length (fun kx s3 Ze wr=>∃(i m:Nat),s3=.int .i64 m∧Ze=.int .i64 i∧i<=ss.length∧ss.length-i<=kx∧Hid (4+bV (ss.take i)=m)∧W=wr)
  case atStart=>exact⟨0,4,rfl,rfl,Nat.zero_le _,Nat.le_refl _,rfl,rfl⟩
  case round=>
   obtain⟨i,m,rfl,rfl,hi,hki,HS,rfl⟩:=hrel;by_cases hil:i<ss.length
   ·have dO:(i:Int)< (ss.length:Int):=by omega
    obtain⟨b,off,rfl,hb,x1⟩:=kS H3.out i hil (Below.refl _ W);have T:Hid _:=IX hil;have hle:bV (ss.take (i+1))<=bV ss:=pG _ _;rw[T.out]at hle;generalize ss[i]! =x at*;have hm:=HS.out;have hx:m+5+x.size<=1000004:=by omega
    have T2:Hid (4+bV (ss.take (i+1))=m+5+x.size):=by show _=_;rw[T.out];omega
    clear hle HS hm;go_wp2
    go_roundg (ss.length- (i+1))
    case measure=>omega
    case rel=>exact⟨i+1,m+5+x.size,by go_num,by go_num,by omega,Nat.le_refl _,T2,rfl⟩
   ·have dO:¬(i:Int)< (ss.length:Int):=by omega
    obtain rfl:i=ss.length:=by omega
    rw[List.take_length]at HS;go_wp2;go_ret;exact⟨lH (by rw[E.out,HS.out]),HB.out⟩
theorem Ju (n:Nd)(ve vk vs:Value)(w:World)(h:iw w ve vk vs n)(hs:Sm n):
  Calls Tryz.prog 146 #[.agg #[.bool n.leaf,ve,vk,vs]] w fun e w'=>e=.returned (.bool (cF n))∧Below w.heap.size w w':=by
 obtain⟨B,c0,c1,c2,c3,hlt⟩:=xG w n.leaf ve vk vs 170;have H:Aside (iw (w.alloc (.cells #[.bool n.leaf,ve,vk,vs] 170)) ve vk vs n):=h.below B;have CR:Hid _:=eO n ve vk vs _ H.out hs;obtain⟨ae,ce,rfl,_⟩:=aG h.e;obtain⟨ak,ck,rfl,_⟩:=aG h.k;obtain⟨az,cz,rfl,_⟩:=aG h.s;have HB:Hid _:=B;obtain⟨lf,hlf⟩:∃x,n.leaf=x:=⟨_,rfl⟩;have HL:Hid (n.leaf=lf):=hlf;rw[hlf]at CR HB H c0 c1 c2 c3 hlt⊢;unfold cF;clear h hlf B;cases hr:dF n with
 |false=>
  rw[hr]at CR;clear hr H;go_enter Tryz.func146,Tryz.ntmps146
  go_upto_region 1 with fail
  generalize World.alloc _ _=W at*
  go_wp2_with (go_at_call 130;refine Calls.mono CR.out ?_;rintro e w1 ⟨rfl,hb⟩)
  go_ret;exact⟨rfl,HB.out.trans (hb.mono HB.out.size)⟩
 |true=>
  rw[hr]at CR;obtain⟨z,hz⟩:∃z,dZ n=z:=⟨_,rfl⟩;rw[hz];have HZ:Hid (dZ n=z):=hz;clear hr hz;go_enter Tryz.func146,Tryz.ntmps146
  go_upto_region 1 with fail
  generalize World.alloc _ _=W at*
  go_wp2_with fail
  refine Calls.mono CR.out ?_;rintro e w1 ⟨rfl,hb⟩;have B1:Hid (Below W.heap.size W w1):=hb;have CZ:Hid _:=kW n _ _ _ w1 (H.out.below hb) hs;rw[HL.out]at CZ;have e0:w1.cell? ⟨w.heap.size,0,none⟩=some (.bool lf):=(hb.cell (p:=⟨w.heap.size,0,none⟩) hlt).trans c0;have e1:w1.cell? ⟨w.heap.size,1,none⟩=some (.slice ae n.es.length ce):=(hb.cell (p:=⟨w.heap.size,1,none⟩) hlt).trans c1;have e2:w1.cell? ⟨w.heap.size,2,none⟩=some (.slice ak n.ks.length ck):=(hb.cell (p:=⟨w.heap.size,2,none⟩) hlt).trans c2;have e3:w1.cell? ⟨w.heap.size,3,none⟩=some (.slice az n.ss.length cz):=(hb.cell (p:=⟨w.heap.size,3,none⟩) hlt).trans c3;have hlt1:w.heap.size<w1.heap.size:=Nat.lt_of_lt_of_le hlt hb.size;clear CR hb;rw[HZ.out]at CZ;by_cases hc:z<=240
  ·have hcz:(z:Int)<=240:=by omega
   go_wp2_with (go_at_call 123;refine Calls.mono CZ.out ?_;rintro e w2 ⟨rfl,hb⟩)
   go_ret;exact⟨dK (by rw[decide_eq_true hc];rfl),HB.out.trans ((B1.out.trans (hb.mono B1.out.size)).mono HB.out.size)⟩
  ·have hcz:¬(z:Int)<=240:=by omega
   go_wp2_with (go_at_call 123;refine Calls.mono CZ.out ?_;rintro e w2 ⟨rfl,hb⟩)
   go_ret;exact⟨dK (by rw[decide_eq_false hc,decide_eq_false (by omega)];rfl),HB.out.trans ((B1.out.trans (hb.mono B1.out.size)).mono HB.out.size)⟩
end
section
end
section
theorem Jv {ss:List ByteArray}{k:ByteArray}{i:Nat}(h:i<ss.length):dD (ss.take (i+1)) k=dD (ss.take i) k+(if bB k ss[i]! =true then 0 else 1):=by
 unfold dD;rw[bU h,List.countP_append];generalize ss[i]! =x;cases hx:bB k x<;>simp[hx]
theorem oU (n:Nd)(key:ByteArray)(ve vk vs:Value)(w:World)(h:iw w ve vk vs n)(hs:Sm n):
  Calls Tryz.prog 103 #[.agg #[.bool n.leaf,ve,vk,vs],.string key] w fun e w'=>e=.returned (.int .i64 (dD n.ss key))∧Below w.heap.size w w':=by
 obtain⟨lf,es,ks,ss⟩:=n;obtain⟨he,hk,hss⟩:=h;obtain⟨s1,s2,s3,s4,s5⟩:=hs;simp only at he hk hss s1 s2 s3 s4 s5⊢;obtain⟨B,c0,c1,c2,c3,hlt⟩:=xG w lf ve vk vs 170;have SS:=hss.below B;obtain⟨ae,ce,rfl,_⟩:=aG he;obtain⟨ak,ck,rfl,_⟩:=aG hk;obtain⟨az,cz,rfl,_⟩:=aG hss;have HB:Hid _:=B;obtain⟨ot,ou,e1,h1,h2,h3⟩:=SS;cases e1;have H3:Aside (ss≠[]->∃b off,az=some ⟨b,off,none⟩∧b< (w.alloc (.cells #[.bool lf,.slice ae es.length ce,.slice ak ks.length ck,.slice az ss.length cz] 170)).heap.size∧cx encS 1 (w.alloc (.cells #[.bool lf,.slice ae es.length ce,.slice ak ks.length ck,.slice az ss.length cz] 170)) b off ss):=h3;clear he hk hss B h3;go_enter Tryz.func103,Tryz.ntmps103
 go_upto_region 1 with fail
 generalize World.alloc _ _=W at*;go_wp2
 go_loopg [5,11] ss.length (fun kx s5 s11 wr=>∃(i m:Nat),s5=.int .i64 m∧s11=.int .i64 i∧i<=ss.length∧ss.length-i<=kx∧m<=i∧Hid (dD (ss.take i) key=m)∧W=wr)
 case atStart=>exact⟨0,0,rfl,rfl,Nat.zero_le _,Nat.le_refl _,Nat.le_refl _,rfl,rfl⟩
 case round=>
  obtain⟨i,m,rfl,rfl,hi,hki,hmi,HS,rfl⟩:=hrel;by_cases hil:i<ss.length
  ·have dO:(i:Int)< (ss.length:Int):=by omega
   obtain⟨b,off,rfl,hb,x1⟩:=kS H3.out i hil (Below.refl _ W);have T:Hid _:=Jv (k:=key) hil;rw[HS.out]at T;generalize ss[i]! =x at*;cases hlt1:bB key x with
   |true=>
    have T2:Hid (dD (ss.take (i+1)) key=m):=by show _=_;rw[T.out,hlt1];rfl
    have hl2:Op.bytesLess key.toList x.toList=true:=hlt1;have hl3:Op.bytesLess x.toList key.toList=false:=kO hlt1;have hl4:(x.toList==key.toList)=false:=RZ (fW hlt1).symm;have hl5:¬x.toList=key.toList:=fun e=>(fW hlt1).symm (jC e);clear T HS hlt1;go_wp2
    go_roundg (ss.length- (i+1))
    case measure=>omega
    case rel=>exact⟨i+1,m,rfl,by go_num,by omega,Nat.le_refl _,by omega,T2,rfl⟩
   |false=>
    have T2:Hid (dD (ss.take (i+1)) key=m+1):=by show _=_;rw[T.out,hlt1];rfl
    by_cases he:x=key
    ·subst he;clear T HS hlt1;go_wp2
     go_roundg (ss.length- (i+1))
     case measure=>omega
     case rel=>exact⟨i+1,m+1,by go_num,by go_num,by omega,Nat.le_refl _,by omega,T2,rfl⟩
    ·have hl3:Op.bytesLess x.toList key.toList=true:=il hlt1 (fun e=>he e.symm);clear T HS hlt1;go_wp2
     go_roundg (ss.length- (i+1))
     case measure=>omega
     case rel=>exact⟨i+1,m+1,by go_num,by go_num,by omega,Nat.le_refl _,by omega,T2,rfl⟩
  ·have dO:¬(i:Int)< (ss.length:Int):=by omega
   obtain rfl:i=ss.length:=by omega
   rw[List.take_length]at HS;go_wp2;go_ret;exact⟨lH (by rw[HS.out]),HB.out⟩
end
section
attribute [local go_sem ↓] Go.wp_at_zero Go.wp_at_succ
theorem DY {w:World}{q r:Nat}{t:TypeId}{cs:Array Value}{a b c d:Value}(h:Cl w q cs t)(hne:q≠r):Cl (fk w r a b c d) q cs t:=by
 unfold Cl fk at*;rw[Below.heap_setCell _ _ _ _ hne,Below.heap_setCell _ _ _ _ hne,Below.heap_setCell _ _ _ _ hne,Below.heap_setCell _ _ _ _ hne];exact h
theorem Jw {w:World}{q:Nat}{t:TypeId}{cs:Array Value}(h:Cl w.drew q cs t):Cl w q cs t:=h
theorem NQ {B:Nat}{u w:World}(h:Below B u w.drew):Below B u w:=⟨h.os,h.tape,h.output,h.size,h.block⟩
theorem xH {base:Nat}{w:World}{e:TypeId}{k:Nat}{v:Value}{n:Nat}{xs:List Value}(h:w.drew.ownsRow base e k v n xs):w.ownsRow base e k v n xs:=h
theorem V6 {base:Nat}{w:World}{e:TypeId}{k:Nat}{v:Value}{n:Nat}{xs:List Value}(h:w.ownsRow base e k v n xs):w.drew.ownsRow base e k v n xs:=h
theorem SU {w:World}{p:Nat}{t:TypeId}{u0 u1 u2 u3 v0 v1 v2 v3:Value}(h2:Cl w (p+1) #[u0,u1,u2,u3] t)(h3:Cl w (p+1+1) #[v0,v1,v2,v3] t)(a0 a1 a2 a3 b0 b1 b2 b3:Value):
  Cl ((((((((w.setCell ⟨p+1,0,none⟩ a0).setCell ⟨p+1,1,none⟩ a1).setCell ⟨p+1,2,none⟩ a2).setCell ⟨p+1,3,none⟩ a3).setCell ⟨p+1+1,0,none⟩ b0).setCell ⟨p+1+1,1,none⟩ b1).setCell ⟨p+1+1,2,none⟩ b2).setCell ⟨p+1+1,3,none⟩ b3).drew (p+1) #[a0,a1,a2,a3] t∧
  Cl ((((((((w.setCell ⟨p+1,0,none⟩ a0).setCell ⟨p+1,1,none⟩ a1).setCell ⟨p+1,2,none⟩ a2).setCell ⟨p+1,3,none⟩ a3).setCell ⟨p+1+1,0,none⟩ b0).setCell ⟨p+1+1,1,none⟩ b1).setCell ⟨p+1+1,2,none⟩ b2).setCell ⟨p+1+1,3,none⟩ b3).drew (p+1+1) #[b0,b1,b2,b3] t∧
  (∀w0,Below p w0 w->Below p w0 ((((((((w.setCell ⟨p+1,0,none⟩ a0).setCell ⟨p+1,1,none⟩ a1).setCell ⟨p+1,2,none⟩ a2).setCell ⟨p+1,3,none⟩ a3).setCell ⟨p+1+1,0,none⟩ b0).setCell ⟨p+1+1,1,none⟩ b1).setCell ⟨p+1+1,2,none⟩ b2).setCell ⟨p+1+1,3,none⟩ b3).drew)∧
  (∀e k v n xs,w.ownsRow (p+3) e k v n xs->((((((((w.setCell ⟨p+1,0,none⟩ a0).setCell ⟨p+1,1,none⟩ a1).setCell ⟨p+1,2,none⟩ a2).setCell ⟨p+1,3,none⟩ a3).setCell ⟨p+1+1,0,none⟩ b0).setCell ⟨p+1+1,1,none⟩ b1).setCell ⟨p+1+1,2,none⟩ b2).setCell ⟨p+1+1,3,none⟩ b3).drew.ownsRow (p+3) e k v n xs):=by
 have ne1:p+1≠p+1+1:=by omega
 refine⟨Cl.dr (DY (r:=p+1+1) (a:=b0) (b:=b1) (c:=b2) (d:=b3) (h2.fk a0 a1 a2 a3) ne1),Cl.dr (Cl.fk (DY (r:=p+1) (a:=a0) (b:=a1) (c:=a2) (d:=a3) h3 ne1.symm) b0 b1 b2 b3),fun w0 h=>?_,fun e k v n xs h=>?_⟩
 ·exact(dg (q:=p+1+1) (a:=b0) (b:=b1) (c:=b2) (d:=b3) (dg (q:=p+1) (a:=a0) (b:=a1) (c:=a2) (d:=a3) h (by omega)) (by omega)).drew
 ·exact V6 (bF (q:=p+1+1) (a:=b0) (b:=b1) (c:=b2) (d:=b3) (bF (q:=p+1) (a:=a0) (b:=a1) (c:=a2) (d:=a3) h (by omega)) (by omega))
theorem DZ {w:World}{ao:Option Addr}{n c:Nat}{l:List En}(h:Row ax 2 w (.slice ao n c) l)(i:Nat)(hi:i<l.length):∃b off,ao=some ⟨b,off,none⟩∧b<w.heap.size∧w.cell? ⟨b,off+i*2,none⟩=some (.string l[i]!.1)∧w.cell? ⟨b,off+i*2+1,none⟩=some (.string l[i]!.2):=by
 obtain⟨um,cap,e,h1,h2,h3⟩:=h;cases e;exact cW h3 i hi (Below.refl _ _)
def V7 (w:World)(a:Nd)(m:ByteArray)(b:Nd)(e:Ending)(w':World):Prop:=
 ∃ve vk vs ue uk us,e=.returned (.tuple #[.agg #[.bool a.leaf,ve,vk,vs],.string m,.agg #[.bool b.leaf,ue,uk,us]])∧kT w.heap.size w' ve vk vs a∧kT w.heap.size w' ue uk us b∧Below w.heap.size w w'
theorem kr {fn:Func}{p q r:Tmp}{ty tz:TypeId}(h:fn.results=#[.cell p ty,.tmp q,.cell r tz])(tmps:Array Value)(P:Program)(w:World):
  (results fn tmps).run P w=((asAddr (tmps.getD p undef)).run P w).andThen fun a w₁=>((loadVar ty a).run P w₁).andThen fun x w₂=>((asAddr (tmps.getD r undef)).run P w₂).andThen fun b w₃=>((loadVar tz b).run P w₃).andThen fun y w₄=>.ok (.tuple #[x,tmps.getD q undef,y]) w₄:=by
 simp only[results,h];simp[Sem.run_bind,Result.andThen]
theorem BL (es:List En)(ve vk vs:Value)(w:World)(h:iw w ve vk vs ⟨true,es,[],[]⟩)(hm:Sm ⟨true,es,[],[]⟩)(hr:zC ⟨true,es,[],[]⟩=true):
  Calls Tryz.prog 147 #[.agg #[.bool true,ve,vk,vs]] w (V7 w ⟨true,es.take (eG es),[],[]⟩ es[eG es]!.1 ⟨true,es.drop (eG es),[],[]⟩):=by
 obtain⟨s1,s2,s3,s4,s5⟩:=hm;simp only at s1 s2 s3 s4 s5;obtain⟨_,_,_,Vu⟩:=zD hr rfl;simp only at Vu;have hf:=Bi Vu;obtain⟨n,hn⟩:∃n,eG es=n:=⟨_,rfl⟩;rw[hn]at hf⊢;have HN:Hid (eG es=n):=hn;clear hn;obtain⟨ks,hks⟩:∃ks:List Int,ks=[]:=⟨_,rfl⟩;obtain⟨ss,NR⟩:∃ss:List ByteArray,ss=[]:=⟨_,rfl⟩;rw[<-hks,<-NR]at h hr;obtain⟨ae,ce,rfl,hce⟩:=aG h.e;obtain⟨ak,ck,rfl,_⟩:=aG h.k;obtain⟨az,cz,rfl,_⟩:=aG h.s;simp only at*;obtain⟨b,off,rfl,hb,_,_⟩:=DZ h.e n (show n<es.length by omega);have BW:Hid (Below w.heap.size w (((w.alloc (.cells #[.bool true,.slice (some ⟨b,off,none⟩) es.length ce,.slice ak ks.length ck,.slice az ss.length cz] 170)).alloc (.cells #[.bool false,.slice none 0 0,.slice none 0 0,.slice none 0 0] 170)).alloc (.cells #[.bool false,.slice none 0 0,.slice none 0 0,.slice none 0 0] 170))):=aq _ (aq _ (aq _ (Below.refl _ _)));have K1:Cl (((w.alloc (.cells #[.bool true,.slice (some ⟨b,off,none⟩) es.length ce,.slice ak ks.length ck,.slice az ss.length cz] 170)).alloc (.cells #[.bool false,.slice none 0 0,.slice none 0 0,.slice none 0 0] 170)).alloc (.cells #[.bool false,.slice none 0 0,.slice none 0 0,.slice none 0 0] 170)) w.heap.size #[.bool true,.slice (some ⟨b,off,none⟩) es.length ce,.slice ak ks.length ck,.slice az ss.length cz] 170:=((Cl.lY _ _ _).alloc _).alloc _;have K2:Cl (((w.alloc (.cells #[.bool true,.slice (some ⟨b,off,none⟩) es.length ce,.slice ak ks.length ck,.slice az ss.length cz] 170)).alloc (.cells #[.bool false,.slice none 0 0,.slice none 0 0,.slice none 0 0] 170)).alloc (.cells #[.bool false,.slice none 0 0,.slice none 0 0,.slice none 0 0] 170)) (w.heap.size+1) #[.bool false,.slice none 0 0,.slice none 0 0,.slice none 0 0] 170:=(Cl.pU _ _ _ _).alloc _;have K3:Cl (((w.alloc (.cells #[.bool true,.slice (some ⟨b,off,none⟩) es.length ce,.slice ak ks.length ck,.slice az ss.length cz] 170)).alloc (.cells #[.bool false,.slice none 0 0,.slice none 0 0,.slice none 0 0] 170)).alloc (.cells #[.bool false,.slice none 0 0,.slice none 0 0,.slice none 0 0] 170)) (w.heap.size+1+1) #[.bool false,.slice none 0 0,.slice none 0 0,.slice none 0 0] 170:=Cl.Bv _ _ _ _ _;have HR:Aside (iw (((w.alloc (.cells #[.bool true,.slice (some ⟨b,off,none⟩) es.length ce,.slice ak ks.length ck,.slice az ss.length cz] 170)).alloc (.cells #[.bool false,.slice none 0 0,.slice none 0 0,.slice none 0 0] 170)).alloc (.cells #[.bool false,.slice none 0 0,.slice none 0 0,.slice none 0 0] 170)) (.slice (some ⟨b,off,none⟩) es.length ce) (.slice ak ks.length ck) (.slice az ss.length cz) ⟨true,es,ks,ss⟩):=h.below BW.out;have SM:Hid (Sm ⟨true,es,ks,ss⟩):=⟨s1,by rw[hks];simp,by rw[NR];simp,s4,by rw[NR];simp[bV]⟩;have CR:Hid _:=eO _ _ _ _ _ HR.out SM.out;have hrt:dF ⟨true,es,ks,ss⟩=true:=by unfold zC at hr;rw[Bool.and_eq_true]at hr;exact hr.1
 rw[hrt]at CR;have l0:¬(es.length:Int)<2:=by omega
 clear hrt hr hks NR h;go_enter Tryz.func147,Tryz.ntmps147
 go_upto_region 1 with fail
 generalize World.alloc _ _=W at*;obtain⟨p,hp⟩:∃p,w.heap.size=p:=⟨_,rfl⟩;have HP:Hid (w.heap.size=p):=hp;rw[hp]at hb;rw[hp]at K1 K2 K3 BW⊢;obtain⟨c0,c1,c2,c3⟩:=K1.four;clear hp
 go_wp2_with fail
 refine Calls.mono CR.out ?_;rintro e w1 ⟨rfl,b1⟩;have J1:Cl w1 p #[.bool true,.slice (some ⟨b,off,none⟩) es.length ce,.slice ak ks.length ck,.slice az ss.length cz] 170:=K1.on b1;have J2:Cl w1 (p+1) #[.bool false,.slice none 0 0,.slice none 0 0,.slice none 0 0] 170:=K2.on b1;have J3:Cl w1 (p+1+1) #[.bool false,.slice none 0 0,.slice none 0 0,.slice none 0 0] 170:=K3.on b1;have B1:Hid (Below p w w1):=BW.out.trans (b1.mono (by have:=K1.lt;omega));have R1:Aside (Row ax 2 w1 (.slice (some ⟨b,off,none⟩) es.length ce) es):=HR.out.e.below b1;clear b1 K1 K2 K3 HR CR BW c0 c1 c2 c3;obtain⟨c0,c1,c2,c3⟩:=J1.four;have CH:Hid _:=mQ _ es w1 R1.out (by omega) (by omega);rw[HN.out]at CH
 go_wp2_with fail
 refine Calls.mono CH.out ?_;rintro e w2 ⟨rfl,b2⟩;have L1:Cl w2 p #[.bool true,.slice (some ⟨b,off,none⟩) es.length ce,.slice ak ks.length ck,.slice az ss.length cz] 170:=J1.on b2;have L2:Cl w2 (p+1) #[.bool false,.slice none 0 0,.slice none 0 0,.slice none 0 0] 170:=J2.on b2;have L3:Cl w2 (p+1+1) #[.bool false,.slice none 0 0,.slice none 0 0,.slice none 0 0] 170:=J3.on b2;have B2:Hid (Below p w w2):=B1.out.trans (b2.mono (by have:=J1.lt;omega));have R2:Aside (Row ax 2 w2 (.slice (some ⟨b,off,none⟩) es.length ce) es):=R1.out.below b2;clear b2 J1 J2 J3 R1 CH c0 c1 c2 c3 B1;obtain⟨c0,c1,c2,c3⟩:=L1.four;have e1:=wX (some ⟨b,off,none⟩) es.length ce n (by omega);have e2:=wY (some ⟨b,off,none⟩) es.length ce n (by omega);have C1:Hid _:=nr w2.heap.size 49 (.slice (some ⟨b,off,none⟩) n ce) (es.take n) (w2.alloc (.cells #[.slice (some ⟨b,off,none⟩) n ce] 49)) (Cl.new _ _ _) ((sI (by decide) R2.out n (by omega)).below (aq _ (Below.refl _ _))) (by simp;omega)
 go_wp2_with fail
 refine Calls.mono C1.out ?_;rintro e w3 ⟨a3,n3,m3,rfl,o3,b3⟩;have b3':Below w2.heap.size w2 w3:=jH b3 (aq _ (Below.refl _ _));have M1:Cl (w3.alloc (.cells #[.bool true,.slice a3 n3 m3,.slice none 0 0,.slice none 0 0] 170)) p #[.bool true,.slice (some ⟨b,off,none⟩) es.length ce,.slice ak ks.length ck,.slice az ss.length cz] 170:=(L1.on b3').alloc _;have M2:Cl (w3.alloc (.cells #[.bool true,.slice a3 n3 m3,.slice none 0 0,.slice none 0 0] 170)) (p+1) #[.bool false,.slice none 0 0,.slice none 0 0,.slice none 0 0] 170:=(L2.on b3').alloc _;have M3:Cl (w3.alloc (.cells #[.bool true,.slice a3 n3 m3,.slice none 0 0,.slice none 0 0] 170)) (p+1+1) #[.bool false,.slice none 0 0,.slice none 0 0,.slice none 0 0] 170:=(L3.on b3').alloc _;have M6:Cl (w3.alloc (.cells #[.bool true,.slice a3 n3 m3,.slice none 0 0,.slice none 0 0] 170)) w3.heap.size #[.bool true,.slice a3 n3 m3,.slice none 0 0,.slice none 0 0] 170:=Cl.new _ _ _;have b4:Below w2.heap.size w2 (w3.alloc (.cells #[.bool true,.slice a3 n3 m3,.slice none 0 0,.slice none 0 0] 170)):=aq _ b3';have B4:Hid (Below p w (w3.alloc (.cells #[.bool true,.slice a3 n3 m3,.slice none 0 0,.slice none 0 0] 170))):=B2.out.trans (b4.mono (by have:=L1.lt;omega));have R4:Aside (Row ax 2 (w3.alloc (.cells #[.bool true,.slice a3 n3 m3,.slice none 0 0,.slice none 0 0] 170)) (.slice (some ⟨b,off,none⟩) es.length ce) es):=R2.out.below b4;have O4:Aside (bp (p+3) (w3.alloc (.cells #[.bool true,.slice a3 n3 m3,.slice none 0 0,.slice none 0 0] 170)) (.slice a3 n3 m3) (es.take n)):=aH (ownsRow_below o3 (aq _ (Below.refl _ _))) (by have:=L3.lt;simp;omega);have l3:=L3.lt;have l4:=b3'.size;clear b3 b3' b4 L1 L2 L3 R2 C1 c0 c1 c2 c3 B2 o3
 go_upto_region 6 with fail
 generalize World.alloc _ _=w4 at*;obtain⟨q4,hq4⟩:∃q,w3.heap.size=q:=⟨_,rfl⟩;rw[hq4]at M6 l4⊢;clear hq4;obtain⟨c0,c1,c2,c3⟩:=M1.four;have l5:=M6.lt;generalize hsf:(if ce=n then some ⟨b,off,none⟩else(some (⟨b,off,none⟩:Addr)).map (·.add (n*2)))=af at e2;have C2:Hid _:=nr w4.heap.size 49 (.slice af (es.length-n) (ce-n)) (es.drop n) (w4.alloc (.cells #[.slice af (es.length-n) (ce-n)] 49)) (Cl.new _ _ _) (by
  have:=(sJ (by decide) R4.out n (by omega)).below (aq (.cells #[.slice af (es.length-n) (ce-n)] 49) (Below.refl _ _))
  rwa [hsf]at this) (by simp;omega)
 clear hsf
 go_wp2_with fail
 refine Calls.mono C2.out ?_;rintro e w5 ⟨a5,n5,m5,rfl,o5,b5⟩;have SV:Below w4.heap.size w4 w5:=jH b5 (aq _ (Below.refl _ _));have P1:Cl (w5.alloc (.cells #[.bool true,.slice a5 n5 m5,.slice none 0 0,.slice none 0 0] 170)) p #[.bool true,.slice (some ⟨b,off,none⟩) es.length ce,.slice ak ks.length ck,.slice az ss.length cz] 170:=(M1.on SV).alloc _;have P2:Cl (w5.alloc (.cells #[.bool true,.slice a5 n5 m5,.slice none 0 0,.slice none 0 0] 170)) (p+1) #[.bool false,.slice none 0 0,.slice none 0 0,.slice none 0 0] 170:=(M2.on SV).alloc _;have P3:Cl (w5.alloc (.cells #[.bool true,.slice a5 n5 m5,.slice none 0 0,.slice none 0 0] 170)) (p+1+1) #[.bool false,.slice none 0 0,.slice none 0 0,.slice none 0 0] 170:=(M3.on SV).alloc _;have P6:Cl (w5.alloc (.cells #[.bool true,.slice a5 n5 m5,.slice none 0 0,.slice none 0 0] 170)) q4 #[.bool true,.slice a3 n3 m3,.slice none 0 0,.slice none 0 0] 170:=(M6.on SV).alloc _;have P7:Cl (w5.alloc (.cells #[.bool true,.slice a5 n5 m5,.slice none 0 0,.slice none 0 0] 170)) w5.heap.size #[.bool true,.slice a5 n5 m5,.slice none 0 0,.slice none 0 0] 170:=Cl.new _ _ _;have b6:Below w4.heap.size w4 (w5.alloc (.cells #[.bool true,.slice a5 n5 m5,.slice none 0 0,.slice none 0 0] 170)):=aq _ SV;have B6:Hid (Below p w (w5.alloc (.cells #[.bool true,.slice a5 n5 m5,.slice none 0 0,.slice none 0 0] 170))):=B4.out.trans (b6.mono (by omega));have R6:Aside (Row ax 2 (w5.alloc (.cells #[.bool true,.slice a5 n5 m5,.slice none 0 0,.slice none 0 0] 170)) (.slice (some ⟨b,off,none⟩) es.length ce) es):=R4.out.below b6;have O6:Aside (bp (p+3) (w5.alloc (.cells #[.bool true,.slice a5 n5 m5,.slice none 0 0,.slice none 0 0] 170)) (.slice a3 n3 m3) (es.take n)):=ownsRow_below O4.out b6;have O7:Aside (bp (p+3) (w5.alloc (.cells #[.bool true,.slice a5 n5 m5,.slice none 0 0,.slice none 0 0] 170)) (.slice a5 n5 m5) (es.drop n)):=aH (ownsRow_below o5 (aq _ (Below.refl _ _))) (by simp;omega);have l6:=SV.size;clear b5 SV b6 M1 M2 M3 M6 R4 C2 c0 c1 c2 c3 B4 o5 O4
 go_upto_region 7 with fail
 generalize World.alloc _ _=w6 at*;obtain⟨q5,hq5⟩:∃q,w5.heap.size=q:=⟨_,rfl⟩;rw[hq5]at P7 l6⊢;clear hq5;obtain⟨_,_,e9,_,x1,x2⟩:=DZ R6.out n (by omega);cases e9;obtain⟨mid,hmid⟩:∃m,es[n]! =m:=⟨_,rfl⟩;rw[hmid]at x1 x2;have HM:Hid (es[n]! =mid):=hmid;clear hmid;obtain⟨c0,c1,c2,c3⟩:=P1.four;obtain⟨d0,d1,d2,d3⟩:=P2.four;obtain⟨e0,L8,e2',e3⟩:=P3.four;obtain⟨g0,g1,g2,g3⟩:=P2.thaw;obtain⟨i0,i1,i2,i3⟩:=P3.thaw;obtain⟨j0,j1,j2,j3⟩:=P6.four;obtain⟨k0,k1,k2,k3⟩:=P7.four;have u1:p≠p+1:=by omega
 have u2:p≠p+1+1:=by omega
 have u3:q4≠p+1:=by omega
 have u4:q4≠p+1+1:=by omega
 have u5:q5≠p+1:=by omega
 have u6:q5≠p+1+1:=by omega
 have u7:b≠p+1:=by omega
 have u8:b≠p+1+1:=by omega
 have u9:p+1≠p+1+1:=by omega
 have v1:=u1.symm;have v2:=u2.symm;have v3:=u3.symm;have v4:=u4.symm;have v5:=u5.symm;have v6:=u6.symm;have v7:=u7.symm;have v8:=u8.symm;have v9:=u9.symm
 go_region_held3 (fun X=>X.cell? ⟨p,1,none⟩=some (.slice (some ⟨b,off,none⟩) es.length ce)∧X.cell? ⟨b,off+n*2,none⟩=some (.string mid.1)∧X.cell? ⟨q4,0,none⟩=some (.bool true)∧X.cell? ⟨q4,1,none⟩=some (.slice a3 n3 m3)∧X.cell? ⟨q4,2,none⟩=some (.slice none 0 0)∧X.cell? ⟨q4,3,none⟩=some (.slice none 0 0)∧X.cell? ⟨q5,0,none⟩=some (.bool true)∧X.cell? ⟨q5,1,none⟩=some (.slice a5 n5 m5)∧X.cell? ⟨q5,2,none⟩=some (.slice none 0 0)∧X.cell? ⟨q5,3,none⟩=some (.slice none 0 0)) (go_keep) (fail)
 obtain⟨KA,KB,BX,OX⟩:=SU P2 P3 (.bool true) (.slice a3 n3 m3) (.slice none 0 0) (.slice none 0 0) (.bool true) (.slice a5 n5 m5) (.slice none 0 0) (.slice none 0 0);generalize((((((((w6.setCell ⟨p+1,0,none⟩ (.bool true)).setCell ⟨p+1,1,none⟩ (.slice a3 n3 m3)).setCell ⟨p+1,2,none⟩ (.slice none 0 0)).setCell ⟨p+1,3,none⟩ (.slice none 0 0)).setCell ⟨p+1+1,0,none⟩ (.bool true)).setCell ⟨p+1+1,1,none⟩ (.slice a5 n5 m5)).setCell ⟨p+1+1,2,none⟩ (.slice none 0 0)).setCell ⟨p+1+1,3,none⟩ (.slice none 0 0)).drew=X at*;have BF:Hid (Below p w X):=BX w B6.out;have OA:Hid (kT p X (.slice a3 n3 m3) (.slice none 0 0) (.slice none 0 0) ⟨true,es.take n,[],[]⟩):=⟨aH (OX _ _ _ _ _ O6.out) (by omega),dB.empty _ _,cI.empty _ _⟩;have OB:Hid (kT p X (.slice a5 n5 m5) (.slice none 0 0) (.slice none 0 0) ⟨true,es.drop n,[],[]⟩):=⟨aH (OX _ _ _ _ _ O7.out) (by omega),dB.empty _ _,cI.empty _ _⟩;clear BX OX;clear c0 c1 c2 c3 d0 d1 d2 d3 e0 L8 e2' e3 g0 g1 g2 g3 i0 i1 i2 i3 j0 j1 j2 j3 k0 k1 k2 k3 x1 x2;obtain⟨t0,t1,t2,t3⟩:=KA.four;obtain⟨r0,r1,r2,r3⟩:=KB.four;go_wp2
 (try simp only[Exit.inBlock,Exit.then])
 refine bodyPost_ret (v:=.tuple #[.agg #[.bool true,.slice a3 n3 m3,.slice none 0 0,.slice none 0 0],.string mid.1,.agg #[.bool true,.slice a5 n5 m5,.slice none 0 0,.slice none 0 0]]) ?_ rfl ⟨_,_,_,_,_,_,by rw[HM.out],by rw[HP.out];exact OA.out,by rw[HP.out];exact OB.out,by rw[HP.out];exact BF.out⟩;rw[kr rfl];go_simp
theorem zU {w:World}{ao:Option Addr}{n c:Nat}{l:List ByteArray}(h:Row encS 1 w (.slice ao n c) l)(i:Nat)(hi:i<l.length):∃b off,ao=some ⟨b,off,none⟩∧b<w.heap.size∧w.cell? ⟨b,off+i,none⟩=some (.string l[i]!):=by
 obtain⟨um,cap,e,h1,h2,h3⟩:=h;cases e;exact kS h3 i hi (Below.refl _ _)
def V8 (W0:World)(p n m nk ns ne ck cz ce:Nat)(ae ak:Option Addr)(b off:Nat)(x:List Int)(y:List ByteArray){y0 y2 y3 y4 y5 y6 y7 xC tF tG y13 uK qi qj tH xD xE y20 y21 y22 y23 y24 y25 zV y27 y28 y29 zW y31 y32 xI y34 uO uP xJ y38 y39 zX zY zZ z6 FV FW FX FY FZ F3 BM BN BO BP BQ BR Jx NT NU NY NZ N0 SX SY Ta V9 Wa Wb Wc Wd We Wh Tb Tc Td N5 y90 y91 N6 y93 Jy y95 y96:Value}(C:List Bool->Act->Prop)(w:World):Prop:=∀{f0 f1 f2 f3 f4 f5 f6 f7 f8 f9 f10 f11 f12 f13 f14 f15:Bool}{x9 D6 yB N7 Jz x66 JA N8 x69 N9 JD Oa XT Vb XW:Value},f15=false->Below W0.heap.size W0 w->Hid (f0=true->D6=.pointer (some ⟨p,2,none⟩))->Hid (f1=true->yB=.slice ak nk ck)->Hid (f2=true->N7=.int .i64 n)->Hid (f3=true->Jz=.slice ak n ck)->Hid (f4=true->∃qq,x66=.slice (some ⟨qq,0,none⟩) 1 1∧Cl w qq #[.slice ak n ck] 85)->Hid (f5=true->∃ao n c,JA=.slice ao n c∧dB W0.heap.size w JA (x))->Hid (f6=true->N8=.pointer (some ⟨p,3,none⟩))->Hid (f7=true->x69=.slice (some ⟨b,off,none⟩) ns cz)->Hid (f8=true->N9=.int .i64 n)->Hid (f9=true->JD=.int .i64 m)->Hid (f10=true->Oa=.slice (some ⟨b,off,none⟩) m cz)->Hid (f11=true->∃qq,XT=.slice (some ⟨qq,0,none⟩) 1 1∧Cl w qq #[.slice (some ⟨b,off,none⟩) m cz] 48)->Hid (f12=true->∃ao n c,Vb=.slice ao n c∧cI W0.heap.size w Vb (y))->Hid (f13=true->f5=true∧f12=true∧XW=.agg #[.bool false,.slice none 0 0,JA,Vb])->Hid (f14=true->∃qq,x9=.pointer (some ⟨qq,0,none⟩)∧W0.heap.size<=qq∧Cl w qq #[.bool false,.slice none 0 0,.slice none 0 0,.slice none 0 0] 170)->C [f0,f1,f2,f3,f4,f5,f6,f7,f8,f9,f10,f11,f12,f13,f14,f15] {tmps:=#[y0,.pointer (some ⟨p,0,none⟩),y2,y3,y4,y5,y6,y7,.int .i64 n,x9,xC,tF,tG,y13,uK,qi,qj,tH,xD,xE,y20,y21,y22,y23,y24,y25,zV,y27,y28,y29,zW,y31,y32,xI,y34,uO,uP,xJ,y38,y39,zX,zY,zZ,z6,FV,FW,FX,FY,FZ,F3,BM,BN,BO,BP,BQ,BR,Jx,NT,NU,NY,NZ,N0,D6,yB,N7,Jz,x66,JA,N8,x69,N9,JD,Oa,XT,Vb,XW,SX,SY,Ta,V9,Wa,Wb,Wc,Wd,We,Wh,Tb,Tc,Td,N5,y90,y91,N6,y93,Jy,y95,y96],defers:=[]}
def Wi (W0:World)(p n nk ns ne ck cz ce:Nat)(ae ak af:Option Addr)(ag:Option Addr)(b off:Nat)(x:List Int)(y:List ByteArray){y0 y2 y3 y4 y5 y6 y7 y9 tF tG y13 uK qi qj tH xD xE y20 y21 y22 y23 y24 y25 zV y27 y28 y29 zW y31 y32 xI y34 uO uP xJ y38 y39 zX zY zZ z6 FV FW FX FY FZ F3 BM BN BO BP BQ BR Jx NT NU NY NZ N0 Te Tf Oc Od Oe Og Oh Oi Oj Ol Om Oo Oq Ot N5 y90 y91 N6 y93 Jy y95 y96:Value}(C:List Bool->Act->Prop)(w:World):Prop:=∀{f0 f1 f2 f3 f4 f5 f6 f7 f8 f9 f10 f11 f12 f13 f14:Bool}{oK L9 Ma Mb BS x80 x81 x82 x83 x84 x85 x86 x87 x88:Value},f14=false->Below W0.heap.size W0 w->Hid (f0=true->L9=.pointer (some ⟨p,2,none⟩))->Hid (f1=true->Ma=.slice ak nk ck)->Hid (f2=true->Mb=.int .i64 n)->Hid (f3=true->BS=.slice af (nk-n) (ck-n))->Hid (f4=true->∃qq,x80=.slice (some ⟨qq,0,none⟩) 1 1∧Cl w qq #[.slice af (nk-n) (ck-n)] 85)->Hid (f5=true->∃ao n c,x81=.slice ao n c∧dB W0.heap.size w x81 (x))->Hid (f6=true->x82=.pointer (some ⟨p,3,none⟩))->Hid (f7=true->x83=.slice (some ⟨b,off,none⟩) ns cz)->Hid (f8=true->x84=.int .i64 n)->Hid (f9=true->x85=.slice ag (ns-n) (cz-n))->Hid (f10=true->∃qq,x86=.slice (some ⟨qq,0,none⟩) 1 1∧Cl w qq #[.slice ag (ns-n) (cz-n)] 48)->Hid (f11=true->∃ao n c,x87=.slice ao n c∧cI W0.heap.size w x87 (y))->Hid (f12=true->f5=true∧f11=true∧x88=.agg #[.bool false,.slice none 0 0,x81,x87])->Hid (f13=true->∃qq,oK=.pointer (some ⟨qq,0,none⟩)∧W0.heap.size<=qq∧Cl w qq #[.bool false,.slice none 0 0,.slice none 0 0,.slice none 0 0] 170)->C [f0,f1,f2,f3,f4,f5,f6,f7,f8,f9,f10,f11,f12,f13,f14] {tmps:=#[y0,.pointer (some ⟨p,0,none⟩),y2,y3,y4,y5,y6,y7,.int .i64 n,y9,oK,tF,tG,y13,uK,qi,qj,tH,xD,xE,y20,y21,y22,y23,y24,y25,zV,y27,y28,y29,zW,y31,y32,xI,y34,uO,uP,xJ,y38,y39,zX,zY,zZ,z6,FV,FW,FX,FY,FZ,F3,BM,BN,BO,BP,BQ,BR,Jx,NT,NU,NY,NZ,N0,Te,Tf,Oc,Od,Oe,Og,Oh,Oi,Oj,Ol,Om,Oo,Oq,Ot,L9,Ma,Mb,BS,x80,x81,x82,x83,x84,x85,x86,x87,x88,N5,y90,y91,N6,y93,Jy,y95,y96],defers:=[]}
theorem z7 (es:List En)(ks:List Int)(ss:List ByteArray)(ve vk vs:Value)(w:World)(h:iw w ve vk vs ⟨false,es,ks,ss⟩)(hm:Sm ⟨false,es,ks,ss⟩)(hr:zC ⟨false,es,ks,ss⟩=true)(n m:Nat)(hn:n=ks.length/2)(hnm:n=m+1):
  Calls Tryz.prog 147 #[.agg #[.bool false,ve,vk,vs]] w (V7 w ⟨false,[],ks.take n,ss.take m⟩ ss[m]! ⟨false,[],ks.drop n,ss.drop n⟩):=by
 obtain⟨z0,h2k,hks,_,_⟩:=vD hr rfl;simp only at z0 h2k hks;have hrt:dF ⟨false,es,ks,ss⟩=true:=by unfold zC at hr;rw[Bool.and_eq_true]at hr;exact hr.1
 obtain⟨ae,ce,rfl,hce⟩:=aG h.e;obtain⟨ak,ck,rfl,hck⟩:=aG h.k;obtain⟨az,cz,rfl,hcz⟩:=aG h.s;simp only at*;obtain⟨b,off,rfl,hb,_⟩:=zU h.s m (show m<ss.length by omega);have HR0:=h;have Zf:=sI (by decide) h.k n (show n<=ks.length by omega);have Zg:=sI (by decide) h.s m (show m<=ss.length by omega);have XZ:=sJ (by decide) h.k n (show n<=ks.length by omega);have X0:=sJ (by decide) h.s n (show n<=ss.length by omega);have e1:=zF ak ks.length ck n (by omega);have e2:=zH (some ⟨b,off,none⟩) ss.length cz m (by omega);have e3:=zG ak ks.length ck n (by omega);have e4:=zI (some ⟨b,off,none⟩) ss.length cz n (by omega);generalize(if ck=n then ak else ak.map (·.add (n*1)))=af at e3 XZ;generalize(if cz=n then some ⟨b,off,none⟩else(some (⟨b,off,none⟩:Addr)).map (·.add (n*1)))=ag at e4 X0;have SM:Hid (Sm ⟨false,es,ks,ss⟩):=hm;have s2:=hm.k;have s3:=hm.s;simp only at s2 s3;have HS2:Hid (∀W,Below w.heap.size w W->Calls Tryz.prog 130 #[.agg #[.bool false,.slice ae es.length ce,.slice ak ks.length ck,.slice (some ⟨b,off,none⟩) ss.length cz]] W fun e w'=>e=.returned (.bool true)∧Below W.heap.size W w'):=fun W hW=>by
  have:=eO _ _ _ _ W (HR0.below hW) hm;rw[hrt]at this;exact this
 have lx:(ks.take n).length<=1000:=by rw[List.length_take];omega
 have ly:(ss.take m).length<=1000:=by rw[List.length_take];omega
 have lu:(ks.drop n).length<=1000:=by rw[List.length_drop];omega
 have lv:(ss.drop n).length<=1000:=by rw[List.length_drop];omega
 obtain⟨x,hx⟩:∃x,ks.take n=x:=⟨_,rfl⟩;obtain⟨y,hy⟩:∃x,ss.take m=x:=⟨_,rfl⟩;obtain⟨u,hu⟩:∃x,ks.drop n=x:=⟨_,rfl⟩;obtain⟨v,hv⟩:∃x,ss.drop n=x:=⟨_,rfl⟩;rw[hx]at Zf lx;rw[hy]at Zg ly;rw[hu]at XZ lu;rw[hv]at X0 lv;have XX:Hid (x=ks.take n):=hx.symm;have XY:Hid (y=ss.take m):=hy.symm;have XU:Hid (u=ks.drop n):=hu.symm;have XV:Hid (v=ss.drop n):=hv.symm;have RKw:Aside (Row encI 1 w (.slice ak ks.length ck) ks):=h.k;have RSw:Aside (Row encS 1 w (.slice (some ⟨b,off,none⟩) ss.length cz) ss):=h.s;have hne0:es.length=0:=by rw[z0];rfl
 clear hx hy hu hv hm hr hrt h HR0 z0;generalize hlk:ks.length=nk at*;generalize hls:ss.length=ns at*;generalize hle:es.length=ne at*;have n2:(nk:Int)/2=(n:Int):=by omega
 have n1:(n:Int)-1=(m:Int):=by omega
 have l0:¬(nk:Int)<2:=by omega
 have l1:(ne:Int)<2:=by omega
 have HKN:Hid (n=nk/2):=hn;have qm:m<n:=by omega
 have wm:IntKind.i64.wrap (m:Int)=(m:Int):=by rw[IntKind.wrap_i64];omega
 have qn:n<nk:=by omega
 have qs:n<=ns:=by omega
 have HLS:Hid (ss.length=ns):=hls;have BW:Hid (Below w.heap.size w (((w.alloc (.cells #[.bool false,.slice ae ne ce,.slice ak nk ck,.slice (some ⟨b,off,none⟩) ns cz] 170)).alloc (.cells #[.bool false,.slice none 0 0,.slice none 0 0,.slice none 0 0] 170)).alloc (.cells #[.bool false,.slice none 0 0,.slice none 0 0,.slice none 0 0] 170))):=aq _ (aq _ (aq _ (Below.refl _ _)));have Wj:Cl (((w.alloc (.cells #[.bool false,.slice ae ne ce,.slice ak nk ck,.slice (some ⟨b,off,none⟩) ns cz] 170)).alloc (.cells #[.bool false,.slice none 0 0,.slice none 0 0,.slice none 0 0] 170)).alloc (.cells #[.bool false,.slice none 0 0,.slice none 0 0,.slice none 0 0] 170)) w.heap.size #[.bool false,.slice ae ne ce,.slice ak nk ck,.slice (some ⟨b,off,none⟩) ns cz] 170:=((Cl.lY _ _ _).alloc _).alloc _;have Zh:Cl (((w.alloc (.cells #[.bool false,.slice ae ne ce,.slice ak nk ck,.slice (some ⟨b,off,none⟩) ns cz] 170)).alloc (.cells #[.bool false,.slice none 0 0,.slice none 0 0,.slice none 0 0] 170)).alloc (.cells #[.bool false,.slice none 0 0,.slice none 0 0,.slice none 0 0] 170)) (w.heap.size+1) #[.bool false,.slice none 0 0,.slice none 0 0,.slice none 0 0] 170:=(Cl.pU _ _ _ _).alloc _;have Zi:Cl (((w.alloc (.cells #[.bool false,.slice ae ne ce,.slice ak nk ck,.slice (some ⟨b,off,none⟩) ns cz] 170)).alloc (.cells #[.bool false,.slice none 0 0,.slice none 0 0,.slice none 0 0] 170)).alloc (.cells #[.bool false,.slice none 0 0,.slice none 0 0,.slice none 0 0] 170)) (w.heap.size+1+1) #[.bool false,.slice none 0 0,.slice none 0 0,.slice none 0 0] 170:=Cl.Bv _ _ _ _ _;have CR:Hid _:=HS2.out _ BW.out;clear HS2 hle hls hlk hne0 hn hnm;go_enter Tryz.func147,Tryz.ntmps147
 go_upto_region 1 with fail
 generalize World.alloc _ _=W at*;obtain⟨p,hp⟩:∃p,w.heap.size=p:=⟨_,rfl⟩;have HP:Hid (w.heap.size=p):=hp;rw[hp]at Wj Zh Zi BW hb⊢;obtain⟨c0,c1,c2,c3⟩:=Wj.four
 go_wp2_with fail
 refine Calls.mono CR.out ?_;rintro e w1 ⟨rfl,b1⟩;have K1:Cl w1 p #[.bool false,.slice ae ne ce,.slice ak nk ck,.slice (some ⟨b,off,none⟩) ns cz] 170:=Wj.on b1;have K2:Cl w1 (p+1) #[.bool false,.slice none 0 0,.slice none 0 0,.slice none 0 0] 170:=Zh.on b1;have K3:Cl w1 (p+1+1) #[.bool false,.slice none 0 0,.slice none 0 0,.slice none 0 0] 170:=Zi.on b1;have B1:Hid (Below p w w1):=BW.out.trans (b1.mono (by have:=Wj.lt;omega));have XS:Aside (Row encI 1 w1 (.slice ak nk ck) ks):=RKw.out.below (by rw[hp];exact B1.out);have V3:Aside (Row encS 1 w1 (.slice (some ⟨b,off,none⟩) ns cz) ss):=RSw.out.below (by rw[hp];exact B1.out);have RX:Aside (Row encI 1 w1 (.slice ak n ck) x):=Zf.below (by rw[hp];exact B1.out);have RY:Aside (Row encS 1 w1 (.slice (some ⟨b,off,none⟩) m cz) y):=Zg.below (by rw[hp];exact B1.out);have Zj:Aside (∀X,Below p w X->Row encI 1 X (.slice af (nk-n) (ck-n)) u):=fun X hX=>XZ.below (by rw[hp];exact hX);have Zk:Aside (∀X,Below p w X->Row encS 1 X (.slice ag (ns-n) (cz-n)) v):=fun X hX=>X0.below (by rw[hp];exact hX);have lW:=K3.lt;clear b1 Wj Zh Zi CR BW c0 c1 c2 c3 RKw RSw Zf Zg XZ X0 hp;obtain⟨c0,c1,c2,c3⟩:=K1.four;have MK:Hid (∀X,Below w1.heap.size w1 X->X.cell? ⟨p,0,none⟩=some (.bool false)∧X.cell? ⟨p,1,none⟩=some (.slice ae ne ce)∧X.cell? ⟨p,2,none⟩=some (.slice ak nk ck)∧X.cell? ⟨p,3,none⟩=some (.slice (some ⟨b,off,none⟩) ns cz)):=fun X hX=>(K1.on hX).four
 go_upto_region 9 with fail
 clear c0 c1 c2 c3;refine bc 15 (V8 w1 p n m nk ns ne ck cz ce ae ak b off x y) (by kernel_rfl) (by kernel_rfl) (by kernel_rfl) (fun _ k=>k rfl ((Below.refl _ w1).drew) ar ar ar ar ar ar ar ar ar ar ar ar ar ar ar) ?_ ?_ ?_
 ·intro i w' hne f0 f1 f2 f3 f4 f5 f6 f7 f8 f9 f10 f11 f12 f13 f14 f15 x9 D6 yB N7 Jz x66 JA N8 x69 N9 JD Oa XT Vb XW e15 hB h0 h1 h2 h3 h4 h5 h6 h7 h8 h9 h10 h11 h12 dN fP hi;obtain⟨hlt,hun,_⟩:=aP hi;have hlt':i<16:=hlt;clear hlt;rcases(by omega:i=0∨i=1∨i=2∨i=3∨i=4∨i=5∨i=6∨i=7∨i=8∨i=9∨i=10∨i=11∨i=12∨i=13∨i=14)with rfl|rfl|rfl|rfl|rfl|rfl|rfl|rfl|rfl|rfl|rfl|rfl|rfl|rfl|rfl
  refine ai rfl fun K HK=>?_;go_simp
  rotate_left
  cases h0 (ah 0 hi (by kernel_rfl));have cell:=(MK.out _ hB).2.2.1;refine ai rfl fun K HK=>?_;go_simp
  rotate_left
  refine ai rfl fun K HK=>?_;go_simp
  rotate_left
  cases h1 (ah 1 hi (by kernel_rfl));cases h2 (ah 2 hi (by kernel_rfl));refine ai rfl fun K HK=>?_;go_simp
  rotate_left
  ·cases h3 (ah 3 hi (by kernel_rfl));refine ai rfl fun K HK=>?_;go_simp;exact HK.out _ _ fun _ k=>k e15 (aq _ hB) h0 h1 h2 h3 (fun _=>⟨_,rfl,Cl.new _ _ _⟩) (fun d=>let⟨ao,n,c,e,o⟩:=h5.out d;⟨ao,n,c,e,ownsRow_below o (aq _ (Below.refl _ _))⟩) h6 h7 h8 h9 h10 (fun d=>let⟨q,e,c⟩:=h11.out d;⟨q,e,Cl.on c (aq _ (Below.refl _ _))⟩) (fun d=>let⟨ao,n,c,e,o⟩:=h12.out d;⟨ao,n,c,e,ownsRow_below o (aq _ (Below.refl _ _))⟩) dN (fun d=>let⟨q,e,l,c⟩:=fP.out d;⟨q,e,l,Cl.on c (aq _ (Below.refl _ _))⟩)
  ·have un:f5=false:=hun;obtain⟨q4,rfl,c4⟩:=h4.out (ah 4 hi (by kernel_rfl));refine ai rfl fun K HK=>?_;go_simp;refine Calls.mono (sK q4 85 (.slice ak n ck) x w' c4 (RX.out.below hB) (by omega)) ?_;rintro e w1 ⟨ao,nn,cc,rfl,ow,b1⟩;exact HK.out _ _ fun _ k=>k e15 (jH b1 hB) h0 h1 h2 h3 (fun d=>let⟨q,e,c⟩:=h4.out d;⟨q,e,Cl.on c (b1)⟩) (fun _=>⟨ao,nn,cc,rfl,aH ow hB.size⟩) h6 h7 h8 h9 h10 (fun d=>let⟨q,e,c⟩:=h11.out d;⟨q,e,Cl.on c (b1)⟩) (fun d=>let⟨ao,n,c,e,o⟩:=h12.out d;⟨ao,n,c,e,ownsRow_below o (b1)⟩) (fun d=>by have e:=(dN.out d).1;rw[un]at e;cases e) (fun d=>let⟨q,e,l,c⟩:=fP.out d;⟨q,e,l,Cl.on c (b1)⟩)
  refine ai rfl fun K HK=>?_;go_simp
  rotate_left
  cases h6 (ah 6 hi (by kernel_rfl));have cell:=(MK.out _ hB).2.2.2;refine ai rfl fun K HK=>?_;go_simp
  rotate_left
  refine ai rfl fun K HK=>?_;go_simp
  rotate_left
  cases h8 (ah 8 hi (by kernel_rfl));refine ai rfl fun K HK=>?_;go_simp
  rotate_left
  cases h7 (ah 7 hi (by kernel_rfl));cases h9 (ah 9 hi (by kernel_rfl));refine ai rfl fun K HK=>?_;go_simp
  rotate_left
  ·cases h10 (ah 10 hi (by kernel_rfl));refine ai rfl fun K HK=>?_;go_simp;exact HK.out _ _ fun _ k=>k e15 (aq _ hB) h0 h1 h2 h3 (fun d=>let⟨q,e,c⟩:=h4.out d;⟨q,e,Cl.on c (aq _ (Below.refl _ _))⟩) (fun d=>let⟨ao,n,c,e,o⟩:=h5.out d;⟨ao,n,c,e,ownsRow_below o (aq _ (Below.refl _ _))⟩) h6 h7 h8 h9 h10 (fun _=>⟨_,rfl,Cl.new _ _ _⟩) (fun d=>let⟨ao,n,c,e,o⟩:=h12.out d;⟨ao,n,c,e,ownsRow_below o (aq _ (Below.refl _ _))⟩) dN (fun d=>let⟨q,e,l,c⟩:=fP.out d;⟨q,e,l,Cl.on c (aq _ (Below.refl _ _))⟩)
  ·have un:f12=false:=hun;obtain⟨q11,rfl,c11⟩:=h11.out (ah 11 hi (by kernel_rfl));refine ai rfl fun K HK=>?_;go_simp;refine Calls.mono (sL q11 48 (.slice (some ⟨b,off,none⟩) m cz) y w' c11 (RY.out.below hB) (by omega)) ?_;rintro e w1 ⟨ao,nn,cc,rfl,ow,b1⟩;exact HK.out _ _ fun _ k=>k e15 (jH b1 hB) h0 h1 h2 h3 (fun d=>let⟨q,e,c⟩:=h4.out d;⟨q,e,Cl.on c (b1)⟩) (fun d=>let⟨ao,n,c,e,o⟩:=h5.out d;⟨ao,n,c,e,ownsRow_below o (b1)⟩) h6 h7 h8 h9 h10 (fun d=>let⟨q,e,c⟩:=h11.out d;⟨q,e,Cl.on c (b1)⟩) (fun _=>⟨ao,nn,cc,rfl,aH ow hB.size⟩) (fun d=>by have e:=(dN.out d).2.1;rw[un]at e;cases e) (fun d=>let⟨q,e,l,c⟩:=fP.out d;⟨q,e,l,Cl.on c (b1)⟩)
  ·have d5:f5=true:=ah 5 hi (by kernel_rfl);obtain⟨a5,n5,m5,rfl,o5⟩:=h5.out d5;have d12:f12=true:=ah 12 hi (by kernel_rfl);obtain⟨a12,n12,m12,rfl,Zl⟩:=h12.out d12;refine ai rfl fun K HK=>?_;go_simp;exact HK.out _ _ fun _ k=>k e15 hB h0 h1 h2 h3 h4 h5 h6 h7 h8 h9 h10 h11 h12 (fun _=>⟨d5,d12,rfl⟩) fP
  ·refine ai rfl fun K HK=>?_;go_simp;exact HK.out _ _ fun _ k=>k e15 (aq _ hB) h0 h1 h2 h3 (fun d=>let⟨q,e,c⟩:=h4.out d;⟨q,e,Cl.on c (aq _ (Below.refl _ _))⟩) (fun d=>let⟨ao,n,c,e,o⟩:=h5.out d;⟨ao,n,c,e,ownsRow_below o (aq _ (Below.refl _ _))⟩) h6 h7 h8 h9 h10 (fun d=>let⟨q,e,c⟩:=h11.out d;⟨q,e,Cl.on c (aq _ (Below.refl _ _))⟩) (fun d=>let⟨ao,n,c,e,o⟩:=h12.out d;⟨ao,n,c,e,ownsRow_below o (aq _ (Below.refl _ _))⟩) dN (fun _=>⟨_,rfl,hB.size,Cl.new _ _ _⟩)
  all_goals exact HK.out _ _ fun _ k=>by apply k<;>first|assumption|exact hidR|(repeat' first|apply Exists.intro|assumption|rfl|apply And.intro|exact fun _=>rfl)
 ·intro w' f0 f1 f2 f3 f4 f5 f6 f7 f8 f9 f10 f11 f12 f13 f14 f15 x9 D6 yB N7 Jz x66 JA N8 x69 N9 JD Oa XT Vb XW e15 hB h0 h1 h2 h3 h4 h5 h6 h7 h8 h9 h10 h11 h12 dN fP hi;have d13:f13=true:=ah 13 hi (by kernel_rfl);obtain⟨_,_,rfl⟩:=dN.out d13;have d14:f14=true:=ah 14 hi (by kernel_rfl);obtain⟨iM,rfl,l14,c14⟩:=fP.out d14;have d5:f5=true:=ah 5 hi (by kernel_rfl);obtain⟨a5,n5,m5,rfl,o5⟩:=h5.out d5;have d12:f12=true:=ah 12 hi (by kernel_rfl);obtain⟨a12,n12,m12,rfl,Zl⟩:=h12.out d12;clear hi;obtain⟨y0,y1,y2,y3⟩:=c14.four;obtain⟨g0,g1,g2,g3⟩:=c14.thaw;refine ai rfl fun K HK=>?_;go_simp;refine HK.out _ _ ?_;have M6:Cl ((((w'.setCell ⟨iM,0,none⟩ (.bool false)).setCell ⟨iM,1,none⟩ (.slice none 0 0)).setCell ⟨iM,2,none⟩ (.slice a5 n5 m5)).setCell ⟨iM,3,none⟩ (.slice a12 n12 m12)) iM #[.bool false,.slice none 0 0,.slice a5 n5 m5,.slice a12 n12 m12] 170:=c14.fk _ _ _ _;have b4:Below w1.heap.size w1 ((((w'.setCell ⟨iM,0,none⟩ (.bool false)).setCell ⟨iM,1,none⟩ (.slice none 0 0)).setCell ⟨iM,2,none⟩ (.slice a5 n5 m5)).setCell ⟨iM,3,none⟩ (.slice a12 n12 m12)):=dg hB l14;have M1:Cl ((((w'.setCell ⟨iM,0,none⟩ (.bool false)).setCell ⟨iM,1,none⟩ (.slice none 0 0)).setCell ⟨iM,2,none⟩ (.slice a5 n5 m5)).setCell ⟨iM,3,none⟩ (.slice a12 n12 m12)) p #[.bool false,.slice ae ne ce,.slice ak nk ck,.slice (some ⟨b,off,none⟩) ns cz] 170:=K1.on b4;have M2:Cl ((((w'.setCell ⟨iM,0,none⟩ (.bool false)).setCell ⟨iM,1,none⟩ (.slice none 0 0)).setCell ⟨iM,2,none⟩ (.slice a5 n5 m5)).setCell ⟨iM,3,none⟩ (.slice a12 n12 m12)) (p+1) #[.bool false,.slice none 0 0,.slice none 0 0,.slice none 0 0] 170:=K2.on b4;have M3:Cl ((((w'.setCell ⟨iM,0,none⟩ (.bool false)).setCell ⟨iM,1,none⟩ (.slice none 0 0)).setCell ⟨iM,2,none⟩ (.slice a5 n5 m5)).setCell ⟨iM,3,none⟩ (.slice a12 n12 m12)) (p+1+1) #[.bool false,.slice none 0 0,.slice none 0 0,.slice none 0 0] 170:=K3.on b4;have B4:Hid (Below p w ((((w'.setCell ⟨iM,0,none⟩ (.bool false)).setCell ⟨iM,1,none⟩ (.slice none 0 0)).setCell ⟨iM,2,none⟩ (.slice a5 n5 m5)).setCell ⟨iM,3,none⟩ (.slice a12 n12 m12))):=B1.out.trans (b4.mono (by omega));have RK4:Aside (Row encI 1 ((((w'.setCell ⟨iM,0,none⟩ (.bool false)).setCell ⟨iM,1,none⟩ (.slice none 0 0)).setCell ⟨iM,2,none⟩ (.slice a5 n5 m5)).setCell ⟨iM,3,none⟩ (.slice a12 n12 m12)) (.slice ak nk ck) ks):=XS.out.below b4;have RS4:Aside (Row encS 1 ((((w'.setCell ⟨iM,0,none⟩ (.bool false)).setCell ⟨iM,1,none⟩ (.slice none 0 0)).setCell ⟨iM,2,none⟩ (.slice a5 n5 m5)).setCell ⟨iM,3,none⟩ (.slice a12 n12 m12)) (.slice (some ⟨b,off,none⟩) ns cz) ss):=V3.out.below b4;have OA4:Aside (dB (p+3) ((((w'.setCell ⟨iM,0,none⟩ (.bool false)).setCell ⟨iM,1,none⟩ (.slice none 0 0)).setCell ⟨iM,2,none⟩ (.slice a5 n5 m5)).setCell ⟨iM,3,none⟩ (.slice a12 n12 m12)) (.slice a5 n5 m5) (ks.take n)):=by
   have h:=nK (a:=.bool false) (b:=.slice none 0 0) (c:=.slice a5 n5 m5) (d:=.slice a12 n12 m12) o5 c14 (by decide);rw[XX.out]at h;exact aH h (by omega)
  have OD4:Aside (cI (p+3) ((((w'.setCell ⟨iM,0,none⟩ (.bool false)).setCell ⟨iM,1,none⟩ (.slice none 0 0)).setCell ⟨iM,2,none⟩ (.slice a5 n5 m5)).setCell ⟨iM,3,none⟩ (.slice a12 n12 m12)) (.slice a12 n12 m12) (ss.take m)):=by
   have h:=nK (a:=.bool false) (b:=.slice none 0 0) (c:=.slice a5 n5 m5) (d:=.slice a12 n12 m12) Zl c14 (by decide);rw[XY.out]at h;exact aH h (by omega)
  clear o5 Zl hB b4 y0 y1 y2 y3 g0 g1 g2 g3 h0 h1 h2 h3 h4 h5 h6 h7 h8 h9 h10 h11 h12 dN fP c14 K1 K2 K3 B1 XS V3 RX RY MK;generalize World.setCell _ _ _=w2 at*;obtain⟨qA,aA,nA,mA,aD,nD,mD,ee⟩:∃qA aA nA mA aD nD mD,(qA,aA,nA,mA,aD,nD,mD)=(iM,a5,n5,m5,a12,n12,m12):=⟨_,_,_,_,_,_,_,rfl⟩;simp only[Prod.mk.injEq]at ee;obtain⟨rfl,rfl,rfl,rfl,rfl,rfl,rfl⟩:=ee;have lA:p+3<=qA:=by omega
  have l2:=M6.lt;have RU:Aside (Row encI 1 w2 (.slice af (nk-n) (ck-n)) u):=Zj.out _ B4.out;have RV:Aside (Row encS 1 w2 (.slice ag (ns-n) (cz-n)) v):=Zk.out _ B4.out;have MK:Hid (∀X,Below w2.heap.size w2 X->X.cell? ⟨p,0,none⟩=some (.bool false)∧X.cell? ⟨p,1,none⟩=some (.slice ae ne ce)∧X.cell? ⟨p,2,none⟩=some (.slice ak nk ck)∧X.cell? ⟨p,3,none⟩=some (.slice (some ⟨b,off,none⟩) ns cz)):=fun X hX=>(M1.on hX).four
  go_upto_region 10 with fail
  refine bc 14 (Wi w2 p n nk ns ne ck cz ce ae ak af ag b off u v) (by kernel_rfl) (by kernel_rfl) (by kernel_rfl) (fun _ k=>k rfl ((Below.refl _ w2).drew) ar ar ar ar ar ar ar ar ar ar ar ar ar ar) ?_ ?_ ?_
  ·intro i w' hne f0 f1 f2 f3 f4 f5 f6 f7 f8 f9 f10 f11 f12 f13 f14 oK L9 Ma Mb BS x80 x81 x82 x83 x84 x85 x86 x87 x88 e14 hB h0 h1 h2 h3 h4 h5 h6 h7 h8 h9 h10 h11 h12 dN hi;obtain⟨hlt,hun,_⟩:=aP hi;have hlt':i<15:=hlt;clear hlt;rcases(by omega:i=0∨i=1∨i=2∨i=3∨i=4∨i=5∨i=6∨i=7∨i=8∨i=9∨i=10∨i=11∨i=12∨i=13)with rfl|rfl|rfl|rfl|rfl|rfl|rfl|rfl|rfl|rfl|rfl|rfl|rfl|rfl
   refine ai rfl fun K HK=>?_;go_simp
   rotate_left
   cases h0 (ah 0 hi (by kernel_rfl));have cell:=(MK.out _ hB).2.2.1;refine ai rfl fun K HK=>?_;go_simp
   rotate_left
   refine ai rfl fun K HK=>?_;go_simp
   rotate_left
   cases h1 (ah 1 hi (by kernel_rfl));cases h2 (ah 2 hi (by kernel_rfl));refine ai rfl fun K HK=>?_;go_simp
   rotate_left
   ·cases h3 (ah 3 hi (by kernel_rfl));refine ai rfl fun K HK=>?_;go_simp;exact HK.out _ _ fun _ k=>k e14 (aq _ hB) h0 h1 h2 h3 (fun _=>⟨_,rfl,Cl.new _ _ _⟩) (fun d=>let⟨ao,n,c,e,o⟩:=h5.out d;⟨ao,n,c,e,ownsRow_below o (aq _ (Below.refl _ _))⟩) h6 h7 h8 h9 (fun d=>let⟨q,e,c⟩:=h10.out d;⟨q,e,Cl.on c (aq _ (Below.refl _ _))⟩) (fun d=>let⟨ao,n,c,e,o⟩:=h11.out d;⟨ao,n,c,e,ownsRow_below o (aq _ (Below.refl _ _))⟩) h12 (fun d=>let⟨q,e,l,c⟩:=dN.out d;⟨q,e,l,Cl.on c (aq _ (Below.refl _ _))⟩)
   ·have un:f5=false:=hun;obtain⟨q4,rfl,c4⟩:=h4.out (ah 4 hi (by kernel_rfl));refine ai rfl fun K HK=>?_;go_simp;refine Calls.mono (sK q4 85 (.slice af (nk-n) (ck-n)) u w' c4 (RU.out.below hB) (by omega)) ?_;rintro e w1 ⟨ao,nn,cc,rfl,ow,b1⟩;exact HK.out _ _ fun _ k=>k e14 (jH b1 hB) h0 h1 h2 h3 (fun d=>let⟨q,e,c⟩:=h4.out d;⟨q,e,Cl.on c (b1)⟩) (fun _=>⟨ao,nn,cc,rfl,aH ow hB.size⟩) h6 h7 h8 h9 (fun d=>let⟨q,e,c⟩:=h10.out d;⟨q,e,Cl.on c (b1)⟩) (fun d=>let⟨ao,n,c,e,o⟩:=h11.out d;⟨ao,n,c,e,ownsRow_below o (b1)⟩) (fun d=>by have e:=(h12.out d).1;rw[un]at e;cases e) (fun d=>let⟨q,e,l,c⟩:=dN.out d;⟨q,e,l,Cl.on c (b1)⟩)
   refine ai rfl fun K HK=>?_;go_simp
   rotate_left
   cases h6 (ah 6 hi (by kernel_rfl));have cell:=(MK.out _ hB).2.2.2;refine ai rfl fun K HK=>?_;go_simp
   rotate_left
   refine ai rfl fun K HK=>?_;go_simp
   rotate_left
   cases h7 (ah 7 hi (by kernel_rfl));cases h8 (ah 8 hi (by kernel_rfl));refine ai rfl fun K HK=>?_;go_simp
   rotate_left
   ·cases h9 (ah 9 hi (by kernel_rfl));refine ai rfl fun K HK=>?_;go_simp;exact HK.out _ _ fun _ k=>k e14 (aq _ hB) h0 h1 h2 h3 (fun d=>let⟨q,e,c⟩:=h4.out d;⟨q,e,Cl.on c (aq _ (Below.refl _ _))⟩) (fun d=>let⟨ao,n,c,e,o⟩:=h5.out d;⟨ao,n,c,e,ownsRow_below o (aq _ (Below.refl _ _))⟩) h6 h7 h8 h9 (fun _=>⟨_,rfl,Cl.new _ _ _⟩) (fun d=>let⟨ao,n,c,e,o⟩:=h11.out d;⟨ao,n,c,e,ownsRow_below o (aq _ (Below.refl _ _))⟩) h12 (fun d=>let⟨q,e,l,c⟩:=dN.out d;⟨q,e,l,Cl.on c (aq _ (Below.refl _ _))⟩)
   ·have un:f11=false:=hun;obtain⟨q10,rfl,c10⟩:=h10.out (ah 10 hi (by kernel_rfl));refine ai rfl fun K HK=>?_;go_simp;refine Calls.mono (sL q10 48 (.slice ag (ns-n) (cz-n)) v w' c10 (RV.out.below hB) (by omega)) ?_;rintro e w1 ⟨ao,nn,cc,rfl,ow,b1⟩;exact HK.out _ _ fun _ k=>k e14 (jH b1 hB) h0 h1 h2 h3 (fun d=>let⟨q,e,c⟩:=h4.out d;⟨q,e,Cl.on c (b1)⟩) (fun d=>let⟨ao,n,c,e,o⟩:=h5.out d;⟨ao,n,c,e,ownsRow_below o (b1)⟩) h6 h7 h8 h9 (fun d=>let⟨q,e,c⟩:=h10.out d;⟨q,e,Cl.on c (b1)⟩) (fun _=>⟨ao,nn,cc,rfl,aH ow hB.size⟩) (fun d=>by have e:=(h12.out d).2.1;rw[un]at e;cases e) (fun d=>let⟨q,e,l,c⟩:=dN.out d;⟨q,e,l,Cl.on c (b1)⟩)
   ·have d5:f5=true:=ah 5 hi (by kernel_rfl);obtain⟨a5,n5,m5,rfl,o5⟩:=h5.out d5;have d11:f11=true:=ah 11 hi (by kernel_rfl);obtain⟨yC,n11,m11,rfl,Zm⟩:=h11.out d11;refine ai rfl fun K HK=>?_;go_simp;exact HK.out _ _ fun _ k=>k e14 hB h0 h1 h2 h3 h4 h5 h6 h7 h8 h9 h10 h11 (fun _=>⟨d5,d11,rfl⟩) dN
   ·refine ai rfl fun K HK=>?_;go_simp;exact HK.out _ _ fun _ k=>k e14 (aq _ hB) h0 h1 h2 h3 (fun d=>let⟨q,e,c⟩:=h4.out d;⟨q,e,Cl.on c (aq _ (Below.refl _ _))⟩) (fun d=>let⟨ao,n,c,e,o⟩:=h5.out d;⟨ao,n,c,e,ownsRow_below o (aq _ (Below.refl _ _))⟩) h6 h7 h8 h9 (fun d=>let⟨q,e,c⟩:=h10.out d;⟨q,e,Cl.on c (aq _ (Below.refl _ _))⟩) (fun d=>let⟨ao,n,c,e,o⟩:=h11.out d;⟨ao,n,c,e,ownsRow_below o (aq _ (Below.refl _ _))⟩) h12 (fun _=>⟨_,rfl,hB.size,Cl.new _ _ _⟩)
   all_goals exact HK.out _ _ fun _ k=>by apply k<;>first|assumption|exact hidR|(repeat' first|apply Exists.intro|assumption|rfl|apply And.intro|exact fun _=>rfl)
  ·intro w' f0 f1 f2 f3 f4 f5 f6 f7 f8 f9 f10 f11 f12 f13 f14 oK L9 Ma Mb BS x80 x81 x82 x83 x84 x85 x86 x87 x88 e14 hB h0 h1 h2 h3 h4 h5 h6 h7 h8 h9 h10 h11 h12 dN hi;have d12:f12=true:=ah 12 hi (by kernel_rfl);obtain⟨_,_,rfl⟩:=h12.out d12;have d13:f13=true:=ah 13 hi (by kernel_rfl);obtain⟨gM,rfl,l13,c13⟩:=dN.out d13;have d5:f5=true:=ah 5 hi (by kernel_rfl);obtain⟨a5,n5,m5,rfl,o5⟩:=h5.out d5;have d11:f11=true:=ah 11 hi (by kernel_rfl);obtain⟨yC,n11,m11,rfl,Zm⟩:=h11.out d11;clear hi;obtain⟨y0,y1,y2,y3⟩:=c13.four;obtain⟨g0,g1,g2,g3⟩:=c13.thaw;refine ai rfl fun K HK=>?_;go_simp;refine HK.out _ _ ?_;have KB:Cl ((((w'.setCell ⟨gM,0,none⟩ (.bool false)).setCell ⟨gM,1,none⟩ (.slice none 0 0)).setCell ⟨gM,2,none⟩ (.slice a5 n5 m5)).setCell ⟨gM,3,none⟩ (.slice yC n11 m11)) gM #[.bool false,.slice none 0 0,.slice a5 n5 m5,.slice yC n11 m11] 170:=c13.fk _ _ _ _;have b6:Below w2.heap.size w2 ((((w'.setCell ⟨gM,0,none⟩ (.bool false)).setCell ⟨gM,1,none⟩ (.slice none 0 0)).setCell ⟨gM,2,none⟩ (.slice a5 n5 m5)).setCell ⟨gM,3,none⟩ (.slice yC n11 m11)):=dg hB l13;have P1:Cl ((((w'.setCell ⟨gM,0,none⟩ (.bool false)).setCell ⟨gM,1,none⟩ (.slice none 0 0)).setCell ⟨gM,2,none⟩ (.slice a5 n5 m5)).setCell ⟨gM,3,none⟩ (.slice yC n11 m11)) p #[.bool false,.slice ae ne ce,.slice ak nk ck,.slice (some ⟨b,off,none⟩) ns cz] 170:=M1.on b6;have P2:Cl ((((w'.setCell ⟨gM,0,none⟩ (.bool false)).setCell ⟨gM,1,none⟩ (.slice none 0 0)).setCell ⟨gM,2,none⟩ (.slice a5 n5 m5)).setCell ⟨gM,3,none⟩ (.slice yC n11 m11)) (p+1) #[.bool false,.slice none 0 0,.slice none 0 0,.slice none 0 0] 170:=M2.on b6;have P3:Cl ((((w'.setCell ⟨gM,0,none⟩ (.bool false)).setCell ⟨gM,1,none⟩ (.slice none 0 0)).setCell ⟨gM,2,none⟩ (.slice a5 n5 m5)).setCell ⟨gM,3,none⟩ (.slice yC n11 m11)) (p+1+1) #[.bool false,.slice none 0 0,.slice none 0 0,.slice none 0 0] 170:=M3.on b6;have P6:Cl ((((w'.setCell ⟨gM,0,none⟩ (.bool false)).setCell ⟨gM,1,none⟩ (.slice none 0 0)).setCell ⟨gM,2,none⟩ (.slice a5 n5 m5)).setCell ⟨gM,3,none⟩ (.slice yC n11 m11)) qA #[.bool false,.slice none 0 0,.slice aA nA mA,.slice aD nD mD] 170:=M6.on b6;have B6:Hid (Below p w ((((w'.setCell ⟨gM,0,none⟩ (.bool false)).setCell ⟨gM,1,none⟩ (.slice none 0 0)).setCell ⟨gM,2,none⟩ (.slice a5 n5 m5)).setCell ⟨gM,3,none⟩ (.slice yC n11 m11))):=B4.out.trans (b6.mono (by omega));have R6:Aside (Row encS 1 ((((w'.setCell ⟨gM,0,none⟩ (.bool false)).setCell ⟨gM,1,none⟩ (.slice none 0 0)).setCell ⟨gM,2,none⟩ (.slice a5 n5 m5)).setCell ⟨gM,3,none⟩ (.slice yC n11 m11)) (.slice (some ⟨b,off,none⟩) ns cz) ss):=RS4.out.below b6;have O1:Aside (dB (p+3) ((((w'.setCell ⟨gM,0,none⟩ (.bool false)).setCell ⟨gM,1,none⟩ (.slice none 0 0)).setCell ⟨gM,2,none⟩ (.slice a5 n5 m5)).setCell ⟨gM,3,none⟩ (.slice yC n11 m11)) (.slice aA nA mA) (ks.take n)):=ownsRow_below OA4.out b6;have O2:Aside (cI (p+3) ((((w'.setCell ⟨gM,0,none⟩ (.bool false)).setCell ⟨gM,1,none⟩ (.slice none 0 0)).setCell ⟨gM,2,none⟩ (.slice a5 n5 m5)).setCell ⟨gM,3,none⟩ (.slice yC n11 m11)) (.slice aD nD mD) (ss.take m)):=ownsRow_below OD4.out b6;have O3:Aside (dB (p+3) ((((w'.setCell ⟨gM,0,none⟩ (.bool false)).setCell ⟨gM,1,none⟩ (.slice none 0 0)).setCell ⟨gM,2,none⟩ (.slice a5 n5 m5)).setCell ⟨gM,3,none⟩ (.slice yC n11 m11)) (.slice a5 n5 m5) (ks.drop n)):=by
    have h:=nK (a:=.bool false) (b:=.slice none 0 0) (c:=.slice a5 n5 m5) (d:=.slice yC n11 m11) o5 c13 (by decide);rw[XU.out]at h;exact aH h (by omega)
   have O4:Aside (cI (p+3) ((((w'.setCell ⟨gM,0,none⟩ (.bool false)).setCell ⟨gM,1,none⟩ (.slice none 0 0)).setCell ⟨gM,2,none⟩ (.slice a5 n5 m5)).setCell ⟨gM,3,none⟩ (.slice yC n11 m11)) (.slice yC n11 m11) (ss.drop n)):=by
    have h:=nK (a:=.bool false) (b:=.slice none 0 0) (c:=.slice a5 n5 m5) (d:=.slice yC n11 m11) Zm c13 (by decide);rw[XV.out]at h;exact aH h (by omega)
   clear o5 Zm hB b6 y0 y1 y2 y3 g0 g1 g2 g3 h0 h1 h2 h3 h4 h5 h6 h7 h8 h9 h10 h11 h12 dN c13 M1 M2 M3 M6 B4 RS4 OA4 OD4 RU RV MK;generalize World.setCell _ _ _=w6 at*;obtain⟨qB,aB,nB,mB,aC,nC,mC,ee⟩:∃qB aB nB mB aC nC mC,(qB,aB,nB,mB,aC,nC,mC)=(gM,a5,n5,m5,yC,n11,m11):=⟨_,_,_,_,_,_,_,rfl⟩;simp only[Prod.mk.injEq]at ee;obtain⟨rfl,rfl,rfl,rfl,rfl,rfl,rfl⟩:=ee;have P7:=KB;have lB:p+3<=qB:=by omega
   go_upto_region 11 with fail
   have mi0:(0:Int)<=(m:Int):=by omega
   have mi1:(m:Int)< (ns:Int):=by omega
   obtain⟨_,_,e9,_,x1⟩:=zU R6.out m (by have:=HLS.out;omega);cases e9;obtain⟨mid,hmid⟩:∃z,ss[m]! =z:=⟨_,rfl⟩;rw[hmid]at x1;have HM:Hid (ss[m]! =mid):=hmid;clear hmid;obtain⟨c0,c1,c2,c3⟩:=P1.four;obtain⟨d0,d1,d2,d3⟩:=P2.four;obtain⟨e0,L8,e2',e3⟩:=P3.four;obtain⟨g0,g1,g2,g3⟩:=P2.thaw;obtain⟨i0,i1,i2,i3⟩:=P3.thaw;obtain⟨j0,j1,j2,j3⟩:=P6.four;obtain⟨k0,k1,k2,k3⟩:=P7.four;have u1:p≠p+1:=by omega
   have u2:p≠p+1+1:=by omega
   have u3:qA≠p+1:=by omega
   have u4:qA≠p+1+1:=by omega
   have u5:qB≠p+1:=by omega
   have u6:qB≠p+1+1:=by omega
   have u7:b≠p+1:=by omega
   have u8:b≠p+1+1:=by omega
   have u9:p+1≠p+1+1:=by omega
   have v1:=u1.symm;have v2:=u2.symm;have v3:=u3.symm;have v4:=u4.symm;have v5:=u5.symm;have v6:=u6.symm;have v7:=u7.symm;have v8:=u8.symm;have v9:=u9.symm
   go_region_held3 (fun X=>X.cell? ⟨p,3,none⟩=some (.slice (some ⟨b,off,none⟩) ns cz)∧X.cell? ⟨b,off+m,none⟩=some (.string mid)∧X.cell? ⟨qA,0,none⟩=some (.bool false)∧X.cell? ⟨qA,1,none⟩=some (.slice none 0 0)∧X.cell? ⟨qA,2,none⟩=some (.slice aA nA mA)∧X.cell? ⟨qA,3,none⟩=some (.slice aD nD mD)∧X.cell? ⟨qB,0,none⟩=some (.bool false)∧X.cell? ⟨qB,1,none⟩=some (.slice none 0 0)∧X.cell? ⟨qB,2,none⟩=some (.slice aB nB mB)∧X.cell? ⟨qB,3,none⟩=some (.slice aC nC mC)) (go_keep) (fail)
   obtain⟨KA,KB,BX,OX⟩:=SU P2 P3 (.bool false) (.slice none 0 0) (.slice aA nA mA) (.slice aD nD mD) (.bool false) (.slice none 0 0) (.slice aB nB mB) (.slice aC nC mC);generalize((((((((w6.setCell ⟨p+1,0,none⟩ (.bool false)).setCell ⟨p+1,1,none⟩ (.slice none 0 0)).setCell ⟨p+1,2,none⟩ (.slice aA nA mA)).setCell ⟨p+1,3,none⟩ (.slice aD nD mD)).setCell ⟨p+1+1,0,none⟩ (.bool false)).setCell ⟨p+1+1,1,none⟩ (.slice none 0 0)).setCell ⟨p+1+1,2,none⟩ (.slice aB nB mB)).setCell ⟨p+1+1,3,none⟩ (.slice aC nC mC)).drew=X at*;have BF:Hid (Below p w X):=BX w B6.out;have OA:Hid (kT p X (.slice none 0 0) (.slice aA nA mA) (.slice aD nD mD) ⟨false,[],ks.take n,ss.take m⟩):=⟨bp.empty _ _,aH (OX _ _ _ _ _ O1.out) (by omega),aH (OX _ _ _ _ _ O2.out) (by omega)⟩;have OB:Hid (kT p X (.slice none 0 0) (.slice aB nB mB) (.slice aC nC mC) ⟨false,[],ks.drop n,ss.drop n⟩):=⟨bp.empty _ _,aH (OX _ _ _ _ _ O3.out) (by omega),aH (OX _ _ _ _ _ O4.out) (by omega)⟩;clear BX OX c0 c1 c2 c3 d0 d1 d2 d3 e0 L8 e2' e3 g0 g1 g2 g3 i0 i1 i2 i3 j0 j1 j2 j3 k0 k1 k2 k3 x1;obtain⟨t0,t1,t2,t3⟩:=KA.four;obtain⟨r0,r1,r2,r3⟩:=KB.four;go_wp2
   (try simp only[Exit.inBlock,Exit.then])
   refine bodyPost_ret (v:=.tuple #[.agg #[.bool false,.slice none 0 0,.slice aA nA mA,.slice aD nD mD],.string mid,.agg #[.bool false,.slice none 0 0,.slice aB nB mB,.slice aC nC mC]]) ?_ rfl ⟨_,_,_,_,_,_,by rw[HM.out],by rw[HP.out];exact OA.out,by rw[HP.out];exact OB.out,by rw[HP.out];exact BF.out⟩;rw[kr rfl];go_simp
  ·intro _ _;intros;assumption
 ·intro _ _;intros;assumption
theorem z8:(∀(n:Nd) (ve vk vs:Value) (w:World) (h:iw w ve vk vs n) (hm:Sm n) (lf:Bool) (hlf:n.leaf=lf) (rt:Bool) (hrt:dF n=rt) (hrf:rt=false),Calls Tryz.prog 147 #[.agg #[.bool n.leaf,ve,vk,vs]] w (V7 w n ⟨#[]⟩ nd0))∧
  (∀(n:Nd) (ve vk vs:Value) (w:World) (h:iw w ve vk vs n) (hm:Sm n) (lf:Bool) (hlf:n.leaf=lf) (rt:Bool) (hrt:dF n=rt) (hrf:rt=true) (h1:n.es.length<2) (h2:n.ks.length<2),Calls Tryz.prog 147 #[.agg #[.bool n.leaf,ve,vk,vs]] w (V7 w n ⟨#[]⟩ nd0)):=by
 refine⟨have jq:=trivial; ?_,have fC:=trivial; ?_⟩
 all_goals
  first
   |have zz:=fC
    intro n ve vk vs w h hm lf hlf rt hrt hrf h1 h2
   |intro n ve vk vs w h hm lf hlf rt hrt hrf
  obtain⟨ae,ce,rfl,_⟩:=aG h.e;obtain⟨ak,ck,rfl,_⟩:=aG h.k;obtain⟨az,cz,rfl,_⟩:=aG h.s;have U8:Hid (∀W,Below w.heap.size w W->Calls Tryz.prog 130 #[.agg #[.bool n.leaf,.slice ae n.es.length ce,.slice ak n.ks.length ck,.slice az n.ss.length cz]] W fun e w'=>e=.returned (.bool rt)∧Below W.heap.size W w'):=fun W hW=>by
   have:=eO n _ _ _ W (h.below hW) hm;rw[hrt]at this;exact this
  have X5:Hid (∀W,Below w.heap.size w W->Calls Tryz.prog 152 #[.agg #[.bool n.leaf,.slice ae n.es.length ce,.slice ak n.ks.length ck,.slice az n.ss.length cz]] W fun e w'=>∃AX AY vs',e=.returned (.agg #[.bool n.leaf,AX,AY,vs'])∧kT W.heap.size w' AX AY vs' n∧Below W.heap.size W w'):=fun W hW=>iW n _ _ _ W (h.below hW) hm.l;rw[hlf]at U8 X5⊢;have HL:Hid (n.leaf=lf):=hlf;subst hrf
  first
   |have zz:=fC
    have z1:(n.es.length:Int)<2:=by omega
    have z2:(n.ks.length:Int)<2:=by omega
    clear h1 h2
   |skip
  generalize n.es.length=n1 at*;generalize n.ks.length=n2 at*;generalize n.ss.length=n3 at*;clear hlf hrt h;have BW:Hid (Below w.heap.size w (((w.alloc (.cells #[.bool lf,.slice ae n1 ce,.slice ak n2 ck,.slice az n3 cz] 170)).alloc (.cells #[.bool false,.slice none 0 0,.slice none 0 0,.slice none 0 0] 170)).alloc (.cells #[.bool false,.slice none 0 0,.slice none 0 0,.slice none 0 0] 170))):=aq _ (aq _ (aq _ (Below.refl _ _)));have K1:Cl (((w.alloc (.cells #[.bool lf,.slice ae n1 ce,.slice ak n2 ck,.slice az n3 cz] 170)).alloc (.cells #[.bool false,.slice none 0 0,.slice none 0 0,.slice none 0 0] 170)).alloc (.cells #[.bool false,.slice none 0 0,.slice none 0 0,.slice none 0 0] 170)) w.heap.size #[.bool lf,.slice ae n1 ce,.slice ak n2 ck,.slice az n3 cz] 170:=((Cl.lY _ _ _).alloc _).alloc _;have K2:Cl (((w.alloc (.cells #[.bool lf,.slice ae n1 ce,.slice ak n2 ck,.slice az n3 cz] 170)).alloc (.cells #[.bool false,.slice none 0 0,.slice none 0 0,.slice none 0 0] 170)).alloc (.cells #[.bool false,.slice none 0 0,.slice none 0 0,.slice none 0 0] 170)) (w.heap.size+1) #[.bool false,.slice none 0 0,.slice none 0 0,.slice none 0 0] 170:=(Cl.pU _ _ _ _).alloc _;have K3:Cl (((w.alloc (.cells #[.bool lf,.slice ae n1 ce,.slice ak n2 ck,.slice az n3 cz] 170)).alloc (.cells #[.bool false,.slice none 0 0,.slice none 0 0,.slice none 0 0] 170)).alloc (.cells #[.bool false,.slice none 0 0,.slice none 0 0,.slice none 0 0] 170)) (w.heap.size+1+1) #[.bool false,.slice none 0 0,.slice none 0 0,.slice none 0 0] 170:=Cl.Bv _ _ _ _ _;have CR:Hid _:=U8.out _ BW.out;go_enter Tryz.func147,Tryz.ntmps147
  go_upto_region 1 with fail
  generalize World.alloc _ _=W at*;obtain⟨p,hp⟩:∃p,w.heap.size=p:=⟨_,rfl⟩;have HP:Hid (w.heap.size=p):=hp;rw[hp]at K1 K2 K3 BW X5⊢;obtain⟨c0,c1,c2,c3⟩:=K1.four;clear hp U8
  go_wp2_with fail
  refine Calls.mono CR.out ?_;rintro e w1 ⟨rfl,b1⟩;have J1:Cl w1 p #[.bool lf,.slice ae n1 ce,.slice ak n2 ck,.slice az n3 cz] 170:=K1.on b1;have J2:Cl w1 (p+1) #[.bool false,.slice none 0 0,.slice none 0 0,.slice none 0 0] 170:=K2.on b1;have J3:Cl w1 (p+1+1) #[.bool false,.slice none 0 0,.slice none 0 0,.slice none 0 0] 170:=K3.on b1;have B1:Hid (Below p w w1):=BW.out.trans (b1.mono (by have:=K1.lt;omega));have CA:Hid _:=X5.out w1 B1.out;clear b1 K1 K2 K3 CR BW c0 c1 c2 c3 X5;obtain⟨c0,c1,c2,c3⟩:=J1.four
  go_wp2_with fail
  refine Calls.mono CA.out ?_;rintro e w2 ⟨AX,AY,vs',rfl,O1,b2⟩;obtain⟨av,cv,rfl⟩:=bL O1.e;obtain⟨bv,dv,rfl⟩:=bL O1.k;obtain⟨gv,hv,rfl⟩:=bL O1.s;have P2:Cl w2 (p+1) #[.bool false,.slice none 0 0,.slice none 0 0,.slice none 0 0] 170:=J2.on b2;have P3:Cl w2 (p+1+1) #[.bool false,.slice none 0 0,.slice none 0 0,.slice none 0 0] 170:=J3.on b2;have lj:=J3.lt;have B2:Hid (Below p w w2):=B1.out.trans (b2.mono (by omega));have O2:kT (p+3) w2 (.slice av n.es.length cv) (.slice bv n.ks.length dv) (.slice gv n.ss.length hv) n:=O1.mono (by omega);obtain⟨d0,d1,d2,d3⟩:=P2.four;obtain⟨e0,L8,e2',e3⟩:=P3.four;obtain⟨g0,g1,g2,g3⟩:=P2.thaw;obtain⟨i0,i1,i2,i3⟩:=P3.thaw;obtain⟨KA,KB,BX,OX⟩:=SU P2 P3 (.bool lf) (.slice av n.es.length cv) (.slice bv n.ks.length dv) (.slice gv n.ss.length hv) (.bool false) (.slice none 0 0) (.slice none 0 0) (.slice none 0 0);have KA':Cl ((((((((w2.setCell ⟨p+1,0,none⟩ (.bool lf)).setCell ⟨p+1,1,none⟩ (.slice av n.es.length cv)).setCell ⟨p+1,2,none⟩ (.slice bv n.ks.length dv)).setCell ⟨p+1,3,none⟩ (.slice gv n.ss.length hv)).setCell ⟨p+1+1,0,none⟩ (.bool false)).setCell ⟨p+1+1,1,none⟩ (.slice none 0 0)).setCell ⟨p+1+1,2,none⟩ (.slice none 0 0)).setCell ⟨p+1+1,3,none⟩ (.slice none 0 0)) (p+1) #[.bool lf,.slice av n.es.length cv,.slice bv n.ks.length dv,.slice gv n.ss.length hv] 170:=Jw KA;have KB':Cl ((((((((w2.setCell ⟨p+1,0,none⟩ (.bool lf)).setCell ⟨p+1,1,none⟩ (.slice av n.es.length cv)).setCell ⟨p+1,2,none⟩ (.slice bv n.ks.length dv)).setCell ⟨p+1,3,none⟩ (.slice gv n.ss.length hv)).setCell ⟨p+1+1,0,none⟩ (.bool false)).setCell ⟨p+1+1,1,none⟩ (.slice none 0 0)).setCell ⟨p+1+1,2,none⟩ (.slice none 0 0)).setCell ⟨p+1+1,3,none⟩ (.slice none 0 0)) (p+1+1) #[.bool false,.slice none 0 0,.slice none 0 0,.slice none 0 0] 170:=Jw KB;have BF:Hid _:=NQ (BX w B2.out);have OF:Hid (kT p ((((((((w2.setCell ⟨p+1,0,none⟩ (.bool lf)).setCell ⟨p+1,1,none⟩ (.slice av n.es.length cv)).setCell ⟨p+1,2,none⟩ (.slice bv n.ks.length dv)).setCell ⟨p+1,3,none⟩ (.slice gv n.ss.length hv)).setCell ⟨p+1+1,0,none⟩ (.bool false)).setCell ⟨p+1+1,1,none⟩ (.slice none 0 0)).setCell ⟨p+1+1,2,none⟩ (.slice none 0 0)).setCell ⟨p+1+1,3,none⟩ (.slice none 0 0)) (.slice av n.es.length cv) (.slice bv n.ks.length dv) (.slice gv n.ss.length hv) n):=⟨aH (xH (OX _ _ _ _ _ O2.e)) (by omega),aH (xH (OX _ _ _ _ _ O2.k)) (by omega),aH (xH (OX _ _ _ _ _ O2.s)) (by omega)⟩;have u9:p+1≠p+1+1:=by omega
  have v9:=u9.symm;clear KA KB BX OX O1 O2 b2 CA B1 B2 c0 c1 c2 c3 J1 J2 J3 P2 P3;go_wp2
  (try simp only[Exit.inBlock,Exit.then])
  generalize World.setCell _ _ _=X at*;obtain⟨t0,t1,t2,t3⟩:=KA'.four;obtain⟨r0,r1,r2,r3⟩:=KB'.four;refine bodyPost_ret (v:=.tuple #[.agg #[.bool lf,.slice av n.es.length cv,.slice bv n.ks.length dv,.slice gv n.ss.length hv],.string ⟨#[]⟩,.agg #[.bool false,.slice none 0 0,.slice none 0 0,.slice none 0 0]]) ?_ rfl ⟨_,_,_,_,_,_,by rw[HL.out];rfl,by rw[HP.out];exact OF.out,by rw[HP.out];exact kT.zero _ _,by rw[HP.out];exact BF.out⟩;rw[kr rfl];go_simp
def sA (n:Nd):Nd:=if zC n=true then XK n else n
def sM (n:Nd):ByteArray:=if zC n=true then YW n else⟨#[]⟩
def sB (n:Nd):Nd:=if zC n=true then YV n else nd0
theorem F4 (n:Nd)(ve vk vs:Value)(w:World)(h:iw w ve vk vs n)(hm:Sm n):
  Calls Tryz.prog 147 #[.agg #[.bool n.leaf,ve,vk,vs]] w (V7 w (sA n) (sM n) (sB n)):=by
 cases he:zC n with
 |false=>
  have e1:sA n=n:=by unfold sA;rw[he];rfl
  have e2:sM n=⟨#[]⟩:=by unfold sM;rw[he];rfl
  have e3:sB n=nd0:=by unfold sB;rw[he];rfl
  rw[e1,e2,e3];cases hr:dF n with
  |false=>exact z8.1 n ve vk vs w h hm _ rfl false hr rfl
  |true=>
   unfold zC at he;rw[hr]at he;simp only[Bool.true_and,Bool.or_eq_false_iff,decide_eq_false_iff_not]at he;exact z8.2 n ve vk vs w h hm _ rfl true hr rfl (by omega) (by omega)
 |true=>
  have e1:sA n=XK n:=by unfold sA;rw[he];rfl
  have e2:sM n=YW n:=by unfold sM;rw[he];rfl
  have e3:sB n=YV n:=by unfold sB;rw[he];rfl
  rw[e1,e2,e3];obtain⟨lf,es,ks,ss⟩:=n;cases lf with
  |true=>
   obtain⟨a,b,_,_⟩:=zD he rfl;simp only at a b;subst a b;exact BL es ve vk vs w h hm he
  |false=>
   obtain⟨_,h2,_⟩:=vD he rfl;simp only at h2;obtain⟨m,hm1⟩:∃m,ks.length/2=m+1:=⟨ks.length/2-1,by omega⟩;have:=z7 es ks ss ve vk vs w h hm he (ks.length/2) m rfl hm1;have em:m=ks.length/2-1:=by omega
   rw[em]at this;exact this
end
end N
end Go.Proofs.YtcenfooehjcddaaGreatDoor
