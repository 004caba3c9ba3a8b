/- Walks of the package cowtree and of what it stands on: lemmas, made short. -/
import Derived.Test.YtdcpfbidcpfboaaGreatDoorR16
set_option maxHeartbeats 16000000
set_option maxRecDepth 100000
set_option linter.unusedVariables false
set_option linter.unusedSimpArgs false
section
namespace Go.Proofs.YtdcpfbidcpfboaaGreatDoor.P
open Go.Shelf Go.RowKit Go.Lib Go.Sort
open N (En bp Rg cM aY jK iF gL iM)
section
variable {B:Nat}{w0 w w':World}{C:Cx}{d:Dk}{l:List aN}{E:List En}{k q n:Nat}{σ:Type}{st:σ->Int->Int->Bool->σ}{m:σ->Nat}{U:σ->aN}{fy:Nat}{cy:Array Value}{fr tt:ByteArray}{s0:σ}
theorem aJ.OE {a b c:aN}(h:aJ B w0 d C E k (a::b::c::l) w):aJ B w0 d C E k (c::a::b::l) w:=h.of fun _ _ _ _ s=>Sep.pb [_,_,_,_] (Sep.pk [_,_,_,_,_,_] s)
theorem aJ.Ug {a b c:aN}(h:aJ B w0 d C E k (c::a::b::l) w):aJ B w0 d C E k (a::b::c::l) w:=h.of fun _ _ _ _ s=>Sep.pb [_,_,_,_,_,_] (Sep.pk [_,_,_,_] s)
theorem aJ.dr (h:aJ B w0 d C E k l w):aJ B w0 d C E k l w.drew:=h.of fun _ _ _ _ s=>s.drew
def Xf (B:Nat)(w0:World)(d:Dk)(C:Cx)(E:List En)(k:Nat)(fy:Nat)(cy:Array Value)(st:σ->Int->Int->Bool->σ)(U:σ->aN)(m:σ->Nat):Prop:=
 ∀(w:World) (L:List aN) (s:σ) (u v:Int) (b:Bool),m s<1000->Wf u->Wf v->aJ B w0 d C E k (U s::L) w->
  Calls Tryz.prog fy (#[.int .i64 u,.int .i64 v,.bool b]++cy) w fun e w'=>e=.returned (.tuple #[])∧aJ B w0 d C E k (U (st s u v b)::L) w'
def TN (B:Nat)(w0:World)(d:Dk)(C:Cx)(E:List En)(k q:Nat)(l:List aN)(U:σ->aN)(R:σ×Int)(e:Ending)(w:World):Prop:=
 e=.returned (.int .i64 R.2)∧aJ B w0 d C E k (cI q C::U R.1::l) w
theorem Te (e:En):Wf (dK e).1.1∧Wf (dK e).1.2.1:=by
 rcases oc e with⟨u,v,b,h1,h2,_⟩|h1
 ·rw[h1];have a:=lO (eG.1 h2).1;have c:=lO (eG.1 h2).2.1;exact⟨⟨by simp only;omega,by simp only;omega⟩,⟨by simp only;omega,by simp only;omega⟩⟩
 ·rw[h1];exact⟨⟨by simp only;omega,by simp only;omega⟩,⟨by simp only;omega,by simp only;omega⟩⟩
theorem Tf {l:List En}{j:Nat}{s:σ}(h:j<l.length):wY st (l.drop j) s=if(dK l[j]!).2=true then wY st (l.drop (j+1)) (st s (dK l[j]!).1.1 (dK l[j]!).1.2.1 (dK l[j]!).1.2.2)else(s,3):=by
 have e:l.drop j=l[j]! ::l.drop (j+1):=by
  rw[getElem!_pos l j h];exact List.drop_eq_getElem_cons h
 rw[e,wY]
theorem PE (T:cd B w0)(hr:d.room<=16384)(h0:C.err=0)(hE:E.length<=200)(EY:∀args w,(callFunc fy args).run Tryz.prog w=.ok (.enter fy args) w)(hu:Xf B w0 d C E k fy cy st U m)(hm:∀s u v b,m (st s u v b)<=m s+1)(hs:m s0=0)(h:aJ B w0 d C E k (cI q C::U s0::l) w):
  Calls Tryz.prog 49 #[ptr q,.string fr,.string tt,.func (.func fy) #[] cy] w (TN B w0 d C E k q l U (wY st (gf fr tt E) s0)):=by
 have HU:Hid (Xf B w0 d C E k fy cy st U m):=hu;have HM:Hid (∀s u v b,m (st s u v b)<=m s+1):=hm;have HS:Hid (aJ B w0 d C E k (cI q C::U s0::l) w):=h;have KK:Hid _:=DX h;have KS:Hid (Calls Tryz.prog 27 #[ptr C.tq,.string fr,.string tt] w fun e w'=>∃ao c,e=.returned (.tuple #[.slice ao (gf fr tt E).length c,.int .i64 0])∧aJ B w0 d C E k (vt (.slice ao (gf fr tt E).length c) (gf fr tt E)::cI q C::U s0::l) w'):=JW T hr h0 (by omega) h;have HL:Hid ((gf fr tt E).length<=200∧∀x∈gf fr tt E,x.1.size<=maxLen):=by
  refine⟨Nat.le_trans (List.length_filter_le _ _) hE,fun x hx=>?_⟩;obtain⟨r,y,d1,P,X,H,_,_,TT,_⟩:=h;have:=aY.1 (TT.ts.rg.may x ((List.mem_filter.1 hx).1));unfold maxLen;omega
 have HZ:Hid (m s0=0):=hs;clear h hu hm hs T hr h0 hE;generalize gf fr tt E=L at*;obtain⟨R,hR⟩:∃R,wY st L s0=R:=⟨_,rfl⟩;have HR:Hid (wY st L s0=R):=hR;rw[hR];clear hR;unfold ptr at*;go_enter Tryz.func49,Tryz.ntmps49
 go_wp2_with fail
 refine Calls.mono KK.out ?_;rintro e w1 ⟨rfl,rfl⟩;clear KK HS
 go_wp2_with fail
 refine Calls.mono KS.out ?_;rintro e w1 ⟨ao,c,rfl,s1⟩;have S1:Hid (aJ B w0 d C E k (vt (.slice ao L.length c) L::cI q C::U s0::l) w1):=s1;clear KS s1;go_wp2
 go_loopg [30] L.length (fun kx Fp wr=>∃(j:Nat) (s:σ),Fp=.int .i64 (j:Int)∧j<=L.length∧L.length-j<=kx∧Hid (m s<=j∧wY st (L.drop j) s=R)∧Hid (aJ B w0 d C E k (vt (.slice ao L.length c) L::cI q C::U s::l) wr))
 case atStart=>exact⟨0,s0,rfl,Nat.zero_le _,Nat.le_refl _,⟨Nat.le_of_eq HZ.out,HR.out⟩,S1.out⟩
 case round=>
  obtain⟨j,s,rfl,hj,hjx,HI,HS⟩:=hrel;clear S1;by_cases hlt:j<L.length
  ·have Bq:(j:Int)< (L.length:Int):=by omega
   obtain⟨dJ,cap',e',_,_,h3⟩:=Sep.V1 HS.out.sep;obtain⟨rb,VT,hae,hrb,z0,z1⟩:=N.ew h3 j hlt (Below.refl _ _);have e2:ao=dJ:=by injection e'
   subst e2;subst hae;have hwj:IntKind.i64.wrap ((j:Int)+1)=((j+1:Nat):Int):=by rw[bR (by omega) (by have:=HL.out.1;omega)];rfl
   have HX:=HI.out.2;rw[Tf hlt]at HX;have hxs:L[j]!.1.size<=maxLen:=HL.out.2 _ (by rw[getElem!_pos L j hlt];exact List.getElem_mem hlt);have HJL:Hid (j<L.length∧m s<=j):=⟨hlt,HI.out.1⟩;have Ze:=fun w=>ju L[j]! w hxs;generalize L[j]! =x at*;obtain⟨xk,xv⟩:=x;simp only at z0 z1 Ze;have KP:Hid _:=Ze;have hwf:=Te (xk,xv);generalize dK (xk,xv)=pr at*;obtain⟨⟨p1,p2,p3⟩,p4⟩:=pr;simp only at KP HX hwf;have HWF:Hid (Wf p1∧Wf p2):=hwf;clear hwf;have S2:Hid (aJ B w0 d C E k (vt (.slice (some ⟨rb,VT,none⟩) L.length c) L::cI q C::U s::l) (wr.alloc (.cells #[.string xk,.string xv] 49))):=aJ.below HS.out ((Below.refl _ _).alloc (Nat.le_refl _) _);clear Ze hxs h3 e' HI HS;cases p4
   ·have HR3:Hid ((s,(3:Int))=R):=by have:=HX;rw[if_neg (by simp)]at this;exact this
    clear HX
    go_wp2_with fail
    refine Calls.mono (KP.out _) ?_;rintro e w4 ⟨rfl,b4⟩;have S4:Hid _:=aJ.below S2.out b4;clear KP S2 b4;go_wp2;go_ret;exact⟨by rw[<-HR3.out];rfl,by rw[<-HR3.out];exact aJ.FK S4.out⟩
   ·have HX2:Hid (wY st (L.drop (j+1)) (st s p1 p2 p3)=R):=by have:=HX;rw[if_pos rfl]at this;exact this
    clear HX
    go_wp2_with fail
    refine Calls.mono (KP.out _) ?_;rintro e w4 ⟨rfl,b4⟩;have S4:Hid (aJ B w0 d C E k (U s::vt (.slice (some ⟨rb,VT,none⟩) L.length c) L::cI q C::l) w4):=aJ.OE (aJ.below S2.out b4);have KU:Hid _:=HU.out _ _ _ p1 p2 p3 (by have:=HJL.out;have:=HL.out.1;omega) HWF.out.1 HWF.out.2 S4.out;clear KP S2 b4 z0 z1
    go_wp2_with fail
    refine Calls.mono KU.out ?_;rintro e w5 ⟨rfl,s5⟩;have S5:Hid (aJ B w0 d C E k (vt (.slice (some ⟨rb,VT,none⟩) L.length c) L::cI q C::U (st s p1 p2 p3)::l) w5):=aJ.Ug s5;have HM2:Hid (m (st s p1 p2 p3)<=j+1):=by have h1:=HM.out s p1 p2 p3;have h2:=HJL.out.2;show _<=_;omega
    clear KU s5 S4;generalize st s p1 p2 p3=s2 at*;go_wp2
    go_roundg (L.length- (j+1))
    case measure=>omega
    case rel=>exact⟨j+1,s2,by go_num,by omega,Nat.le_refl _,⟨HM2.out,HX2.out⟩,S5.out⟩
  ·have Bq:¬(j:Int)< (L.length:Int):=by omega
   have hj2:j=L.length:=by omega
   have HR3:Hid ((s,(0:Int))=R):=by have:=HI.out.2;rw[hj2,List.drop_length]at this;exact this
   clear HI;go_wp2;go_ret;exact⟨by rw[<-HR3.out];rfl,by rw[<-HR3.out];exact aJ.FK HS.out⟩
end
end Go.Proofs.YtdcpfbidcpfboaaGreatDoor.P
end
section
namespace Go.Proofs.YtdcpfbidcpfboaaGreatDoor.P
open Go.Shelf Go.RowKit Go.Lib Go.Sort
open N (En bp Rg cM aY jK iF gL iM)
section
variable {B:Nat}{w0 w w':World}{C:Cx}{d:Dk}{l:List aN}{E:List En}{k q n:Nat}{σ:Type}{st:σ->Int->Bool->σ}{m:σ->Nat}{U:σ->aN}{fz:Nat}{cz:Array Value}{s0:σ}{u:Int}
theorem aJ.zO {a b:aN}(ga:Good a)(gb:Good b)(h:aJ B w0 d C E k (Both a b::l) w):aJ B w0 d C E k (a::b::l) w:=h.of fun _ _ _ _ s=>Sep.pb [_,_,_,_,_] (Sep.pb [_,_,_,_,_] ((Sep.pk [_,_,_,_] s).map fun _=>Hp.part ga gb))
theorem aJ.PF {a b:aN}(h:aJ B w0 d C E k (a::b::l) w):aJ B w0 d C E k (Both a b::l) w:=h.of fun _ _ _ _ s=>Sep.pb [_,_,_,_] (Sep.join (Sep.pk [_,_,_,_,_] (Sep.pk [_,_,_,_,_] s)))
def Xg (B:Nat)(w0:World)(d:Dk)(C:Cx)(E:List En)(k:Nat)(fz:Nat)(cz:Array Value)(st:σ->Int->Bool->σ)(U:σ->aN)(m:σ->Nat):Prop:=
 ∀(w:World) (L:List aN) (s:σ) (v:Int) (b:Bool),m s<1000->Wf v->aJ B w0 d C E k (U s::L) w->
  Calls Tryz.prog fz (#[.int .i64 v,.bool b]++cz) w fun e w'=>e=.returned (.tuple #[])∧aJ B w0 d C E k (U (st s v b)::L) w'
abbrev UN (q3:Nat)(fz:Nat)(cz:Array Value)(U:σ->aN)(s:σ):aN:=Both (ax q3 (.cells #[.func (.func fz) #[] cz] 115)) (U s)
theorem J0 {q3:Nat}(gU:∀s,Good (U s))(EZ:∀args w,(callFunc fz args).run Tryz.prog w=.ok (.enter fz args) w)(hu:Xg B w0 d C E k fz cz st U m):Xf B w0 d C E k 93 #[.pointer (some ⟨q3,0,none⟩)] (fun s _ v b=>st s v b) (UN q3 fz cz U) m:=by
 intro w L s x v b hs _ hv h;have h1:=aJ.zO (aT _ _) (gU s) h;have HS:Hid (aJ B w0 d C E k (U s::ax q3 (.cells #[.func (.func fz) #[] cz] 115)::L) w):=h1.swap;obtain⟨_,c0,_⟩:=Sep.c1 h1.sep;have KU:Hid _:=hu w _ s v b hs hv HS.out;clear h h1 hu hs gU hv;go_enter Tryz.func93,Tryz.ntmps93
 go_wp2_with fail
 refine Calls.mono KU.out ?_;rintro e w1 ⟨rfl,s1⟩;have S1:Hid (aJ B w0 d C E k (UN q3 fz cz U (st s v b)::L) w1):=aJ.PF (aJ.swap s1);clear KU s1 HS c0;go_wp2
 go_end0
 exact⟨rfl,S1.out⟩
def zP (st:σ->Int->Bool->σ)(E:List En)(u:Int)(s0:σ):σ×Int:=if dD u=true then wY (fun s _ v b=>st s v b) (gf (xz u) (toA u) E) s0 else(s0,30)
theorem Tg {u:Int}(h:dD u=true):(⟨(fc u u).toArray⟩:ByteArray).size=8∧(⟨#[65]⟩:ByteArray)++(⟨(fc u u).toArray⟩:ByteArray).extract 0 4=xz u:=by
 have e:fc u u=beBytes 4 u.toNat++beBytes 4 u.toNat:=by unfold fc;rw[if_pos (by rw[h];rfl)]
 rw[e];refine⟨by rw[dT,List.length_append,beBytes_length],?_⟩;have e2:=BG (beBytes 4 u.toNat) (beBytes 4 u.toNat);rw[beBytes_length]at e2;rw[e2];apply iz;rw[ByteArray.data_append];simp[xz]
theorem Th {u:Int}:xz u++⟨(Lib.repeatL [255] 16).toArray⟩=toA u:=by
 apply iz;rw[ByteArray.data_append];have e:Lib.repeatL ([255]:List UInt8) 16=List.replicate 16 255:=by decide
 rw[e];simp[xz,toA]
theorem PG (T:cd B w0)(hr:d.room<=16384)(h0:C.err=0)(hE:E.length<=200)(gU:∀s,Good (U s))(EZ:∀args w,(callFunc fz args).run Tryz.prog w=.ok (.enter fz args) w)(hu:Xg B w0 d C E k fz cz st U m)(hm:∀s v b,m (st s v b)<=m s+1)(hs:m s0=0)(h:aJ B w0 d C E k (cI q C::U s0::l) w):
  Calls Tryz.prog 64 #[ptr q,.int .i64 u,.func (.func fz) #[] cz] w (TN B w0 d C E k q l U (zP st E u s0)):=by
 have KV:Hid (∀w,Calls Tryz.prog 92 #[.int .i64 u] w fun e w'=>e=.returned (.int .i64 (zT u))∧w=w'):=lM u;have KK:Hid (∀w,Calls Tryz.prog 51 #[.int .i64 u,.int .i64 u] w fun e w'=>e=.returned (.tuple #[.string ⟨(fc u u).toArray⟩,.int .i64 (vP u u)])∧Below w.heap.size w w'):=BZ u u;cases hv:dD u with
 |true=>
  have HR:Hid (zP st E u s0=wY (fun s _ v b=>st s v b) (gf (xz u) (toA u) E) s0):=if_pos hv;obtain⟨hz8,hfr⟩:=Tg hv;have hto:=Th (u:=u);have hfz:(xz u).size=5:=by unfold xz;rw[dT,List.length_cons,beBytes_length]
  have hrz:(⟨(Lib.repeatL [255] 16).toArray⟩:ByteArray).size=16:=by decide+kernel
  have KP:Hid (∀w,Calls Tryz.prog 70 #[.string ⟨#[255]⟩,.int .i64 16] w fun e w'=>e=.returned (.string ⟨(Lib.repeatL [255] 16).toArray⟩)∧Below w.heap.size w w'):=fun w=>Tryz.strings_Repeat ⟨#[255]⟩ 16 w (by decide) (by decide+kernel);have S0:Hid (aJ B w0 d C E k (cI q C::UN w.heap.size fz cz U s0::l) (w.alloc (.cells #[.func (.func fz) #[] cz] 115))):=aJ.swap (aJ.PF (aJ.swap (aJ.OE (h.blk _))));have KE:Hid (∀w1 q3,aJ B w0 d C E k (cI q C::UN q3 fz cz U s0::l) w1->Calls Tryz.prog 49 #[ptr q,.string (xz u),.string (toA u),.func (.func 93) #[] #[.pointer (some ⟨q3,0,none⟩)]] w1 (TN B w0 d C E k q l (UN q3 fz cz U) (wY (fun s _ v b=>st s v b) (gf (xz u) (toA u) E) s0))):=fun w1 q3 h1=>PE T hr h0 hE (fun _ _=>rfl) (J0 gU EZ hu) (fun s _ v b=>hm s v b) hs h1;have HV:Hid (zT u=0):=by show _=_;unfold zT;rw[if_pos hv]
  have HG:Hid (∀s,Good (U s)):=gU;rw[HR.out];rw[HV.out]at KV;clear h T hr h0 hE gU EZ hu hm hs hv HR;generalize wY (fun s _ v b=>st s v b) (gf (xz u) (toA u) E) s0=R at*;generalize(⟨(Lib.repeatL [255] 16).toArray⟩:ByteArray)=rp at*;generalize(⟨(fc u u).toArray⟩:ByteArray)=tx at*;generalize vP u u=ke at*;generalize toA u=to_ at*;generalize xz u=fr_ at*;unfold ptr at*;go_enter Tryz.func64,Tryz.ntmps64
  go_wp2_with fail
  refine Calls.mono (KV.out _) ?_;rintro e w1 ⟨rfl,rfl⟩;clear KV
  go_wp2_with fail
  refine Calls.mono (KK.out _) ?_;rintro e w1 ⟨rfl,b1⟩;have S1:Hid (aJ B w0 d C E k (cI q C::UN w.heap.size fz cz U s0::l) w1):=aJ.below S0.out b1;clear KK S0 b1
  go_wp2_with fail
  refine Calls.mono (KP.out _) ?_;rintro e w2 ⟨rfl,b2⟩;have S2:Hid (aJ B w0 d C E k (cI q C::UN w.heap.size fz cz U s0::l) w2):=aJ.below S1.out b2;clear KP S1 b2;have K4:Hid _:=KE.out _ _ S2.out;clear KE S2
  go_wp2_with fail
  refine Calls.mono K4.out ?_;rintro e w3 ⟨rfl,s3⟩;have S3:Hid (aJ B w0 d C E k (cI q C::U R.1::l) w3):=aJ.swap (aJ.FK (aJ.zO (aT _ _) (HG.out _) (aJ.swap s3)));clear K4 s3;go_wp2;go_ret;exact⟨rfl,S3.out⟩
 |false=>
  have HR:Hid (zP st E u s0=(s0,30)):=if_neg (by rw[hv];simp);have HV:Hid (zT u=30):=by show _=_;unfold zT;rw[if_neg (by rw[hv];simp)]
  have S0:Hid (aJ B w0 d C E k (cI q C::U s0::l) (w.alloc (.cells #[.func (.func fz) #[] cz] 115))):=aJ.below h ((Below.refl _ _).alloc (Nat.le_refl _) _);rw[HR.out];rw[HV.out]at KV;clear h T hr h0 hE gU EZ hu hm hs hv HR KK;unfold ptr at*;go_enter Tryz.func64,Tryz.ntmps64
  go_wp2_with fail
  refine Calls.mono (KV.out _) ?_;rintro e w1 ⟨rfl,rfl⟩;clear KV;go_wp2;go_ret;exact⟨rfl,S0.out⟩
end
end Go.Proofs.YtdcpfbidcpfboaaGreatDoor.P
end
section
namespace Go.Proofs.YtdcpfbidcpfboaaGreatDoor.P
open Go.Shelf Go.RowKit Go.Lib Go.Sort
open N (En bp Rg cM aY jK iF gL iM)
section
variable {α:Type}{pl:Nat}{tt et:TypeId}{enc:α->List Value}{v:Value}{s:List α}{y:α}{B:Nat}{w0 w:World}{l:List aN}
def lz (et:TypeId)(enc:α->List Value)(v:Value)(s:List α):aN:=RowK et 2 v s.length (s.flatMap enc)
theorem nL:Good (lz et enc v s):=fZ _ _ _ _ _
theorem PH (h:Sep B w0 w (RowK et 2 v (s.length+1) (s.flatMap enc++enc y)::l)):Sep B w0 w (lz et enc v (s++[y])::l):=by
 unfold lz;rw[List.length_append,List.length_singleton,List.flatMap_append,List.flatMap_cons,List.flatMap_nil,List.append_nil];exact h
theorem Sep.PI (h:Sep B w0 w l):Sep B w0 w (lz et enc (.slice none 0 0) ([]:List α)::l):=by
 unfold lz;simpa using Sep.Rn (e:=et) (k:=2) h
def Ti (pl:Nat)(tt et:TypeId)(enc:α->List Value)(s:List α):aN:=fun w X=>∃v,Both (ax pl (.cells #[v] tt)) (lz et enc v s) w X
theorem zQ:Good (Ti pl tt et enc s):=
 ⟨fun w w' X ⟨v,h⟩ hk hs=>⟨v,(aO (aT _ _) nL).kept w w' X h hk hs⟩,fun w X ⟨v,h⟩=>(aO (aT _ _) nL).lt w X h⟩
theorem Sep.oP (h:Sep B w0 w (Ti pl tt et enc s::l)):∃ao c,Sep B w0 w (ax pl (.cells #[.slice ao s.length c] tt)::lz et enc (.slice ao s.length c) s::l):=by
 obtain⟨hB,hb,Y,⟨gg,X,Z,⟨v,hX⟩,hz,hd,hy⟩,hY⟩:=h;have h0:Hp w (Both (ax pl (.cells #[v] tt)) (lz et enc v s)::l) Y:=⟨aO (aT _ _) nL,X,Z,hX,hz,hd,hy⟩;have h1:Sep B w0 w (ax pl (.cells #[v] tt)::lz et enc v s::l):=⟨hB,hb,Y,Hp.part (aT _ _) nL h0,hY⟩;obtain⟨ao,c,rfl⟩:=Sep.uX (n:=s.length) (Sep.pk [_] h1);exact⟨ao,c,h1⟩
theorem Sep.Bv (h:Sep B w0 w (ax pl (.cells #[v] tt)::lz et enc v s::l)):Sep B w0 w (Ti pl tt et enc s::l):=by
 obtain⟨hB,hb,Y,⟨gg,X,Z,hX,hz,hd,hy⟩,hY⟩:=Sep.join h;exact⟨hB,hb,Y,⟨zQ,X,Z,⟨v,hX⟩,hz,hd,hy⟩,hY⟩
end
def kt (y:Int×Bool):List Value:=[.int .i64 y.1,.bool y.2]
def k6 (y:Int×Int):List Value:=[.int .i64 y.1,.int .i64 y.2]
theorem J4 (y:Int×Bool):∀u∈kt y,u.oneCell'=true:=fun v hv=>by simp[kt]at hv;rcases hv with rfl|rfl<;>rfl
theorem J7 (y:Int×Int):∀u∈k6 y,u.oneCell'=true:=fun v hv=>by simp[k6]at hv;rcases hv with rfl|rfl<;>rfl
theorem Kc:(Tryz.prog.info? 74).map (fun i=>(i.zero,i.size,i.bytes))=some (some (.agg #[.int .i64 0,.bool false]),2,16):=by kernel_rfl
theorem Tj:(Tryz.prog.info? 35).map (fun i=>(i.zero,i.size,i.bytes))=some (some (.agg #[.int .i64 0,.int .i64 0]),2,16):=by kernel_rfl
abbrev TP (pl:Nat):List (Int×Bool)->aN:=Ti pl 63 74 kt
abbrev PJ (pl:Nat):List (Int×Int)->aN:=Ti pl 29 35 k6
section
variable {B:Nat}{w0 w w':World}{C:Cx}{d:Dk}{l:List aN}{E:List En}{k q n pl:Nat}
theorem Fs:Xg B w0 d C E k 65 #[.pointer (some ⟨pl,0,none⟩)] (fun s v b=>s++[(v,b)]) (TP pl) List.length:=by
 intro w L s v b hs _ h;obtain⟨r,x,d1,P,X,H,s0,r1⟩:=h;have HR:Hid (bI d d1∧Tx d.room d x r E X H∧Mn d.room x X∧x.cnt<=1000*k):=r1;obtain⟨ao,c,ho⟩:=Sep.oP (Sep.pk [_,_,_,_] s0);have hn:s.length<1000000:=by omega
 have SB:Hid (Sep B w0 (w.alloc (.cells #[.int .i64 v,.bool b] 74)) (RowK 74 2 (.slice ao s.length c) s.length (s.flatMap kt)::ax w.heap.size (.cells #[.int .i64 v,.bool b] 74)::ax pl (.cells #[.slice ao s.length c] 63)::TL (C.eI r) x d1 P L)):=Sep.pk [_,_] (ho.aQ _);have Px:Hid _:=Br (news:=kt (v,b)) (Sep.blk (Sep.pk [_] SB.out));obtain⟨ps,p0,_⟩:=Sep.c1 ho;clear s0 ho hs r1;go_enter Tryz.func65,Tryz.ntmps65
 go_wp2_with (at_builtin;refine SR rfl rfl Kc Tryz.underlying63 rfl (by decide) (by decide) _ rfl SB.out rfl Px.out rfl (J4 (v,b)) hn ?_;intro JO c5 w5 s5;have S5:Hid (Sep B w0 w5 (ax pl (.cells #[.slice ao s.length c] 63)::lz 74 kt (.slice JO (s.length+1) c5) (s++[(v,b)])::TL (C.eI r) x d1 P L)):=Sep.pk [_] (PH (Sep.drop (Sep.pk [_] s5)));clear s5 SB Px;obtain⟨qs,q0,qf⟩:=Sep.c1 S5.out)
 have SF:Hid (Sep B w0 (w5.setCell ⟨pl,0,none⟩ (.slice JO (s.length+1) c5)) (TL (C.eI r) x d1 P (TP pl (s++[(v,b)])::L))):=by
  have h6:=Sep.oD (x:=.slice JO (s.length+1) c5) S5.out 0;exact Sep.pb [_,_,_,_] (Sep.Bv h6)
 go_end0
 exact⟨rfl,r,x,d1,P,X,H,SF.out,HR.out⟩
theorem Fu:Xf B w0 d C E k 50 #[.pointer (some ⟨pl,0,none⟩)] (fun s u v _=>if u<v then s++[(u,v)]else s) (PJ pl) List.length:=by
 intro w L s u v b hs _ _ h;show Calls Tryz.prog _ _ w fun e w'=>e=_∧aJ B w0 d C E k (PJ pl (if u<v then s++[(u,v)]else s)::L) w';by_cases hl:u<v
 ·rw[if_pos hl];obtain⟨r,x,d1,P,X,H,s0,r1⟩:=h;have HR:Hid (bI d d1∧Tx d.room d x r E X H∧Mn d.room x X∧x.cnt<=1000*k):=r1;obtain⟨ao,c,ho⟩:=Sep.oP (Sep.pk [_,_,_,_] s0);have hn:s.length<1000000:=by omega
  have SB:Hid (Sep B w0 (w.alloc (.cells #[.int .i64 u,.int .i64 v] 35)) (RowK 35 2 (.slice ao s.length c) s.length (s.flatMap k6)::ax w.heap.size (.cells #[.int .i64 u,.int .i64 v] 35)::ax pl (.cells #[.slice ao s.length c] 29)::TL (C.eI r) x d1 P L)):=Sep.pk [_,_] (ho.aQ _);have Px:Hid _:=Br (news:=k6 (u,v)) (Sep.blk (Sep.pk [_] SB.out));obtain⟨ps,p0,_⟩:=Sep.c1 ho;clear s0 ho hs r1;go_enter Tryz.func50,Tryz.ntmps50
  go_wp2_with (at_builtin;refine SR rfl rfl Tj Tryz.underlying29 rfl (by decide) (by decide) _ rfl SB.out rfl Px.out rfl (J7 (u,v)) hn ?_;intro JO c5 w5 s5;have S5:Hid (Sep B w0 w5 (ax pl (.cells #[.slice ao s.length c] 29)::lz 35 k6 (.slice JO (s.length+1) c5) (s++[(u,v)])::TL (C.eI r) x d1 P L)):=Sep.pk [_] (PH (Sep.drop (Sep.pk [_] s5)));clear s5 SB Px;obtain⟨qs,q0,qf⟩:=Sep.c1 S5.out)
  have SF:Hid (Sep B w0 (w5.setCell ⟨pl,0,none⟩ (.slice JO (s.length+1) c5)) (TL (C.eI r) x d1 P (PJ pl (s++[(u,v)])::L))):=by
   have h6:=Sep.oD (x:=.slice JO (s.length+1) c5) S5.out 0;exact Sep.pb [_,_,_,_] (Sep.Bv h6)
  go_end0
  exact⟨rfl,r,x,d1,P,X,H,SF.out,HR.out⟩
 ·rw[if_neg hl];have HS:Hid (aJ B w0 d C E k (PJ pl s::L) w):=h;clear h hs;go_enter Tryz.func50,Tryz.ntmps50;go_wp2
  go_end0
  exact⟨rfl,HS.out⟩
end
end Go.Proofs.YtdcpfbidcpfboaaGreatDoor.P
end
section
namespace Go.Proofs.YtdcpfbidcpfboaaGreatDoor.P
open Go.Shelf Go.RowKit Go.Lib Go.Sort
open N (En bp Rg cM aY jK iF gL iM)
section
variable {B:Nat}{w0 w w':World}{C:Cx}{d:Dk}{l:List aN}{E:List En}{k q n pl:Nat}{u:Int}{α:Type}{tt et:TypeId}{enc:α->List Value}{s:List α}
theorem aJ.oP (h:aJ B w0 d C E k (Ti pl tt et enc s::l) w):∃ao c,aJ B w0 d C E k (ax pl (.cells #[.slice ao s.length c] tt)::lz et enc (.slice ao s.length c) s::l) w:=by
 obtain⟨r,x,d1,P,X,H,s0,r1⟩:=h;obtain⟨ao,c,h1⟩:=Sep.oP (Sep.pk [_,_,_,_] s0);exact⟨ao,c,r,x,d1,P,X,H,Sep.pb [_,_,_,_,_] (Sep.pb [_,_,_,_,_] h1),r1⟩
theorem aJ.PK (h:aJ B w0 d C E k l w):aJ B w0 d C E k (Ti w.heap.size tt et enc ([]:List α)::l) (w.alloc (.cells #[.slice none 0 0] tt)):=h.of fun _ _ _ _ s=>Sep.pb [_,_,_,_] (Sep.Bv (Sep.pk [_] (Sep.PI (s.aQ _))))
theorem aJ.PL (h:aJ B w0 d C E k l w):aJ B w0 d C E k (lz et enc (.slice none 0 0) ([]:List α)::l) w:=h.of fun _ _ _ _ s=>Sep.pb [_,_,_,_] (Sep.PI s)
def GRo {α:Type}(B:Nat)(w0:World)(d:Dk)(C:Cx)(E:List En)(k q:Nat)(l:List aN)(et:TypeId)(enc:α->List Value)(R:List α×Int)(e:Ending)(w:World):Prop:=
 ∃v o,e=.returned (.tuple #[v,.int .i64 R.2])∧(R.2=0->o=R.1∧∃ao c,v=.slice ao o.length c)∧(R.2≠0->o=[]∧v=.slice none 0 0)∧aJ B w0 d C E k (lz et enc v o::cI q C::l) w
def DY (E:List En)(u:Int):List (Int×Bool)×Int:=zP (fun s v b=>s++[(v,b)]) E u []
def Oo (E:List En):List (Int×Int)×Int:=wY (fun s u v _=>if u<v then s++[(u,v)]else s) (gf um jb E) []
theorem Tl (T:cd B w0)(hr:d.room<=16384)(h0:C.err=0)(hE:E.length<=200)(h:aJ B w0 d C E k (cI q C::l) w):
  Calls Tryz.prog 30 #[ptr q,.int .i64 u] w (GRo B w0 d C E k q l 74 kt (DY E u)):=by
 have S0:Hid (aJ B w0 d C E k (cI q C::TP w.heap.size []::l) (w.alloc (.cells #[.slice none 0 0] 63))):=aJ.swap (aJ.PK h);have KN:Hid (∀w1 pl,aJ B w0 d C E k (cI q C::TP pl []::l) w1->Calls Tryz.prog 64 #[ptr q,.int .i64 u,.func (.func 65) #[] #[.pointer (some ⟨pl,0,none⟩)]] w1 (TN B w0 d C E k q l (TP pl) (DY E u))):=fun w1 pl h1=>PG (u:=u) (m:=List.length) T hr h0 hE (fun _=>zQ) (fun _ _=>rfl) Fs (fun _ _ _=>by simp) rfl h1;clear h T hr h0 hE;obtain⟨R,hR⟩:∃R,DY E u=R:=⟨_,rfl⟩;rw[hR]at KN⊢;clear hR;unfold ptr at*;go_enter Tryz.func30,Tryz.ntmps30
 go_wp2_with fail
 refine Calls.mono (KN.out _ _ S0.out) ?_;rintro e w1 ⟨rfl,s1⟩;have S1:Hid (aJ B w0 d C E k (TP w.heap.size R.1::cI q C::l) w1):=aJ.swap s1;clear KN S0 s1;by_cases he:R.2=0
 ·obtain⟨ao,c,h2⟩:=aJ.oP S1.out;have S2:Hid (aJ B w0 d C E k (lz 74 kt (.slice ao R.1.length c) R.1::cI q C::l) w1):=aJ.FK h2;obtain⟨_,p0,_⟩:=Sep.c1 h2.sep;have HE:Hid (R.2=0):=he;rw[he];clear h2 S1 he;go_wp2;go_ret2;exact⟨_,_,by rw[HE.out];rfl,fun _=>⟨rfl,ao,c,rfl⟩,fun h=>absurd HE.out h,S2.out⟩
 ·have hb:(R.2 != 0)=true:=bne_iff_ne.2 he;have HE:Hid (R.2≠0):=he;have S2:Hid (aJ B w0 d C E k (lz 74 kt (.slice none 0 0) []::cI q C::l) w1):=aJ.PL (aJ.FK S1.out);clear S1 he;go_wp2;go_ret2;exact⟨_,_,rfl,fun h=>absurd h HE.out,fun _=>⟨rfl,rfl⟩,S2.out⟩
theorem V5 (T:cd B w0)(hr:d.room<=16384)(h0:C.err=0)(hE:E.length<=200)(h:aJ B w0 d C E k (cI q C::l) w):
  Calls Tryz.prog 18 #[ptr q] w (GRo B w0 d C E k q l 35 k6 (Oo E)):=by
 have S0:Hid (aJ B w0 d C E k (cI q C::PJ w.heap.size []::l) (w.alloc (.cells #[.slice none 0 0] 29))):=aJ.swap (aJ.PK h);have KN:Hid (∀w1 pl,aJ B w0 d C E k (cI q C::PJ pl []::l) w1->Calls Tryz.prog 49 #[ptr q,.string um,.string jb,.func (.func 50) #[] #[.pointer (some ⟨pl,0,none⟩)]] w1 (TN B w0 d C E k q l (PJ pl) (Oo E))):=fun w1 pl h1=>PE (m:=List.length) T hr h0 hE (fun _ _=>rfl) Fu (fun s u v _=>by split<;>simp) rfl h1;clear h T hr h0 hE;obtain⟨R,hR⟩:∃R,Oo E=R:=⟨_,rfl⟩;rw[hR]at KN⊢;clear hR;unfold ptr at*;go_enter Tryz.func18,Tryz.ntmps18
 go_wp2_with fail
 refine Calls.mono (KN.out _ _ S0.out) ?_;rintro e w1 ⟨rfl,s1⟩;have S1:Hid (aJ B w0 d C E k (PJ w.heap.size R.1::cI q C::l) w1):=aJ.swap s1;clear KN S0 s1;by_cases he:R.2=0
 ·obtain⟨ao,c,h2⟩:=aJ.oP S1.out;have S2:Hid (aJ B w0 d C E k (lz 35 k6 (.slice ao R.1.length c) R.1::cI q C::l) w1):=aJ.FK h2;obtain⟨_,p0,_⟩:=Sep.c1 h2.sep;have HE:Hid (R.2=0):=he;rw[he];clear h2 S1 he;go_wp2;go_ret2;exact⟨_,_,by rw[HE.out];rfl,fun _=>⟨rfl,ao,c,rfl⟩,fun h=>absurd HE.out h,S2.out⟩
 ·have hb:(R.2 != 0)=true:=bne_iff_ne.2 he;have HE:Hid (R.2≠0):=he;have S2:Hid (aJ B w0 d C E k (lz 35 k6 (.slice none 0 0) []::cI q C::l) w1):=aJ.PL (aJ.FK S1.out);clear S1 he;go_wp2;go_ret2;exact⟨_,_,rfl,fun h=>absurd h HE.out,fun _=>⟨rfl,rfl⟩,S2.out⟩
end
end Go.Proofs.YtdcpfbidcpfboaaGreatDoor.P
end
section
namespace Go.Proofs.YtdcpfbidcpfboaaGreatDoor.P
open Go.Shelf Go.RowKit Go.Lib Go.Sort
open N (En bp Rg cM aY jK iF gL iM)
theorem Tm (w:World):(zeroValue 117).run Tryz.prog w=.ok (.agg #[]) w:=by kernel_rfl
section
variable {B:Nat}{w0 w w':World}{l:List aN}{m n:Nat}{g:Gv}
theorem Sep.Oq (h:Sep B w0 w (cT m g n::l)){k:Int}(hk:Wf k):(Instr.lookup 116 (.map (some m)) (.int .i64 k) true).run Tryz.prog w=.ok (.tuple #[((g k).getD (.agg #[])),.bool (g k).isSome]) w:=by
 obtain⟨D,o,hv⟩:=h.rV;obtain⟨v,ps,hr,hR⟩:=o.look_ok ie Tryz.underlying116 (Tm w) (zd:=.held (.agg #[])) (zp:=[]) rfl hk.key;rw[hr,oh (z:=.agg #[]) (c:=.agg #[]) hR ((hv k).2 _),(hv k).1]
theorem Sep.Ot (h:Sep B w0 w (cT m g n::l)){k:Int}(hk:Wf k)(c:Value)(hn:n<1000000):∃w',(Instr.mapUpdate 116 (.map (some m)) (.int .i64 k) c).run Tryz.prog w=.ok () w'∧Sep B w0 w' (cT m (pH g k c) (n+1)::l):=by
 obtain⟨D,o,hv⟩:=h.rV;obtain⟨w',hr,o',ht⟩:=o.store ie Tryz.underlying116 (Nat.lt_of_lt_of_le hn (by decide)) hk.key (val:=c) (d:=.held c) (ps:=[]) rfl;refine⟨w',hr,h.step (dz _ _ _) fun X hX=>⟨X,⟨⟨_,o',hv.put o.isMap k c⟩,hX.2⟩,df.mapTurned ((hX.2 m).2 rfl) ht,fun k hk=>.inl hk⟩⟩
end
section
variable {B:Nat}{w0 w w':World}{C:Cx}{d:Dk}{l:List aN}{E:List En}{k q n qo m qf ql:Nat}{u:Int}{g:Gv}{W:List Int}
def PM (qo m qf ql:Nat)(g:Gv)(n:Nat)(s:Int×Bool):aN:=Both (ax qo (.cells #[.map (some m)] 116)) (Both (cT m g n) (Both (ax qf (.cells #[.bool s.2] 4)) (ax ql (.cells #[.int .i64 s.1] 3))))
theorem Kd {s:Int×Bool}:Good (PM qo m qf ql g n s):=aO (aT _ _) (aO (dz _ _ _) (aO (aT _ _) (aT _ _)))
def TQ (W:List Int)(s:Int×Bool)(v:Int)(b:Bool):Int×Bool:=if s.2=false∧b=false∧v∉W then(v,true)else s
theorem aJ.Ke {s:Int×Bool}(h:aJ B w0 d C E k (PM qo m qf ql g n s::l) w):aJ B w0 d C E k (ax qo (.cells #[.map (some m)] 116)::cT m g n::ax qf (.cells #[.bool s.2] 4)::ax ql (.cells #[.int .i64 s.1] 3)::l) w:=by
 have h1:=aJ.zO (aT _ _) (aO (dz _ _ _) (aO (aT _ _) (aT _ _))) h;have h2:=aJ.zO (dz _ _ _) (aO (aT _ _) (aT _ _)) (aJ.swap h1);have h3:=aJ.zO (aT _ _) (aT _ _) (aJ.swap h2);obtain⟨r,x,d1,P,X,H,s0,r1⟩:=h3;refine⟨r,x,d1,P,X,H,?_,r1⟩;exact Sep.pb [_,_,_,_] (Sep.pb [_,_,_,_,_] (Sep.pk [_,_,_,_,_,_,_] (Sep.pk [_,_,_,_,_,_,_] s0)))
theorem aJ.Bw {s:Int×Bool}(h:aJ B w0 d C E k (ax qo (.cells #[.map (some m)] 116)::cT m g n::ax qf (.cells #[.bool s.2] 4)::ax ql (.cells #[.int .i64 s.1] 3)::l) w):aJ B w0 d C E k (PM qo m qf ql g n s::l) w:=h.of fun _ _ _ _ s0=>
 Sep.pb [_,_,_,_] (Sep.join (Sep.pk [_,_,_,_,_] (Sep.join (Sep.pk [_,_,_,_,_,_] (Sep.join (Sep.pk [_,_,_,_,_,_,_] (Sep.pk [_,_,_,_,_,_,_] s0)))))))
def uo (g:Gv)(W:List Int):Prop:=∀v,g v=if v∈W then some (.agg #[])else none
theorem Kf (hg:uo g W):Xg B w0 d C E k 66 #[.pointer (some ⟨qo,0,none⟩),.pointer (some ⟨qf,0,none⟩),.pointer (some ⟨ql,0,none⟩)] (TQ W) (PM qo m qf ql g n) (fun _=>0):=by
 intro w L s v b hs hv h;have HS:Hid (aJ B w0 d C E k (ax qo (.cells #[.map (some m)] 116)::cT m g n::ax qf (.cells #[.bool s.2] 4)::ax ql (.cells #[.int .i64 s.1] 3)::L) w):=aJ.Ke h;obtain⟨_,c0,_⟩:=Sep.c1 HS.out.sep;obtain⟨_,c1,f1⟩:=Sep.c1 (Sep.pk [_,_] HS.out.sep);obtain⟨_,c2,f2⟩:=Sep.c1 (Sep.pk [_,_,_] HS.out.sep);have nfl:qf≠ql:=Sep.ne (l:=L) (Sep.drop (Sep.drop HS.out.sep));have nlf:=nfl.symm;have LK:=Sep.Oq (Sep.pk [_] HS.out.sep) hv;rw[hg v]at LK;have HST:Hid (∀b,TQ W s v b=if s.2=false∧b=false∧v∉W then(v,true)else s):=fun _=>rfl;clear h hs hv hg;obtain⟨s1,s2⟩:=s;simp only at c1 c2;by_cases hW:v∈W
 ·rw[if_pos hW]at LK;simp only[Option.getD_some,Option.isSome_some]at LK;have HR:Hid (TQ W (s1,s2) v b=(s1,s2)):=by have:=HST.out b;rw[if_neg (fun c=>c.2.2 hW)]at this;exact this
  rw[HR.out];clear HST HR hW;cases s2
  all_goals
   cases b
   all_goals
    go_enter Tryz.func66,Tryz.ntmps66;go_wp2
    go_end0
    exact⟨rfl,aJ.Bw (aJ.below HS.out ((Below.refl _ _).alloc (Nat.le_refl _) _))⟩
 ·rw[if_neg hW]at LK;simp only[Option.getD_none,Option.isSome_none]at LK;by_cases hb:s2=false∧b=false
  ·have HR:Hid (TQ W (s1,s2) v b=(v,true)):=by have:=HST.out b;rw[if_pos ⟨hb.1,hb.2,hW⟩]at this;exact this
   obtain⟨rfl,rfl⟩:=hb;rw[HR.out];clear HST HR hW;go_enter Tryz.func66,Tryz.ntmps66;have SF:Hid (aJ B w0 d C E k (PM qo m qf ql g n (v,true)::L) ((w.setCell ⟨ql,0,none⟩ (.int .i64 v)).setCell ⟨qf,0,none⟩ (.bool true))):=by
    obtain⟨r,x,d1,P,X,H,s0,r1⟩:=HS.out;have a1:=Sep.oD (x:=.int .i64 v) (Sep.pk [_,_,_,_,_,_,_] s0) 0;have a2:=Sep.oD (x:=.bool true) (Sep.pk [_,_,_,_,_,_,_] a1) 0;exact⟨r,x,d1,P,X,H,Sep.pb [_,_,_,_] (Sep.join (Sep.pk [_,_,_,_,_] (Sep.join (Sep.pk [_,_,_,_,_,_] (Sep.join a2))))),r1⟩
   clear HS;go_wp2
   go_end0
   exact⟨rfl,aJ.below SF.out ((Below.refl _ _).alloc (Nat.le_refl _) _)⟩
  ·have HR:Hid (TQ W (s1,s2) v b=(s1,s2)):=by have:=HST.out b;rw[if_neg (fun c=>hb ⟨c.1,c.2.1⟩)]at this;exact this
   rw[HR.out];clear HST HR hW;cases s2
   ·cases b
    ·exact absurd ⟨rfl,rfl⟩ hb
    ·clear hb;go_enter Tryz.func66,Tryz.ntmps66;go_wp2
     go_end0
     exact⟨rfl,aJ.Bw (aJ.below HS.out ((Below.refl _ _).alloc (Nat.le_refl _) _))⟩
   ·clear hb;go_enter Tryz.func66,Tryz.ntmps66;go_wp2
    go_end0
    exact⟨rfl,aJ.Bw (aJ.below HS.out ((Below.refl _ _).alloc (Nat.le_refl _) _))⟩
theorem Kg:uo (fun _=>none) []:=fun v=>by simp
theorem Kh (h:uo g W)(v:Int):uo (pH g v (.agg #[])) (v::W):=fun x=>by
 unfold pH;by_cases e:x=v
 ·subst e;simp
 ·rw[if_neg e,h x];simp[e]
def pB (E:List En)(u:Int)(W:List Int):(Int×Bool)×Int:=zP (TQ W) E u (0,false)
theorem V6 (w:World)(n:Nat):(Instr.makeMap 116 (some (.int .i64 (n:Int)))).run Tryz.prog w=.ok (.map (some w.heap.size)) (w.alloc (.map #[] 0)):=by
 kernel_rfl
theorem Fv {j:Nat}(h:uo g (W.take j))(hj:j<W.length):uo (pH g W[j]! (.agg #[])) (W.take (j+1)):=fun x=>by
 rw[Kh h _ x];have e:x∈W.take (j+1)↔x∈W[j]! ::W.take j:=by
  rw[N.cY hj];simp[or_comm]
 by_cases c:x∈W.take (j+1)
 ·rw[if_pos c,if_pos (e.1 c)]
 ·rw[if_neg c,if_neg (fun z=>c (e.2 z))]
theorem V7 {wv:Value}(T:cd B w0)(hr:d.room<=16384)(h0:C.err=0)(hE:E.length<=200)(hW:∀w',Sep B w0 w' l->N.Row N.encI 1 w' wv W)(hl:W.length<=1000)(hwf:∀v∈W,Wf v)(h:aJ B w0 d C E k (cI q C::l) w):
  Calls Tryz.prog 31 #[ptr q,.int .i64 u,wv] w fun e w'=>e=.returned (.tuple #[.int .i64 (if(pB E u W).2=0 then(pB E u W).1.1 else 0),.bool (if(pB E u W).2=0 then(pB E u W).1.2 else false),.int .i64 (pB E u W).2])∧aJ B w0 d C E k (cI q C::l) w':=by
 obtain⟨aw,cw,rfl,_⟩:=N.aF (hW _ (Sep.drop h.sep));have HW:Hid (∀w',Sep B w0 w' l->N.Row N.encI 1 w' (.slice aw W.length cw) W):=hW;have HB:Hid (W.length<=1000):=hl;have HF:Hid (∀v∈W,Wf v):=hwf;have hmk:=V6 w W.length;have S1:Hid (aJ B w0 d C E k (ax (w.heap.size+1) (.cells #[.map (some w.heap.size)] 116)::cT w.heap.size (fun _=>none) 0::cI q C::l) ((w.alloc (.map #[] 0)).alloc (.cells #[.map (some w.heap.size)] 116))):=h.of fun _ _ _ _ s=>Sep.pb [_,_,_,_] (Sep.aZ (Sep.pb [_,_,_,_] s.Cb) _ _ (by simp));have KN:Hid (∀w1 qo qf ql g m n,uo g W->aJ B w0 d C E k (cI q C::PM qo m qf ql g n (0,false)::l) w1->Calls Tryz.prog 64 #[ptr q,.int .i64 u,.func (.func 66) #[] #[.pointer (some ⟨qo,0,none⟩),.pointer (some ⟨qf,0,none⟩),.pointer (some ⟨ql,0,none⟩)]] w1 (TN B w0 d C E k q l (PM qo m qf ql g n) (pB E u W))):=fun w1 qo qf ql g m n hg h1=>PG (u:=u) (m:=fun _=>0) T hr h0 hE (fun _=>Kd) (fun _ _=>rfl) (Kf hg) (fun _ _ _=>by omega) rfl h1;clear hl hW hwf h T hr h0 hE;obtain⟨R,hR⟩:∃R,pB E u W=R:=⟨_,rfl⟩;rw[hR]at KN⊢;clear hR;unfold ptr at*;go_enter Tryz.func31,Tryz.ntmps31;go_wp2;clear hmk
 go_loopg [20] W.length (fun kx s20 wr=>∃(j:Nat) (g:Gv),s20=.int .i64 (j:Int)∧j<=W.length∧W.length-j<=kx∧Hid (uo g (W.take j))∧Hid (aJ B w0 d C E k (ax (w.heap.size+1) (.cells #[.map (some w.heap.size)] 116)::cT w.heap.size g j::cI q C::l) wr))
 case atStart=>exact⟨0,_,rfl,Nat.zero_le _,Nat.le_refl _,Kg,S1.out⟩
 case round=>
  obtain⟨j,g,rfl,hj,hjx,HG,HS⟩:=hrel;clear S1;by_cases hlt:j<W.length
  ·have Bq:(j:Int)< (W.length:Int):=by omega
   obtain⟨dJ,cap',e',_,_,h3⟩:=HW.out _ (Sep.drop (Sep.drop (Sep.drop HS.out.sep)));obtain⟨rb,VT,hae,hrb,z0⟩:=N.qj h3 j hlt (Below.refl _ _);have e2:aw=dJ:=by injection e'
   subst e2;subst hae;have hwj:IntKind.i64.wrap ((j:Int)+1)=((j+1:Nat):Int):=by rw[bR (by omega) (by have:=HB.out;omega)];rfl
   obtain⟨_,c0,_⟩:=Sep.c1 HS.out.sep;have HG2:Hid (uo (pH g W[j]! (.agg #[])) (W.take (j+1))):=Fv HG.out hlt;obtain⟨w9,hmp,RM⟩:∃w9,(Instr.mapUpdate 116 (.map (some w.heap.size)) (.int .i64 W[j]!) (.agg #[])).run Tryz.prog wr=.ok () w9∧Hid (aJ B w0 d C E k (ax (w.heap.size+1) (.cells #[.map (some w.heap.size)] 116)::cT w.heap.size (pH g W[j]! (.agg #[])) (j+1)::cI q C::l) w9):=by
    obtain⟨r,x,d1,P,X,H,s0,r1⟩:=HS.out;obtain⟨w9,hmp,s9⟩:=Sep.Ot (k:=W[j]!) (Sep.pk [_,_,_,_,_] s0) (HF.out _ (by rw[getElem!_pos W j hlt];exact List.getElem_mem hlt)) (.agg #[]) (by have:=HB.out;omega);exact⟨w9,hmp,r,x,d1,P,X,H,Sep.pb [_,_,_,_,_] s9,r1⟩
   clear HS HG h3 e' hlt;generalize pH g W[j]! (.agg #[])=g2 at*;generalize W[j]! =wj at*;go_wp2
   go_roundg (W.length- (j+1))
   case measure=>omega
   case rel=>exact⟨j+1,g2,by go_num,by omega,Nat.le_refl _,HG2.out,RM.out⟩
  ·have Bq:¬(j:Int)< (W.length:Int):=by omega
   have hj2:j=W.length:=by omega
   have HG2:Hid (uo g W):=by have:=HG.out;rw[hj2,List.take_length]at this;exact this
   clear HG hj2;have S3:Hid (aJ B w0 d C E k (cI q C::PM (w.heap.size+1) w.heap.size (wr.heap.size+1) wr.heap.size g j (0,false)::l) ((wr.alloc (.cells #[.int .i64 0] 3)).alloc (.cells #[.bool false] 4))):=aJ.swap (HS.out.of fun _ _ _ _ s=>Sep.pb [_,_,_,_] (Sep.join (Sep.pk [_,_,_,_,_] (Sep.join (Sep.pk [_,_,_,_,_,_] (Sep.join (Sep.aZ (s.aQ _) _ _ (by simp))))))));have K4:Hid _:=KN.out _ _ _ _ _ _ _ HG2.out S3.out;clear KN HS HG2 S3
   go_wp2_with fail
   refine Calls.mono K4.out ?_;rintro e w4 ⟨rfl,s4⟩;have S4:Hid (aJ B w0 d C E k (ax (w.heap.size+1) (.cells #[.map (some w.heap.size)] 116)::cT w.heap.size g j::ax (wr.heap.size+1) (.cells #[.bool R.1.2] 4)::ax wr.heap.size (.cells #[.int .i64 R.1.1] 3)::cI q C::l) w4):=aJ.Ke (aJ.swap s4);have S5:Hid (aJ B w0 d C E k (cI q C::l) w4):=aJ.FK (aJ.FK (aJ.FK (aJ.FK S4.out)));clear K4 s4;by_cases he:R.2=0
   ·obtain⟨_,c1,_⟩:=Sep.c1 (Sep.pk [_,_] S4.out.sep);obtain⟨_,c2,_⟩:=Sep.c1 (Sep.pk [_,_,_] S4.out.sep);have HE:Hid (R.2=0):=he;rw[he];clear S4 he
    go_wp2_with fail
    go_region
    go_wp2
    go_ret3
    refine⟨?_,aJ.dr S5.out⟩
    first|rfl| (rw[if_pos HE.out,if_pos HE.out,HE.out];rfl)
   ·have hb:(R.2 != 0)=true:=bne_iff_ne.2 he;have HE:Hid (R.2≠0):=he;clear S4 he;go_wp2
    go_ret3
    refine⟨?_,S5.out⟩
    first|rfl| (rw[if_neg HE.out,if_neg HE.out];rfl)
end
end Go.Proofs.YtdcpfbidcpfboaaGreatDoor.P
end
section
namespace Go.Proofs.YtdcpfbidcpfboaaGreatDoor.P
open Go.Shelf Go.RowKit Go.Lib Go.Sort
open N (En bp Rg cM aY jK iF gL iM)
section
variable {B:Nat}{w0 w w':World}{C:Cx}{d:Dk}{l:List aN}{E:List En}{k q n:Nat}
theorem Ou {n:Int}(h2:2<=n)(h3:n<=16384)(h:Sep B w0 w l):Calls Tryz.prog 9 #[.int .i64 n] w fun e w'=>∃(C:Cx) (q:Nat),e=.returned (.tuple #[ptr q,ptr C.tq])∧C.err=0∧aJ B w0 (Dk.new n) C [] 0 (cI q C::l) w':=by
 have HR:Hid ((Dk.new n).room=n.toNat∧2<=n.toNat∧n.toNat<=16384):=⟨zM h2 h3,by omega,by omega⟩;have CD:Hid _:=Uh n h;clear h h2 h3;generalize Dk.new n=d0 at*;go_enter Tryz.func9,Tryz.ntmps9
 go_wp2_with fail
 refine Calls.mono CD.out ?_;rintro e w2 ⟨b,rfl,s2⟩;have CF:Hid _:=Uj s2;clear CD s2
 go_wp2_with fail
 refine Calls.mono CF.out ?_;rintro e w3 ⟨f,rfl,s3⟩;have CT:=Yh s3 (by rw[HR.out.1];exact HR.out.2.2) (v:=.slice none 0 0) (fr:=[]) ⟨none,0,rfl,Nat.le_refl _,fun _=>rfl,fun h=>absurd rfl h⟩ (by simp) 2;rw[HR.out.1]at CT;have CT2:Hid _:=CT;clear CF s3 CT
 go_wp2_with fail
 refine Calls.mono CT2.out ?_;rintro e w4 ⟨t,rfl,s4⟩;have CN:Hid _:=VL (root:=0) s4;clear CT2 s4
 go_wp2_with fail
 refine Calls.mono CN.out ?_;rintro e w5 ⟨tq,rfl,s5⟩;have KA:Hid _:=anew (JX HR.out.1 HR.out.2.1 s5);clear CN s5;unfold ptr at*
 go_wp2_with fail
 refine Calls.mono KA.out ?_;rintro e w6 ⟨q,rfl,s6⟩;have S6:Hid _:=s6;clear KA s6;go_wp2;go_ret2;exact⟨⟨0,tq,t,f,b,0,0⟩,q,rfl,rfl,S6.out⟩
theorem V8 {room:Nat}(hE:E.length<=8)(hr:60<=room):Cap room d E:=fun S root X H T=>by
 have h1:=T.cnt.1;have h2:H<=3:=by
  rcases T.cnt.2 with h|h
  ·omega
  ·rcases Nat.lt_or_ge 3 H with h7|h7
   ·have:2^4<=2^H:=Nat.pow_le_pow_right (by omega) h7;omega
   ·exact h7
 omega
abbrev xA:List En:=uj [] 1 2 true
abbrev xB:List En:=uj xA 2 3 false
theorem Nt:dR 2 1=0∧cf 2 1=(1,2)∧dR 2 3=0∧cf 2 3=(2,3)∧dR 1 2=0∧cf 1 2=(1,2)∧dR 1 1=31∧dR 1 9=0:=by decide+kernel
theorem Yy:DY xB 2=([(1,true),(3,false)],0):=by decide+kernel
theorem wk3:Oo xB=([(1,2),(2,3)],0):=by decide+kernel
theorem wk4:pB xB 2 []=((3,true),0):=by decide+kernel
theorem Zf:jG xB 1 2=(true,true)∧Om xB 1 9=181∧Fq xB 1 9=false:=by decide+kernel
theorem wk6:bQ 1 2=⟨#[65,0,0,0,1,0,0,0,2]⟩:=by decide+kernel
theorem Tn:xA.length<=2∧xB.length<=4:=by decide+kernel
end
end Go.Proofs.YtdcpfbidcpfboaaGreatDoor.P
end
section
namespace Go.Proofs.YtdcpfbidcpfboaaGreatDoor.P
open Go.Shelf Go.RowKit Go.Lib Go.Sort
open N (En bp Rg cM aY jK iF gL iM)
section
variable {B:Nat}{w0 w w':World}{C:Cx}{d:Dk}{l:List aN}{E:List En}{k q n:Nat}
theorem Ov (T:cd B w0)(h:Sep B w0 w l):Calls Tryz.prog 8 #[] w fun e w'=>e=.returned (.bool true)∧Sep B w0 w' l:=by
 have HT:Hid (cd B w0):=T;have V9:(Dk.new 60).room=60:=zM (by omega) (by omega);have HC:Hid ((∀E':List En,E'.length<=8->Cap (Dk.new 60).room (Dk.new 60) E')∧(Dk.new 60).room<=16384):=by
  rw[V9];exact⟨fun E' h=>V8 h (by omega),by omega⟩
 have KE:Hid _:=Ou (n:=60) (by omega) (by omega) h;clear h T V9;generalize Dk.new 60=d0 at*;go_enter Tryz.func8,Tryz.ntmps8
 go_wp2_with fail
 refine Calls.mono KE.out ?_;rintro e w1 ⟨C,q,rfl,hC,h1⟩;have C0:Hid (C.err=0):=hC;have K1:=Td (n:=8) 2 1 true HT.out HC.out.2 hC HC.out.1 (by simp) (by omega) (by omega) h1;rw[Nt.1,Nt.2.1]at K1;have J1:Hid _:=K1;clear KE h1 hC K1;unfold ptr at*
 go_wp2_with fail
 refine Calls.mono J1.out ?_;rintro e w2 ⟨rfl,-,g2⟩;have h2:aJ B w0 d0 C xA 2 (cI q C::l) w2:=g2 trivial;have K2:=Td (n:=8) 2 3 false HT.out HC.out.2 C0.out HC.out.1 (by have:=Tn.1;omega) (by omega) (by omega) h2;rw[Nt.2.2.1,Nt.2.2.2.1]at K2;have J2:Hid _:=K2;clear J1 h2 g2 K2;unfold ptr at*
 go_wp2_with fail
 refine Calls.mono J2.out ?_;rintro e w3 ⟨rfl,-,g3⟩;have h3:aJ B w0 d0 C xB 4 (cI q C::l) w3:=g3 trivial;have K3:Hid _:=Tl (u:=2) HT.out HC.out.2 C0.out (by have:=Tn.2;omega) h3;clear J2 h3 g3;unfold ptr at*
 go_wp2_with fail
 refine Calls.mono K3.out ?_;rintro e w4 hg;rw[Yy]at hg;obtain⟨nv,no,rfl,hn1,-,g4⟩:=hg;obtain⟨rfl,an,cn,rfl⟩:=hn1 rfl;have h4:aJ B w0 d0 C xB 4 (cI q C::lz 74 kt (.slice an 2 cn) [(1,true),(3,false)]::l) w4:=aJ.swap g4;have K4:Hid _:=V5 HT.out HC.out.2 C0.out (by have:=Tn.2;omega) h4;clear K3 hn1 h4 g4;unfold ptr at*
 go_wp2_with fail
 refine Calls.mono K4.out ?_;rintro e w5 hg;rw[wk3]at hg;obtain⟨ev,eo,rfl,hn1,-,g5⟩:=hg;obtain⟨rfl,ae,ce,rfl⟩:=hn1 rfl;have h5:aJ B w0 d0 C xB 4 (cI q C::lz 35 k6 (.slice ae 2 ce) [(1,2),(2,3)]::lz 74 kt (.slice an 2 cn) [(1,true),(3,false)]::l) w5:=aJ.swap g5;have K5:=V7 (u:=2) (wv:=.slice none 0 0) (W:=[]) HT.out HC.out.2 C0.out (by have:=Tn.2;omega) (fun _ _=>N.wD) (by simp) (fun _ h=>by cases h) h5;rw[wk4]at K5;have J5:Hid _:=K5;clear K4 hn1 h5 g5 K5;unfold ptr at*
 go_wp2_with fail
 refine Calls.mono J5.out ?_;rintro e w6 ⟨rfl,g6⟩;have h6:aJ B w0 d0 C xB 4 (cI q C::lz 35 k6 (.slice ae 2 ce) [(1,2),(2,3)]::lz 74 kt (.slice an 2 cn) [(1,true),(3,false)]::l) w6:=g6;have K6:=Zc 1 2 HT.out HC.out.2 C0.out (by have:=Tn.2;omega) h6;rw[Nt.2.2.2.2.1,Nt.2.2.2.2.2.1,Zf.1]at K6;have J6:Hid _:=K6;clear J5 h6 g6 K6;unfold ptr at*
 go_wp2_with fail
 refine Calls.mono J6.out ?_;rintro e w7 ⟨rfl,g7⟩;have H7:Hid (aJ B w0 d0 C xB 4 (cI q C::lz 35 k6 (.slice ae 2 ce) [(1,2),(2,3)]::lz 74 kt (.slice an 2 cn) [(1,true),(3,false)]::l) w7):=g7;obtain⟨r1,c1,e1,_,hr1,z1⟩:=Sep.gC (Sep.pk [_] H7.out.sep) (by decide);obtain⟨r2,c2,e2,_,hr2,z2⟩:=Sep.gC (Sep.pk [_,_] H7.out.sep) (by decide);cases e1;cases e2;have y0:=z1 0 (by decide);have y1:=z1 1 (by decide);have y2:=z1 2 (by decide);have y3:=z1 3 (by decide);have x0:=z2 0 (by decide);have x1:=z2 1 (by decide);have x2:=z2 2 (by decide);have x3:=z2 3 (by decide);simp only[k6,kt,List.flatMap_cons,List.flatMap_nil,List.cons_append,List.nil_append,List.append_nil,List.getElem?_cons_zero,List.getElem?_cons_succ]at y0 y1 y2 y3 x0 x1 x2 x3;clear z1 z2 J6 g7
 go_wp2_with fail
 refine Calls.mono (jV 1 2 _) ?_;rintro e w8 ⟨rfl,b8⟩;have H8:Hid (aJ B w0 d0 C xB 4 (cI q C::lz 35 k6 (.slice (some ⟨r1,0,none⟩) 2 ce) [(1,2),(2,3)]::lz 74 kt (.slice (some ⟨r2,0,none⟩) 2 cn) [(1,true),(3,false)]::l) w8):=aJ.below H7.out b8;have K8:=Zd (n:=8) 1 9 HT.out HC.out.2 C0.out HC.out.1 (by have:=Tn.2;omega) (by omega) (by omega) H8.out;rw[Zf.2.1,Zf.2.2]at K8;have J8:Hid _:=K8;rw[wk6];clear H7 b8 K8 y0 y1 y2 y3 x0 x1 x2 x3 hr1 hr2 H8;unfold ptr at*
 go_wp2_with fail
 refine Calls.mono J8.out ?_;rintro e w9 ⟨rfl,g9⟩;have h9:aJ B w0 d0 C xB 4 (cI q C::lz 35 k6 (.slice (some ⟨r1,0,none⟩) 2 ce) [(1,2),(2,3)]::lz 74 kt (.slice (some ⟨r2,0,none⟩) 2 cn) [(1,true),(3,false)]::l) w9:=g9.1 rfl;have K9:=Td (n:=8) 1 1 true HT.out HC.out.2 C0.out HC.out.1 (by have:=Tn.2;omega) (by omega) (by omega) h9;rw[Nt.2.2.2.2.2.2.1]at K9;have J9:Hid _:=K9;clear J8 g9 h9 K9;unfold ptr at*
 go_wp2_with fail
 refine Calls.mono J9.out ?_;rintro e Xl ⟨rfl,g10,-⟩;have Di:Hid (aJ B w0 d0 C xB 4 (cI q C::lz 35 k6 (.slice (some ⟨r1,0,none⟩) 2 ce) [(1,2),(2,3)]::lz 74 kt (.slice (some ⟨r2,0,none⟩) 2 cn) [(1,true),(3,false)]::l) Xl):=g10 (by decide);clear J9 g10;go_wp2;go_ret;exact⟨rfl,Sep.drop (Sep.drop (Sep.drop Di.out.sep))⟩
end
end Go.Proofs.YtdcpfbidcpfboaaGreatDoor.P
end
