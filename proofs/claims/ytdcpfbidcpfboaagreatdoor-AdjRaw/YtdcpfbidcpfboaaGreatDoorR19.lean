/- Walks of the package cowtree and of what it stands on: lemmas, made short. -/
import Derived.Test.YtdcpfbidcpfboaaGreatDoorR5
import Derived.Deep.Slices
import Derived.ProofKit
import Derived.OpenShut
import Derived.ChangeOld
import Derived.Below
import Derived.ChangeSlices
import Derived.Deep.SlicePairs
import Derived.Test.YtdcpfbidcpfboaaGreatDoorR17
import Derived.Deep.RegionHeld3
import Derived.Deep.QuietTactic
import Derived.BigQuiet
set_option maxHeartbeats 16000000
set_option maxRecDepth 100000
set_option linter.unusedVariables false
set_option linter.unusedSimpArgs false
section
namespace Go.Proofs.YtdcpfbidcpfboaaGreatDoor.P
open Go.Deep Go.ChangeShapes Go.WideShapes Go.ChangeAt Go.RowKit Go.ChangeMaps Go.Shelf Go.Lib Go.Sort
open N (En)
variable {H:Type}{enc:TypeId×Value->H}{W:World}{base:Nat}{spare:Nat->Bool}{held:Bool}{fuel:Nat}{x:DataW H×List MemPlace}
theorem blk_cell {W:World}{b o:Nat}{v:Value}(h:W.cell? ⟨b,o,none⟩=some v):b<W.heap.size:=by
 rcases Nat.lt_or_ge b W.heap.size with hb|hb
 ·exact hb
 ·have e:W.heap[b]? =none:=Array.getElem?_eq_none hb;simp[World.cell?,e]at h
theorem row_prs {W:World}{a:Addr}{len cap:Nat}{q:Nat->En}(hl:len<=cap)(hc:∀i,i<len->W.cell? (a.add (i*2))=some (.string (q i).1)∧W.cell? (a.add (i*2+1))=some (.string (q i).2)):
  N.Row N.aG 2 W (.slice (some a) len cap) ((List.range len).map q):=by
 refine⟨some a,cap,by simp,by simpa using hl,(fun h=>by cases h),fun hne=>?_⟩;have hpos:0<len:=by
  rcases Nat.eq_zero_or_pos len with h|h
  ·subst h;exact absurd rfl hne
  ·exact h
 obtain⟨b,off,spot⟩:=a;have hspot:spot=none:=by simpa[Addr.add]using World.cell?_spot (hc 0 hpos).1
 subst hspot;have c00:=(hc 0 hpos).1;rw[add_plain]at c00;refine⟨b,off,rfl,blk_cell c00,fun t ht=>?_⟩;have ht':t<len*2:=by simpa using ht
 rw[get_flatK _ _ _ _ (by simpa using ht)];obtain⟨h0,h1⟩:=hc (t/2) (by omega);rw[add_plain]at h0 h1;have eg:((List.range len).map q).toArray[t/2]! =q (t/2):=by
  rw[getElem!_pos _ _ (by simp;omega)];simp
 rw[eg];rcases Nat.mod_two_eq_zero_or_one t with hm|hm
 ·rw[hm,show t=t/2*2 by omega,h0];simp[N.aG]
 ·rw[hm,show t=t/2*2+1 by omega,h1,show(t/2*2+1)/2=t/2 by omega];simp[N.aG]
theorem open_ents {a:Option Addr}{len cap:Nat}(h:DataW.trod enc Tryz.prog W base spare held fuel 55 (Value.slice a len cap).cells.toList=some x):∃l:List En,N.Row N.aG 2 W (.slice a len cap) l:=by
 rcases open_slice_pairs Tryz.underlying55 Tryz.underlying49 (by kernel_rfl) rfl rfl (by kernel_rfl) (by kernel_rfl) h with⟨hcs,_⟩| ⟨ad,l,c,m,n,V0,V1,D0,D1,P0,P1,hcs,_,hl,_,hm,_,hcell⟩
 ·simp[Value.cells]at hcs;obtain⟨rfl,rfl,rfl⟩:=hcs;exact⟨[],N.wD⟩
 ·simp[Value.cells]at hcs;obtain⟨rfl,rfl,rfl⟩:=hcs;have each:∀i,i<len->∃q:En,W.cell? (ad.add (i*2))=some (.string q.1)∧W.cell? (ad.add (i*2+1))=some (.string q.2):=by
   intro i hi;obtain⟨c0,c1,t0,t1⟩:=hcell i (by rw[hm];split<;>omega);obtain⟨z0,e0,_,s0⟩:=DataW.trod_string Tryz.underlying9 t0;obtain⟨z1,e1,_,s1⟩:=DataW.trod_string Tryz.underlying9 t1;simp only[List.cons.injEq,and_true]at e0 e1;rw[e0]at c0;rw[e1]at c1;exact⟨(z0,z1),c0,c1⟩
  obtain⟨q,hq⟩:=choose_lt each;exact⟨_,row_prs (q:=q) hl fun i hi=>hq i hi⟩
end Go.Proofs.YtdcpfbidcpfboaaGreatDoor.P
end
section
namespace Go.Proofs.YtdcpfbidcpfboaaGreatDoor.P
open Go.Shelf Go.RowKit Go.Lib Go.Sort
open N (En bp Rg cM aY jK iF gL iM)
theorem ptLen {E:List En}{key val:ByteArray}(h:cM key val=true)(hr:Rg E):(jK E key val).length<=E.length+1:=by
 have:=DG key val E;have e1:(Pp key val E).length=(jK E key val).length:=by unfold Pp;rw[if_pos (by rw[h,N.gD hr];rfl)]
 omega
theorem goA_all {σ τ:Type}{st:σ->Int->Int->Bool->σ}{su:τ->Int->Int->Bool->τ}{l:List En}{s:σ}{t:τ}:(wY st l s).2=(wY su l t).2:=by
 rcases NG (st:=st) (l:=l) (s:=s)with⟨a,b⟩| ⟨a,x,hx,c⟩
 ·rcases NG (st:=su) (l:=l) (s:=t)with⟨a',b'⟩| ⟨a',x',hx',c'⟩
  ·rw[a,a']
  ·rw[b x' hx']at c';cases c'
 ·rcases NG (st:=su) (l:=l) (s:=t)with⟨a',b'⟩| ⟨a',x',hx',c'⟩
  ·rw[b' x hx]at c;cases c
  ·rw[a,a']
def badE (l:List En):Bool:=l.any fun e=>!(dK e).2
theorem bad_edg {E:List En}:(Oo E).2=if badE (gf um jb E)=true then 3 else 0:=by
 unfold Oo badE;rcases NG (st:=fun(s:List (Int×Int)) u v _=>if u<v then s++[(u,v)]else s) (l:=gf um jb E) (s:=[])with⟨a,b⟩| ⟨a,x,hx,c⟩
 ·rw[a,if_neg];intro h;obtain⟨e,he,h⟩:=List.any_eq_true.1 h;rw[b e he]at h;cases h
 ·rw[a,if_pos (List.any_eq_true.2 ⟨x,hx,by rw[c];rfl⟩)]
theorem near_sub {E:List En}{u:Int}(hu:dD u=true){e:En}(h:e∈gf (xz u) (toA u) E):e∈gf um jb E:=by
 rw[kn]at h⊢;refine⟨h.1,?_⟩;rw[Pb];have h2:=h.2;rw[Bool.and_eq_true_iff,nE]at h2;rw[Bool.not_eq_true']at h2;exact RP h2.1 h2.2
theorem near_two {σ:Type}{st:σ->Int->Bool->σ}{E:List En}{u:Int}{s:σ}:(zP st E u s).2=30∨(zP st E u s).2=0∨badE (gf um jb E)=true∧(zP st E u s).2=3:=by
 unfold zP;split
 ·rename_i hu
  rcases NG (st:=fun s _ v b=>st s v b) (l:=gf (xz u) (toA u) E) (s:=s)with⟨a,b⟩| ⟨a,x,hx,c⟩
  ·exact .inr (.inl a)
  ·exact .inr (.inr ⟨List.any_eq_true.2 ⟨x,near_sub hu hx,by rw[c];rfl⟩,a⟩)
 ·exact .inl rfl
theorem bad_take {l:List En}{j:Nat}(hj:j<l.length):badE (l.take (j+1))=(badE (l.take j)|| !(dK l[j]!).2):=by
 unfold badE;rw[List.take_add_one,List.getElem?_eq_getElem hj,getElem!_pos l j hj,Option.toList_some,List.any_append,List.any_cons,List.any_nil,Bool.or_false]
theorem near_pick {E:List En}{u:Int}{W:List Int}:(pB E u W).2=(DY E u).2:=by
 unfold pB DY zP;split
 ·exact goA_all
 ·rfl
theorem adjRaw (lv:Value)(l:List En)(u:Int)(w:World)(TB:uv w)(hL:N.Row N.aG 2 w lv l):
  Calls Tryz.prog 6 #[lv,.int .i64 u] w fun e w'=>e=.returned (.bool true)∧Below w.heap.size w w':=by
 obtain⟨al,cap,rfl,_⟩:=N.aF hL;have HA:Hid (N.Row N.aG 2 w (.slice al l.length cap) l):=hL;have TT:Hid (cd w.heap.size w):=LA TB;have KW:Hid _:=Ov TT.out (Sep.nil (Nat.le_refl _) (Below.refl _ _));clear hL TB;go_enter Tryz.func6,Tryz.ntmps6
 go_wp2_with fail
 refine Calls.mono KW.out ?_;rintro e w1 ⟨rfl,s1⟩;have S1:Hid (Sep w.heap.size w w1 []):=s1;clear KW s1;by_cases hb:80<l.length
 ·have hbI:(80:Int)< (l.length:Int):=by omega
  go_wp2;go_ret;exact⟨rfl,S1.out.Fx⟩
 have hbI:¬(80:Int)< (l.length:Int):=by omega
 have HL:Hid (l.length<=80):=Nat.le_of_not_lt hb;clear hb;have KT:Hid _:=Ou (n:=2000) (by omega) (by omega) S1.out;have HR:Hid ((Dk.new 2000).room=2000):=zM (by omega) (by omega);clear S1;generalize Dk.new 2000=d0 at*
 go_wp2_with fail
 refine Calls.mono KT.out ?_;rintro e w3 ⟨C,q,rfl,hC,h3⟩;have C0:Hid (C.err=0):=hC;have S6:Hid (aJ w.heap.size w d0 C [] 0 (cI q C::[]) w3):=h3;clear KT hC h3;unfold ptr at*;go_wp2
 go_loopg [9] l.length (fun kx s9 wr=>∃(ii:Nat) (E:List En),s9=.int .i64 (ii:Int)∧ii<=l.length∧l.length-ii<=kx∧Hid (E.length<=ii)∧Hid (aJ w.heap.size w d0 C E ii (cI q C::[]) wr))
 case atStart=>exact⟨0,[],rfl,Nat.zero_le _,Nat.le_refl _,Nat.le_refl _,S6.out⟩
 case round=>
  obtain⟨ii,E,rfl,hi,hix,HE,HS⟩:=hrel;clear S6;by_cases hlt:ii<l.length
  ·have Bq:(ii:Int)< (l.length:Int):=by omega
   have hii0:(0:Int)<=(ii:Int):=by omega
   have HCELL:∃r o,al=some ⟨r,o,none⟩∧r<w.heap.size∧∀u,Below w.heap.size w u->u.cell? ⟨r,o+ii*2,none⟩=some (.string l[ii]!.1)∧u.cell? ⟨r,o+ii*2+1,none⟩=some (.string l[ii]!.2):=by
    obtain⟨_,_,e,_,_,h3⟩:=HA.out;cases e;obtain⟨r,o,e,hr,_⟩:=N.ew h3 ii hlt (Below.refl _ _);refine⟨r,o,e,hr,fun u hu=>?_⟩;obtain⟨r',o',e',_,h4,h5⟩:=N.ew h3 ii hlt hu;rw[e]at e';cases e';exact⟨h4,h5⟩
   obtain⟨r,o,e1,hr,hc⟩:=HCELL;subst e1;have HC:Hid (r<w.heap.size∧∀u,Below w.heap.size w u->u.cell? ⟨r,o+ii*2,none⟩=some (.string l[ii]!.1)∧u.cell? ⟨r,o+ii*2+1,none⟩=some (.string l[ii]!.2)):=⟨hr,hc⟩;obtain⟨x0,x1⟩:=hc _ HS.out.sep.Fx;have hwj:IntKind.i64.wrap ((ii:Int)+1)=((ii+1:Nat):Int):=by rw[bR (by omega) (by have:=HL.out;omega)];rfl
   have HCP:Hid (Cap d0.room d0 E):=Xa (by have:=HE.out;have:=HL.out;omega) (by rw[HR.out];omega);have HRG:Hid (Rg E):=HS.out.rg;clear hr hc;generalize l[ii]! =y at*;obtain⟨yk,yv⟩:=y;simp only at x0 x1 HC;by_cases c1:60<yk.size
   ·have c1z:(60:Int)< (yk.size:Int):=by omega
    go_wp2;go_ret;exact⟨rfl,HS.out.sep.Fx⟩
   have c1z:¬(60:Int)< (yk.size:Int):=by omega
   by_cases c2:60<yv.size
   ·have c2z:(60:Int)< (yv.size:Int):=by omega
    go_wp2;go_ret;exact⟨rfl,HS.out.sep.Fx⟩
   have c2z:¬(60:Int)< (yv.size:Int):=by omega
   clear c1 c2;have KC:Hid (∀u,Below w.heap.size w u->Below w.heap.size w u∧u.cell? ⟨r,o+ii*2,none⟩=some (.string yk)∧u.cell? ⟨r,o+ii*2+1,none⟩=some (.string yv)):=fun u hu=>⟨hu,HC.out.2 u hu⟩;have HTd:Hid (aJ w.heap.size w d0 C E ii (cI q C::[]) wr.drew):=aJ.dr HS.out;have HSd:=KC.out _ HTd.out.sep.Fx;have HMY:Hid (∀u,Calls Tryz.prog 24 #[.string yk,.string yv] u fun e w'=>e=.returned (.bool (cM yk yv))∧u=w'):=N.LV yk yv;clear HC HS
   go_wp2_with fail
   clear x0 x1
   go_region_held3 (fun w'=>Below w.heap.size w w'∧w'.cell? ⟨r,o+ii*2,none⟩=some (.string yk)∧w'.cell? ⟨r,o+ii*2+1,none⟩=some (.string yv)) (first|assumption) ((go_at_call 24;refine Calls.mono (HMY.out _) ?_;rintro e w' ⟨rfl,rfl⟩))
   clear HMY;generalize wr.drew=w4 at*;cases hm:cM yk yv
   ·have HT2:Hid (∀n,aJ w.heap.size w d0 C E (ii+1) (cI q C::[]) (w4.drewN n)):=fun n=>by
     obtain⟨r1,x,d1,P,X,H,s,a1,a2,a3,a4⟩:=HTd.out;exact aJ.of ⟨r1,x,d1,P,X,H,s,a1,a2,a3,by omega⟩ fun _ _ _ _ s=>s.drewN n
    have HE2:Hid (E.length<=ii+1):=by have h2:=HE.out;show _<=_;omega
    clear HTd HE hm
    go_wp2_with fail
    go_quiet (fail)
    generalize hw8:w4.drewN _=w8 at*;have HS2:Hid (aJ w.heap.size w d0 C E (ii+1) (cI q C::[]) w8):=by rw[<-hw8];exact HT2.out _
    clear hw8 HT2;go_wp2
    go_roundg (l.length- (ii+1))
    case measure=>omega
    case rel=>exact⟨ii+1,E,by go_num,by omega,Nat.le_refl _,HE2.out,HS2.out⟩
   ·have KP:Hid (∀u,aJ w.heap.size w d0 C E ii (cI q C::[]) u->Calls Tryz.prog 25 #[ptr C.tq,.string yk,.string yv] u fun e w'=>e=.returned (.int .i64 0)∧aJ w.heap.size w d0 C (jK E yk yv) (ii+1) (cI q C::[]) w'):=fun u hu=>DV TT.out (by rw[HR.out];omega) C0.out hm HCP.out (by have:=HE.out;have:=HL.out;omega) (by have:=HL.out;omega) hu;have HE2:Hid ((jK E yk yv).length<=ii+1):=by have h1:=ptLen hm HRG.out;have h2:=HE.out;show _<=_;omega
    have HTe:Hid (aJ w.heap.size w d0 C E ii (cI q C::[]) w4.drew):=aJ.dr HTd.out;have HSe:=KC.out _ HTe.out.sep.Fx;generalize jK E yk yv=E2 at*;clear HTd HE hm HCP HRG HSd;unfold ptr at*
    go_wp2_with fail
    go_region_held3 (fun w'=>Below w.heap.size w w'∧w'.cell? ⟨r,o+ii*2,none⟩=some (.string yk)∧w'.cell? ⟨r,o+ii*2+1,none⟩=some (.string yv)) (first|assumption) ((go_at_call 25;refine Calls.mono (KP.out _ HTe.out) ?_;rintro e w' ⟨rfl,h9⟩;have HSf:=KC.out _ h9.sep.Fx;have HTf:Hid _:=h9;clear h9))
    go_wp2
    go_roundg (l.length- (ii+1))
    case measure=>omega
    case rel=>exact⟨ii+1,E2,by go_num,by omega,Nat.le_refl _,HE2.out,HTf.out⟩
  ·have Bq:¬(ii:Int)< (l.length:Int):=by omega
   have HE5:Hid (E.length<=200):=by have:=HE.out;have:=HL.out;show _<=_;omega
   have HRM:Hid (d0.room<=16384):=by have:=HR.out;show _<=_;omega
   have KS:Hid _:=JW (fr:=um) (tt:=jb) TT.out HRM.out C0.out (by have:=HE5.out;omega) HS.out;clear HE HS hix hi;generalize hS:gf um jb E=SS at*;unfold ptr at*
   go_wp2_with fail
   refine Calls.mono KS.out ?_;rintro e w5 ⟨ao,c,rfl,h5⟩;have SL:Hid (aJ w.heap.size w d0 C E ii (vt (.slice ao SS.length c) SS::cI q C::[]) w5):=h5;have HN:Hid (SS.length<=200):=by
    rw[<-hS];exact Nat.le_trans (List.length_filter_le _ _) HE5.out
   clear KS h5;go_wp2
   go_loopg [8,13] SS.length (fun kx s8 s13 wr=>∃jj:Nat,s8=.bool (badE (SS.take jj))∧s13=.int .i64 (jj:Int)∧jj<=SS.length∧SS.length-jj<=kx∧Hid (aJ w.heap.size w d0 C E ii (vt (.slice ao SS.length c) SS::cI q C::[]) wr))
   case atStart=>exact⟨0,rfl,rfl,Nat.zero_le _,Nat.le_refl _,SL.out⟩
   case round=>
    obtain⟨jj,rfl,rfl,hj,hjx,HT⟩:=hrel;clear SL;by_cases hlt:jj<SS.length
    ·have hltJ:(jj:Int)< (SS.length:Int):=by omega
     have hjj0:(0:Int)<=(jj:Int):=by omega
     have hwj:IntKind.i64.wrap ((jj:Int)+1)=((jj+1:Nat):Int):=by rw[bR (by omega) (by have:=HN.out;omega)];rfl
     have HCELL:∃r o,ao=some ⟨r,o,none⟩∧∀u,aJ w.heap.size w d0 C E ii (vt (.slice ao SS.length c) SS::cI q C::[]) u->u.cell? ⟨r,o+jj*2,none⟩=some (.string SS[jj]!.1)∧u.cell? ⟨r,o+jj*2+1,none⟩=some (.string SS[jj]!.2):=by
      obtain⟨_,_,e,_,_,h3⟩:=Sep.V1 HT.out.sep;cases e;obtain⟨r,o,e,hr,_⟩:=N.ew h3 jj hlt (Below.refl _ _);refine⟨r,o,e,fun u hu=>?_⟩;obtain⟨_,_,e,_,_,h3⟩:=Sep.V1 hu.sep;cases e;obtain⟨r',o',e',_,h4,h5⟩:=N.ew h3 jj hlt (Below.refl _ _);rw[e]at e';cases e';exact⟨h4,h5⟩
     obtain⟨r,o,e1,hc⟩:=HCELL;subst e1;have KC:Hid (∀u,aJ w.heap.size w d0 C E ii (vt (.slice (some ⟨r,o,none⟩) SS.length c) SS::cI q C::[]) u->u.cell? ⟨r,o+jj*2,none⟩=some (.string SS[jj]!.1)∧u.cell? ⟨r,o+jj*2+1,none⟩=some (.string SS[jj]!.2)):=hc;have HB:Hid (badE (SS.take (jj+1))=(badE (SS.take jj)|| !(dK SS[jj]!).2)):=bad_take hlt;have KR:Hid (∀w,Calls Tryz.prog 22 #[.agg #[.string SS[jj]!.1,.string SS[jj]!.2]] w fun e w'=>e=.returned (.tuple #[.int .i64 (dK SS[jj]!).1.1,.int .i64 (dK SS[jj]!).1.2.1,.bool (dK SS[jj]!).1.2.2,.bool (dK SS[jj]!).2])∧Below w.heap.size w w'):=fun w=>Bz SS[jj]! w;clear hc;generalize SS[jj]!.1=yk at*;generalize SS[jj]!.2=yv at*;generalize dK SS[jj]! =pr at*;generalize badE (SS.take jj)=b1 at*;generalize hb2:badE (SS.take (jj+1))=b2 at*;obtain⟨⟨p1,p2,p3⟩,p4⟩:=pr;simp only at KR HB;obtain⟨x0,x1⟩:=KC.out _ HT.out
     go_wp2_with fail
     refine Calls.mono (KR.out _) ?_;rintro e w6 ⟨rfl,b9⟩;have HTf:Hid _:=aJ.below HT.out b9;clear b9 x0 x1 KR HT KC;have hbb:=HB.out;subst hbb;cases b1<;>cases p4
     all_goals
      go_wp2
      go_roundg (SS.length- (jj+1))
      case measure=>omega
      case rel=>exact⟨jj+1,by rw[hb2];rfl,by go_num,by omega,Nat.le_refl _,HTf.out⟩
    ·have hltJ:¬(jj:Int)< (SS.length:Int):=by omega
     rw[show SS.take jj=SS from List.take_of_length_le (by omega)];have KE:Hid (Calls Tryz.prog 18 #[ptr q] wr fun e w'=>∃(a:Option Addr) (n c:Nat),e=.returned (.tuple #[.slice a n c,.int .i64 (if badE SS=true then 3 else 0)])∧((if badE SS=true then(3:Int)else 0)=3->n=0)∧aJ w.heap.size w d0 C E ii (cI q C::[]) w'):=(V5 TT.out HRM.out C0.out HE5.out (aJ.FK HT.out)).mono fun e w' ⟨v,o,e1,e2,e3,h⟩=>by
      rw[bad_edg,hS]at e1 e2 e3;by_cases hz:(if badE SS=true then(3:Int)else 0)=0
      ·obtain⟨_,a,c,rfl⟩:=e2 hz;exact⟨a,o.length,c,e1,fun h3=>absurd (hz.symm.trans h3) (by decide),aJ.FK h⟩
      ·obtain rfl:=(e3 hz).2;exact⟨none,0,0,e1,fun _=>rfl,aJ.FK h⟩
     have KN:Hid (∀w5,aJ w.heap.size w d0 C E ii (cI q C::[]) w5->Calls Tryz.prog 30 #[ptr q,.int .i64 u] w5 fun e w'=>∃v,e=.returned (.tuple #[v,.int .i64 (DY E u).2])∧aJ w.heap.size w d0 C E ii (cI q C::[]) w'):=fun w5 h5=>(Tl TT.out HRM.out C0.out HE5.out h5).mono fun e w' ⟨v,o,e1,_,_,h⟩=>⟨v,e1,aJ.FK h⟩;have KP:Hid (∀w5,aJ w.heap.size w d0 C E ii (cI q C::[]) w5->Calls Tryz.prog 31 #[ptr q,.int .i64 u,.slice none 0 0] w5 fun e w'=>∃x y,e=.returned (.tuple #[.int .i64 x,.bool y,.int .i64 (DY E u).2])∧aJ w.heap.size w d0 C E ii (cI q C::[]) w'):=fun w5 h5=>(V7 (u:=u) (wv:=.slice none 0 0) (W:=[]) TT.out HRM.out C0.out HE5.out (fun _ _=>N.wD) (by simp) (fun _ h=>by cases h) h5).mono fun e w' ⟨e1,h⟩=>⟨if(pB E u []).2=0 then(pB E u []).1.1 else 0,if(pB E u []).2=0 then(pB E u []).1.2 else false,e1.trans (congrArg (fun g:Int=>Ending.returned (.tuple #[.int .i64 (if(pB E u []).2=0 then(pB E u []).1.1 else 0),.bool (if(pB E u []).2=0 then(pB E u []).1.2 else false),.int .i64 g])) near_pick),h⟩;have HG:Hid ((DY E u).2=30∨(DY E u).2=0∨badE SS=true∧(DY E u).2=3):=by
      rw[<-hS];exact near_two
     generalize(DY E u).2=g at*;have HER:(badE SS=false∧(if badE SS=true then(3:Int)else 0)=0)∨(badE SS=true∧(if badE SS=true then(3:Int)else 0)=3):=by cases badE SS<;>simp
     generalize(if badE SS=true then(3:Int)else 0)=er at*;generalize badE SS=b at*;clear hS HT;unfold ptr at*;rcases HER with⟨rfl,rfl⟩| ⟨rfl,rfl⟩
     all_goals
      go_wp2_with fail
      refine Calls.mono KE.out ?_;rintro e w6 ⟨av,n,cv,rfl,hn,h6⟩;have H6:Hid _:=h6;clear KE h6
      try (simp only[true_imp_iff,forall_const]at hn;subst hn)
      try clear hn
      have K7:Hid _:=KN.out _ H6.out
      go_wp2_with fail
      refine Calls.mono K7.out ?_;rintro e w7 ⟨v7,rfl,h7⟩;have K8:Hid _:=KP.out _ h7;clear K7 h7 H6
      go_wp2_with fail
      refine Calls.mono K8.out ?_;rintro e w8 ⟨p1,p2,rfl,h8⟩;have H8:Hid _:=h8.sep.Fx;clear K8 h8 KN KP;rcases HG.out with rfl|rfl| ⟨hx,rfl⟩
      all_goals
       clear HG
       first
        |(cases hx;done)
        |(go_wp2
          go_ret
          exact⟨rfl,H8.out⟩)
end Go.Proofs.YtdcpfbidcpfboaaGreatDoor.P
end
