/- Walks of the package cowtree and of what it stands on: lemmas, made short. -/
import Derived.Test.YtceoeaemenhbhaaGreatDoorR11
import Derived.Test.YtceoeaemenhbhaaGreatDoorR10
set_option maxHeartbeats 16000000
set_option maxRecDepth 100000
set_option linter.unusedVariables false
set_option linter.unusedSimpArgs false
namespace Go.Proofs.YtceoeaemenhbhaaGreatDoor
open Go.Shelf Go.RowKit Go.Lib Go.Sort
section
open N (Nd nd0 cA cQ dM iR fQ Sm sA sB sM aI bc hidR aq aj Ch aQ ah waits)
section
variable {B:Nat}{w0 w w':World}{l:List aO}{v:Value}{ids:List Int}{ss:List ByteArray}
theorem Sep.Lg (h:Sep B w0 w (aM 3 v (ids.map (Value.int .i64))::l)):N.Row N.encI 1 w v ids:=by
 have o:=h.row;rcases o.2 with⟨h1,h2⟩| ⟨g,cap,cur,h1,h2,h3,h4,h5,h6,h7⟩
 ·have hl:ids=[]:=by simpa using h2
  subst hl;exact⟨none,0,h1,Nat.le_refl _,fun _=>rfl,fun h=>absurd rfl h⟩
 ·refine⟨_,cap,by simpa using h1,by simpa using h4,(fun e=>by cases e),fun hne=>⟨g,0,rfl,(Array.getElem?_eq_some_iff.1 h3).1,fun t ht=>?_⟩⟩;have ht':t<ids.length:=by simpa using ht
  have hs:t<ids.toArray.size*1:=by simpa using ht'
  rw[get_flatK _ _ _ _ hs,Nat.div_one,Nat.mod_one];obtain⟨r',c',e',_,_,hc,_⟩:=h.cell (j:=t) (by simpa using ht');rw[h1]at e';cases e';rw[Nat.zero_add,hc];simp[N.encI,ht']
theorem Sep.Gy (h:Sep B w0 w (aM 9 v (ss.map Value.string)::l)):N.Row N.encS 1 w v ss:=by
 have o:=h.row;rcases o.2 with⟨h1,h2⟩| ⟨g,cap,cur,h1,h2,h3,h4,h5,h6,h7⟩
 ·have hl:ss=[]:=by simpa using h2
  subst hl;exact⟨none,0,h1,Nat.le_refl _,fun _=>rfl,fun h=>absurd rfl h⟩
 ·refine⟨_,cap,by simpa using h1,by simpa using h4,(fun e=>by cases e),fun hne=>⟨g,0,rfl,(Array.getElem?_eq_some_iff.1 h3).1,fun t ht=>?_⟩⟩;have ht':t<ss.length:=by simpa using ht
  have hs:t<ss.toArray.size*1:=by simpa using ht'
  rw[get_flatK _ _ _ _ hs,Nat.div_one,Nat.mod_one];obtain⟨r',c',e',_,_,hc,_⟩:=h.cell (j:=t) (by simpa using ht');rw[h1]at e';cases e';rw[Nat.zero_add,hc];simp[N.encS,ht']
end
theorem Mu {bZ:pC}{S S':Dr}{n:Nd}{depth:Int}{parts:List Nd}{keys:List ByteArray}{er:Int}(he:bU bZ S n depth=some ((parts,keys,er),S')):parts.length<=2∧keys.length<=1:=by
 unfold bU at he
 repeat' split at he
 all_goals first
  |(cases he;done)
  |(cases he;simp)
  |skip
theorem yh {P:Program}{ops:Array Oper}{Q:Exit->Act->World->Prop}{id:Nat}{a:Act}{w:World}(L:Nat)(J:List Bool->Act->World->Prop)(hm:P.follows .mixedOrders=true)(ho:N.ahead .any ops=true)
  (h0:J (List.replicate ops.size false) a w.drew)
  (hL:∀f a w,f.length=ops.size->J f a w->L∈Region.ready .any ops f.toArray->f.set L true=List.replicate ops.size true)
  (hstep:∀i f a w,i≠L->f.length=ops.size->J f a w->i∈Region.ready .any ops f.toArray->wpOp P ops Q i (fun a' w'=>J (f.set i true) a' w') a w)
  (hlast:∀f a w,f.length=ops.size->J f a w->L∈Region.ready .any ops f.toArray->wpOp P ops Q L (fun a' w'=>Q .normal a' w') a w)
  (hJ:∀f a w,J f a w->f.getD L true=false):(Code.region id ops true).wp P Q a w:=by
 refine wp_region_any hm ?_;have key:=N.tT (P:=P) (Q:=Q) (md:=.any) ho (fun f a w=>J f a w∨(f=List.replicate ops.size true∧Q .normal a w)) (fun i f a w hl hj hi=>?_) (fun a w hj=>?_) ops.size (List.replicate ops.size false) a w.drew (by simp) (by simp) (Or.inl h0)
 ·simpa using key
 ·rcases hj with hj| ⟨rfl,_⟩
  ·by_cases c:i=L
   ·subst c;exact wpOp_mono (fun a' w' h'=>Or.inr ⟨hL f a w hl hj hi,h'⟩) (hlast f a w hl hj hi)
   ·exact wpOp_mono (fun a' w' h'=>Or.inl h') (hstep i f a w c hl hj hi)
  ·exfalso;obtain⟨h1,h2,_⟩:=aQ hi;simp[Array.getD]at h2
 ·rcases hj with hj| ⟨_,hj⟩
  ·exfalso;have:=hJ _ _ _ hj;rw[List.getD_eq_getElem?_getD,List.getElem?_replicate]at this;split at this<;>simp at this
  ·exact hj
theorem k6 {P:Program}{ops:Array Oper}{Q:Exit->Act->World->Prop}{id:Nat}{a:Act}{w:World}(L:Nat)(K:(List Bool->Act->Prop)->World->Prop)(hm:P.follows .mixedOrders=true)(ho:N.ahead .any ops=true)(h0:Ch K (List.replicate ops.size false) a w.drew)
  (hL:∀w,K (fun f _=>L∈Region.ready .any ops f.toArray->f.set L true=List.replicate ops.size true) w)
  (hstep:∀i w,i≠L->K (fun f a=>i∈Region.ready .any ops f.toArray->wpOp P ops Q i (fun a' w'=>Ch K (f.set i true) a' w') a w) w)
  (hlast:∀w,K (fun f a=>L∈Region.ready .any ops f.toArray->wpOp P ops Q L (fun a' w'=>Q .normal a' w') a w) w)
  (hJ:∀w,K (fun f _=>f.getD L true=false) w):(Code.region id ops true).wp P Q a w:=
 yh L (Ch K) hm ho h0 (fun _ _ w _ hj=>hj _ (hL w)) (fun i _ _ w hne _ hj=>hj _ (hstep i w hne)) (fun _ _ w _ hj=>hj _ (hlast w)) (fun _ _ w hj=>hj _ (hJ w))
theorem Mv {bZ:pC}{S S':Dr}{n:Nd}{depth:Int}{keys:List ByteArray}(he:bU bZ S n depth=some (([],keys,0),S')):keys=[]∧S'=S:=by
 unfold bU at he
 repeat' split at he
 all_goals first
  |(cases he;done)
  |(cases he;exact⟨rfl,rfl⟩)
  |skip
 all_goals (cases he;exact absurd rfl (by assumption))
def J18 (B:Nat)(w0:World)(CC:Cx)(S:Dr)(d:Dk)(P:List NV)(L:List aO)(q1 q2 g cp zi zw:Nat)(VI VW:Value){y0 y1 y2 y3 y4 y5 y6 y7 y8 y9 rA y13 oK oL rB uX uY y20 y21 y22 y23 y24 y25 xI y27 y28 y29 xJ y31 y32 vh y34 sV sW vn y38 y39 xK xL xM xN DB DC DD DF DG DJ zR zS zT zU zV zW GV Lm Ln Lp Lq Lr PZ P8 LA LB LC LD LF LG LH LI LJ LN LO LP PV PW PY Ls y90 y91 Lt y93 GW y95 y96 TZ y98 y99 Ql y101 y102 Qm y104 Qn Qo Qp:Value}(C:List Bool->Act->Prop)(w:World):Prop:=∀{f0 f1 f2 f3 f4 f5 f6 f7 f8 f9:Bool}{JE JF JH zX x80 x81 x82 x83 x84 x85:Value},f9=false->Sep B w0 w (DL CC S d P L)->Hid (f0=true->JE=.slice (some ⟨g,0,none⟩) 1 cp)->Hid (f1=true->f0=true∧JF=.int .i64 1)->Hid (f2=true->f1=true∧JH=.bool true)->Hid (f3=true->f2=true∧zX=.bool true)->Hid (f4=true->f3=true∧x80=VI)->Hid (f5=true->f4=true∧x81=.int .i64 (zi:Int))->Hid (f6=true->f3=true∧x82=VW)->Hid (f7=true->f6=true∧x83=.int .i64 (zw:Int))->Hid (f8=true->f5=true∧f7=true∧x84=.bool (decide (zw<=zi)))->C [f0,f1,f2,f3,f4,f5,f6,f7,f8,f9] {tmps:=#[y0,y1,y2,y3,y4,y5,y6,y7,y8,y9,.pointer (some ⟨q1,0,none⟩),.pointer (some ⟨q2,0,none⟩),rA,y13,.slice (some ⟨g,0,none⟩) 1 cp,oK,oL,rB,uX,uY,y20,y21,y22,y23,y24,y25,xI,y27,y28,y29,xJ,y31,y32,vh,y34,sV,sW,vn,y38,y39,xK,xL,xM,xN,DB,DC,DD,DF,DG,DJ,zR,zS,zT,zU,zV,zW,GV,Lm,Ln,Lp,Lq,Lr,PZ,P8,LA,LB,LC,LD,LF,LG,LH,LI,LJ,LN,LO,LP,JE,JF,JH,zX,x80,x81,x82,x83,x84,x85,PV,PW,PY,Ls,y90,y91,Lt,y93,GW,y95,y96,TZ,y98,y99,Ql,y101,y102,Qm,y104,Qn,Qo,Qp],defers:=[]}
section
variable {B:Nat}{w0 w w':World}{l:List aO}{P:List NV}{C:Cx}{S S':Dr}{d d1:Dk}{depth:Int}{ae ak az:Option Addr}{ce ck cz:Nat}{n m:Nd}{pw pi:NV}{er Nb:Int}{bZ:pC}
theorem Mw {t:Nat}{parts:List Nd}{keys:List ByteArray}{EF:Int}{Sf:Dr}(T:bW B w0)(hst:aV B w0 C d Nb bZ)(dU:∀ {S S':Dr} {n:Nd} {depth i tt:Int} {r:Nd×Int},DI S d.room->bZ S n depth i tt=some (r,S')->DI S' d.room)(hd:bf d d1)(h:Sep B w0 w (DL C S d1 P l))(hp:(⟨ae,ce,ak,ck,az,cz,n⟩:NV)∈P)(hpw:pw∈P)(hpi:pi∈P)(hsm:bS n=true)(hsw:bS pw.n=true)(I:DI S d.room)(hr:d.room<=16384)(hd0:-1<=depth)(hd1:depth+1<=Nb)(hNb:Nb<=1000000)(hok:S.okB=true)(eN:∀ {S9 S8:Dr} {n9:Nd} {i9 j9 k9:Int} {r9:Nd×Int},bZ S9 n9 i9 j9 k9=some (r9,S8)->bS n9=true)(ht:t<n.ks.length)(hf:bU bZ S pi.n (depth+1)=some ((parts,keys,EF),Sf))(hzi:bS pi.n=true∨parts.length≠1)(he:(if EF≠0 then some ((nd0,EF),Sf)else match eG d.room (if parts=[]then Sf.drop (n.ks.getD t 0)else Sf) (n.ks.getD t 0) parts []with|none=>none|some ((kids,e2),S2)=>if e2≠0 then some ((nd0,e2),S2)else if parts.length=1∧dM pw.n<=dM pi.n then bZ S2 (fQ n t ((t:Int)+1) kids keys) depth t ((t:Int)+1)else bZ S2 (fQ n t ((t:Int)+1) kids keys) depth ((t:Int)-1) ((t:Int)+kids.length+1))=some ((m,er),S')):Calls Tryz.prog 117 #[ptr C.q,.agg #[.bool n.leaf,.slice ae n.es.length ce,.slice ak n.ks.length ck,.slice az n.ss.length cz],.int .i64 (t:Int),.int .i64 depth,.agg (cN pw),.agg (cN pi)] w (GD B w0 C S' d P l m er):=by
 obtain⟨T9,hkl,hel,hsl,hks⟩:=eH hsm;obtain⟨r,ro,hak,_⟩:=NV.kid (p:=(⟨ae,ce,ak,ck,az,cz,n⟩:NV)) (DL.nd h hp) (i:=t) ht;simp only at hak;subst hak;have S1:Hid (Sep B w0 ((((w.alloc (.cells #[.bool n.leaf,.slice ae n.es.length ce,.slice (some ⟨r,ro,none⟩) n.ks.length ck,.slice az n.ss.length cz] 74)).alloc (.cells (cN pw) 74)).alloc (.cells (cN pi) 74)).alloc (.cells cZ 74)) (DL C S d1 P (aF w.heap.size (.cells #[.bool n.leaf,.slice ae n.es.length ce,.slice (some ⟨r,ro,none⟩) n.ks.length ck,.slice az n.ss.length cz] 74)::aF (w.heap.size+1) (.cells (cN pw) 74)::aF (w.heap.size+2) (.cells (cN pi) 74)::aF (w.heap.size+3) (.cells cZ 74)::l))):=Sep.JI (Sep.aR (Sep.wz (Sep.aR (Sep.nI (Sep.aR (Sep.rF (h.aP _)) _ _ (by simp))) _ _ (by simp))) _ _ (by simp));have w1:IntKind.i64.wrap (depth+1)=depth+1:=bE (by omega) (by omega);have hil:(t:Int)< (n.ks.length:Int):=by omega
 have KF:Hid _:=Ef (p:=pi) (depth:=depth+1) T hst hd S1.out hpi I hr (by omega) hd1 hf;have IF:Hid (DI Sf d.room):=DI.fitting dU I hf;have FL:Hid _:=Mu hf;have HP:Hid ((⟨ae,ce,some ⟨r,ro,none⟩,ck,az,cz,n⟩:NV)∈P):=hp;have HPw:Hid (pw∈P):=hpw;have HPi:Hid (pi∈P):=hpi;have HX:Hid (d.room<=16384∧-1<=depth∧depth+1<=Nb∧Sm n∧t<n.ks.length∧bS pw.n=true∧bS n=true∧∀k∈n.ks,Wf k):=⟨hr,hd0,hd1,T9,ht,hsw,hsm,hks⟩;have HT:Hid (aV B w0 C d Nb bZ):=hst;have Ua:Hid (∀(S S':Dr) (n:Nd) (depth i tt:Int) (r:Nd×Int),DI S d.room->bZ S n depth i tt=some (r,S')->DI S' d.room):=fun _ _ _ _ _ _ _ h1 h2=>dU h1 h2;have HNb:Hid (Nb<=1000000):=hNb;have Xa:Hid (S.okB=true):=hok;have HF:Hid (bU bZ S pi.n (depth+1)=some ((parts,keys,EF),Sf)):=hf;have vE:∀ {S9 S8:Dr} {n9:Nd} {i9 j9 k9:Int} {r9:Nd×Int},bZ S9 n9 i9 j9 k9=some (r9,S8)->bS n9=true:=eN;have HZI:Hid (bS pi.n=true∨parts.length≠1):=hzi;have HE:Hid ((if EF≠0 then some ((nd0,EF),Sf)else match eG d.room (if parts=[]then Sf.drop (n.ks.getD t 0)else Sf) (n.ks.getD t 0) parts []with
   |none=>none
   |some ((kids,e2),S2)=>if e2≠0 then some ((nd0,e2),S2)
    else if parts.length=1∧dM pw.n<=dM pi.n then bZ S2 (fQ n t ((t:Int)+1) kids keys) depth t ((t:Int)+1)else bZ S2 (fQ n t ((t:Int)+1) kids keys) depth ((t:Int)-1) ((t:Int)+kids.length+1))=some ((m,er),S')):=he
 clear hok eN h hd hp hpw hpi I he hst dU hr hsm hsw T9 hks hd0 hd1 ht hel hsl hf hNb hzi;go_enter Tryz.func117,Tryz.ntmps117
 go_wp2_with fail
 generalize World.alloc _ _=v1 at*;generalize w.heap.size+3=q3 at*;generalize w.heap.size+2=q2 at*;generalize w.heap.size+1=q1 at*;generalize w.heap.size=q0 at*;refine Calls.mono KF.out ?_;rintro e v2 ⟨ao,ay,cp,ny,cy,ps,P1,d2,hps,hmp,hs1,rfl,hd2,s2⟩;have D2:Hid (bf d d2):=hd2;have M1:Hid (∀x∈P,x∈P1):=hs1;have MP:Hid (∀x∈ps,x∈P1):=hmp;have NP:Hid (ps.map NV.n=parts):=hps;have S2:Hid (Sep B w0 v2 (DL C Sf d2 P1 (RowK 74 4 (.slice ao ps.length cp) ps.length (ps.flatMap eY)::aM 9 (.slice ay ny cy) (keys.map Value.string)::aF q0 (.cells #[.bool n.leaf,.slice ae n.es.length ce,.slice (some ⟨r,ro,none⟩) n.ks.length ck,.slice az n.ss.length cz] 74)::aF q1 (.cells (cN pw) 74)::aF q2 (.cells (cN pi) 74)::aF q3 (.cells cZ 74)::l))):=s2;clear s2 hd2 hs1 hmp hps KF S1;by_cases he0:EF≠0
 ·have hE:=HE.out;rw[if_pos he0]at hE;obtain⟨hm,hr',hS⟩:nd0=m∧EF=er∧Sf=S':=by
   cases hE;exact⟨rfl,rfl,rfl⟩
  subst hm hr' hS;have hne:(EF != 0)=true:=bne_iff_ne.2 he0;clear hE HE he0;obtain⟨_,⟨c0,c1,c2,c3⟩,g0,g1,g2,g3⟩:=Sep.c4 (Sep.eL (S2.out));have SF:Hid (Sep B w0 ((((v2.setCell ⟨q3,0,none⟩ (.bool false)).setCell ⟨q3,1,none⟩ (.slice none 0 0)).setCell ⟨q3,2,none⟩ (.slice none 0 0)).setCell ⟨q3,3,none⟩ (.slice none 0 0)) _):=Sep.Ag (Sep.s4 (Sep.eL (S2.out)) _ _ _ _);clear S2;go_wp2
  (try simp only[Exit.inBlock,Exit.then])
  generalize World.setCell _ _ _=vf at*;clear c0 c1 c2 c3 g0 g1 g2 g3;obtain⟨_,⟨c0,c1,c2,c3⟩,g0,g1,g2,g3⟩:=Sep.c4 (Sep.eL (SF.out));refine bodyPost_ret (v:=.tuple #[.agg cZ,.int .i64 EF]) ?_ rfl ⟨pZ,pZ::P1,d2,rfl,List.mem_cons_self,fun x hx=>List.mem_cons_of_mem _ (M1.out x hx),rfl,D2.out,DL.zero (Sep.drop (Sep.dH (Sep.drop (Sep.cO (Sep.drop (Sep.eh (Sep.drop (Sep.iI (Sep.drop (Sep.oM (Sep.drop (Sep.eL (SF.out)))))))))))))⟩;rw[aI rfl];go_simp
 ·have e00:EF=0:=by simpa using he0
  subst e00;have hE:=HE.out;rw[if_neg he0]at hE;obtain⟨r',ro',hak,hrs,hrc⟩:=NV.kid (p:=(⟨ae,ce,some ⟨r,ro,none⟩,ck,az,cz,n⟩:NV)) (DL.nd S2.out (M1.out _ HP.out)) (i:=t) HX.out.2.2.2.2.1;cases hak;simp only at hrc;have WK:Hid (Wf (n.ks.getD t 0)):=HX.out.2.2.2.2.2.2.2 _ (dK HX.out.2.2.2.2.1);generalize vC:n.ks.getD t 0=kid at*;obtain⟨_,⟨c0,c1,c2,c3⟩,_⟩:=Sep.c4 (Sep.eh (S2.out));have Xb:Hid _:=M1.out _ HP.out;clear he0 HE;have hl2:ps.length<=2:=by
   have h1:=FL.out.1;rw[<-NP.out]at h1;simpa using h1
  match ps,hl2 with
  |[],_=>
   have hp0:=NP.out;subst hp0;simp only[List.map_nil,if_true,eG]at hE;have hk0:keys=[]∧Sf=S:=Mv HF.out;have YQ:Sf.okB=true:=by rw[hk0.2];exact Xa.out
   have S3:Hid _:=S2.out;have KD:Hid _:=vz S3.out WK.out YQ;have IS:Hid (DI (Sf.drop kid) d.room):=IF.out.drop kid;generalize Sf.drop kid=Sd at*;clear S2 hk0 YQ;rw[if_neg (by simp),if_neg (by simp)]at hE
   go_wp2_with fail
   clear c0 c1 c2 c3 hrs hrc;refine Calls.mono KD.out ?_;rintro e v3 ⟨rfl,s3⟩;have S4:Hid (Sep B w0 v3 (DL C Sd d2 P1 (RowK 74 4 (.slice ao 0 cp) 0 ([])::aM 9 (.slice ay ny cy) (keys.map Value.string)::aF q0 (.cells #[.bool n.leaf,.slice ae n.es.length ce,.slice (some ⟨r,ro,none⟩) n.ks.length ck,.slice az n.ss.length cz] 74)::aF q1 (.cells (cN pw) 74)::aF q2 (.cells (cN pi) 74)::aF q3 (.cells cZ 74)::l))):=s3;clear s3 KD S3;go_wp2;refine wp_loop_rounds 2 ?_;rw[rounds_succ];have KW:Hid _:=pG (p:=(⟨ae,ce,some ⟨r,ro,none⟩,ck,az,cz,n⟩:NV)) S4.out Xb.out HX.out.2.2.2.1 (t:Int) ((t:Int)+1) [] keys (.slice none 0 0) (.slice ay ny cy) N.nw (Sep.Gy (Sep.cO (S4.out))) (by simp) (by have:=FL.out;omega);have YR:IntKind.i64.wrap ((t:Int)+1)=(t:Int)+1:=bE (by omega) (by omega);obtain⟨_,⟨c0,c1,c2,c3⟩,_⟩:=Sep.c4 (Sep.eh (S4.out))
   go_wp2_with fail
   clear c0 c1 c2 c3;refine Calls.mono KW.out ?_;rintro e u1 ⟨pn,hnn,rfl,s1⟩;have NN:Hid (pn.n=fQ n t ((t:Int)+1) [] keys):=hnn;obtain⟨_,⟨c0,c1,c2,c3⟩,g0,g1,g2,g3⟩:=Sep.c4 (Sep.eh (s1));have T1:Hid (Sep B w0 ((((u1.setCell ⟨q0,0,none⟩ (.bool pn.n.leaf)).setCell ⟨q0,1,none⟩ (.slice pn.ae pn.n.es.length pn.ce)).setCell ⟨q0,2,none⟩ (.slice pn.ak pn.n.ks.length pn.ck)).setCell ⟨q0,3,none⟩ (.slice pn.az pn.n.ss.length pn.cz)) _):=Sep.wz (Sep.s4 (Sep.eh (s1)) _ _ _ _);clear s1 hnn KW S4
   go_wp2_with fail
   generalize World.setCell _ _ _=u2 at*;clear c0 c1 c2 c3 g0 g1 g2 g3;have T2:Hid _:=Sep.drew T1.out;clear T1
   go_region
   generalize u2.drew=u3 at*;have hlen:((([]:List Int).length:Nat):Int)=0:=rfl;rw[hlen,Int.add_zero]at hE;cases hst:bZ Sd pn.n depth ((t:Int)-1) ((t:Int)+1)with
   |none=>
    rw[<-NN.out,hst]at hE;cases hE
   |some rr=>
   obtain⟨⟨m1,e1⟩,S9⟩:=rr;rw[<-NN.out,hst]at hE;obtain⟨hm,hr',hS⟩:m1=m∧e1=er∧S9=S':=by
    cases hE;exact⟨rfl,rfl,rfl⟩
   subst hm hr' hS;have Qz:Hid (bS pn.n=true):=by
    show _=true;exact vE hst
   have KS:Hid (Calls Tryz.prog 157 #[ptr C.q,.agg (cN pn),.int .i64 depth,.int .i64 ((t:Int)-1),.int .i64 ((t:Int)+1)] u3 fun e w'=>∃pm P4 d4,pm.n=m1∧pm∈P4∧(∀x∈pn::P1,x∈P4)∧e=.returned (.tuple #[.agg (cN pm),.int .i64 e1])∧bf d d4∧Sep B w0 w' (DL C S9 d4 P4 (RowK 74 4 (.slice ao 0 cp) 0 ([])::aM 9 (.slice ay ny cy) (keys.map Value.string)::aF q0 (.cells (cN pn) 74)::aF q1 (.cells (cN pw) 74)::aF q2 (.cells (cN pi) 74)::aF q3 (.cells cZ 74)::l))):=HT.out T2.out D2.out List.mem_cons_self Qz.out IS.out HX.out.2.1 (by have:=HX.out;omega) (by omega) (by have:=HX.out;omega) (by omega) (by have:=HX.out;omega) hst;have QC:IntKind.i64.wrap ((t:Int)-1)=(t:Int)-1:=bE (by omega) (by omega);have QD:IntKind.i64.wrap ((t:Int)+0)=(t:Int)+0:=bE (by omega) (by omega);have QE:IntKind.i64.wrap ((t:Int)+0+1)=(t:Int)+0+1:=bE (by omega) (by omega);have QF:IntKind.i64.wrap (t:Int)=(t:Int):=bE (by omega) (by omega);obtain⟨_,⟨c0,c1,c2,c3⟩,_⟩:=Sep.c4 (Sep.eh (T2.out));clear hst hE
   go_wp2_with fail
   clear c0 c1 c2 c3 QC QD QE QF;refine Calls.mono KS.out ?_;rintro e u9 ⟨pm,P4,d4,hnm,hmm,hs4,rfl,hd4,s9⟩;subst hnm;have D4:Hid (bf d d4):=hd4;have M4:Hid (∀x∈P,x∈P4):=fun x hx=>hs4 x (List.mem_cons_of_mem _ (M1.out x hx));have MM:Hid (pm∈P4):=hmm;obtain⟨_,⟨c0,c1,c2,c3⟩,g0,g1,g2,g3⟩:=Sep.c4 (Sep.eL (s9));have SF:Hid (Sep B w0 ((((u9.setCell ⟨q3,0,none⟩ (.bool pm.n.leaf)).setCell ⟨q3,1,none⟩ (.slice pm.ae pm.n.es.length pm.ce)).setCell ⟨q3,2,none⟩ (.slice pm.ak pm.n.ks.length pm.ck)).setCell ⟨q3,3,none⟩ (.slice pm.az pm.n.ss.length pm.cz)) _):=Sep.Ag (Sep.s4 (Sep.eL (s9)) _ _ _ _);clear s9 hd4 hs4 hmm KS T2;go_wp2
   (try simp only[Exit.inBlock,Exit.then])
   generalize World.setCell _ _ _=vf at*;clear c0 c1 c2 c3 g0 g1 g2 g3;obtain⟨_,⟨c0,c1,c2,c3⟩,g0,g1,g2,g3⟩:=Sep.c4 (Sep.eL (SF.out));refine bodyPost_ret (v:=.tuple #[.agg (cN pm),.int .i64 e1]) ?_ rfl ⟨pm,P4,d4,rfl,MM.out,M4.out,rfl,D4.out,Sep.drop (Sep.dH (Sep.drop (Sep.cO (Sep.drop (Sep.eh (Sep.drop (Sep.iI (Sep.drop (Sep.oM (Sep.drop (Sep.eL (SF.out))))))))))))⟩;rw[aI rfl];go_simp
  |[pa],_=>
   have hp0:=NP.out;subst hp0;simp only[List.map_cons,List.map_nil,List.cons_ne_nil,if_false,eG]at hE;have S3:Hid (Sep B w0 v2 (DL C Sf d2 P1 (RowK 74 4 (.slice ao 1 cp) 1 (eY pa)::aM 9 (.slice ay ny cy) (keys.map Value.string)::aF q0 (.cells #[.bool n.leaf,.slice ae n.es.length ce,.slice (some ⟨r,ro,none⟩) n.ks.length ck,.slice az n.ss.length cz] 74)::aF q1 (.cells (cN pw) 74)::aF q2 (.cells (cN pi) 74)::aF q3 (.cells cZ 74)::l))):=by
    have hfm:[pa].flatMap eY=eY pa:=by simp
    have:=S2.out;rw[hfm]at this;exact this
   obtain⟨g,c',eg,_,gs,hc⟩:=Sep.iJ (Sep.dH (S3.out)) (by simp[eY]);injection eg with Xc _ Xd;subst Xc;subst Xd;have p0:v2.cell? ⟨g,0,none⟩=some (.bool pa.n.leaf):=hc 0 (by simp[eY]);have p1:v2.cell? ⟨g,1,none⟩=some (.slice pa.ae pa.n.es.length pa.ce):=hc 1 (by simp[eY]);have p2:v2.cell? ⟨g,2,none⟩=some (.slice pa.ak pa.n.ks.length pa.ck):=hc 2 (by simp[eY]);have p3:v2.cell? ⟨g,3,none⟩=some (.slice pa.az pa.n.ss.length pa.cz):=hc 3 (by simp[eY]);have MA:Hid (pa∈P1):=MP.out _ (by simp);cases hput:Sf.put d.room kid pa.n with
   |none=>
    rw[hput]at hE;cases hE
   |some rr=>
   obtain⟨⟨k1,e1⟩,Sa⟩:=rr;rw[hput]at hE;simp only at hE;have IA:Hid (DI Sa d.room):=IF.out.put hput;have S4:Hid (Sep B w0 (v2.alloc (.cells (cN pa) 74)) _):=Sep.DZ (Sep.aP S3.out _);have KP:Hid _:=Ia D2.out S4.out WK.out IF.out HX.out.1 MA.out hput;clear S2 S3 hc hput;go_wp2;refine wp_loop_rounds 3 ?_;rw[rounds_succ]
   go_wp2_with fail
   clear c0 c1 c2 c3 hrs hrc p0 p1 p2 p3;generalize World.alloc _ _=v3 at*;generalize v2.heap.size=qa at*;refine Calls.mono KP.out ?_;rintro e v4 ⟨rfl,s4⟩;have S5:Hid (Sep B w0 v4 (DL C Sa d2 P1 (RowK 74 4 (.slice (some ⟨g,0,none⟩) 1 cp) 1 (eY pa)::aM 9 (.slice ay ny cy) (keys.map Value.string)::aF q0 (.cells #[.bool n.leaf,.slice ae n.es.length ce,.slice (some ⟨r,ro,none⟩) n.ks.length ck,.slice az n.ss.length cz] 74)::aF q1 (.cells (cN pw) 74)::aF q2 (.cells (cN pi) 74)::aF q3 (.cells cZ 74)::aF qa (.cells (cN pa) 74)::l))):=s4;clear s4 S4 KP;by_cases hx1:e1≠0
   ·rw[if_pos hx1]at hE;obtain⟨hm,hr',hS⟩:nd0=m∧e1=er∧Sa=S':=by
     simp only[ne_eq,hx1,not_false_eq_true,if_true]at hE;cases hE;exact⟨rfl,rfl,rfl⟩
    subst hm hr' hS;have hne:(e1 != 0)=true:=bne_iff_ne.2 hx1;clear hE hx1;obtain⟨_,⟨c0,c1,c2,c3⟩,g0,g1,g2,g3⟩:=Sep.c4 (Sep.eL (S5.out));have SF:Hid (Sep B w0 ((((v4.setCell ⟨q3,0,none⟩ (.bool false)).setCell ⟨q3,1,none⟩ (.slice none 0 0)).setCell ⟨q3,2,none⟩ (.slice none 0 0)).setCell ⟨q3,3,none⟩ (.slice none 0 0)) _):=Sep.Ag (Sep.s4 (Sep.eL (S5.out)) _ _ _ _);clear S5;go_wp2
    (try simp only[Exit.inBlock,Exit.then])
    generalize World.setCell _ _ _=vf at*;clear c0 c1 c2 c3 g0 g1 g2 g3;obtain⟨_,⟨c0,c1,c2,c3⟩,g0,g1,g2,g3⟩:=Sep.c4 (Sep.eL (SF.out));refine bodyPost_ret (v:=.tuple #[.agg cZ,.int .i64 e1]) ?_ rfl ⟨pZ,pZ::P1,d2,rfl,List.mem_cons_self,fun x hx=>List.mem_cons_of_mem _ (M1.out x hx),rfl,D2.out,DL.zero (Sep.drop (Sep.dH (Sep.drop (Sep.cO (Sep.drop (Sep.eh (Sep.drop (Sep.iI (Sep.drop (Sep.oM (Sep.drop (Sep.eL (Sep.drop (Sep.js (SF.out)))))))))))))))⟩;rw[aI rfl];go_simp
   have Xe:e1=0:=by simpa using hx1
   subst Xe;rw[if_neg hx1]at hE;clear hx1
   go_wp2_with (at_builtin;refine lS rfl _ _ rfl _ _ rfl (Sep.alloc (Sep.qo S5.out 3) _) _ _ k1 rfl (by simp) (by simp) ?_)
   intro sq n1 QG v5 s5;obtain rfl:n1=1:=by
    obtain⟨_,_,e⟩:=s5.shape;injection e
   have S6:Hid _:=Sep.rF (s5);clear s5 S5;go_wp2;rw[rounds_succ];have IS:Hid (DI Sa d.room):=IA.out;simp only[List.nil_append]at hE;rw[if_neg (by simp)]at hE;have KW:Hid _:=pG (p:=(⟨ae,ce,some ⟨r,ro,none⟩,ck,az,cz,n⟩:NV)) S6.out Xb.out HX.out.2.2.2.1 (t:Int) ((t:Int)+1) [k1] keys (.slice sq 1 QG) (.slice ay ny cy) (Sep.Lg (ids:=[k1]) (Sep.dH (S6.out))) (Sep.Gy (Sep.eh (S6.out))) (by simp) (by have:=FL.out;omega);have YR:IntKind.i64.wrap ((t:Int)+1)=(t:Int)+1:=bE (by omega) (by omega);obtain⟨_,⟨c0,c1,c2,c3⟩,_⟩:=Sep.c4 (Sep.iI (S6.out))
   go_wp2_with fail
   clear c0 c1 c2 c3;refine Calls.mono KW.out ?_;rintro e u1 ⟨pn,hnn,rfl,s1⟩;have NN:Hid (pn.n=fQ n t ((t:Int)+1) [k1] keys):=hnn;obtain⟨_,⟨c0,c1,c2,c3⟩,g0,g1,g2,g3⟩:=Sep.c4 (Sep.iI (s1));have T1:Hid (Sep B w0 ((((u1.setCell ⟨q0,0,none⟩ (.bool pn.n.leaf)).setCell ⟨q0,1,none⟩ (.slice pn.ae pn.n.es.length pn.ce)).setCell ⟨q0,2,none⟩ (.slice pn.ak pn.n.ks.length pn.ck)).setCell ⟨q0,3,none⟩ (.slice pn.az pn.n.ss.length pn.cz)) _):=Sep.JI (Sep.s4 (Sep.iI (s1)) _ _ _ _);clear s1 hnn KW S6
   go_wp2_with fail
   generalize World.setCell _ _ _=u2 at*;clear c0 c1 c2 c3 g0 g1 g2 g3;have SMI:Hid (Sm pi.n):=by
    rcases HZI.out with h|h
    ·exact(eH h).1
    ·exact absurd rfl h
   have SMW:Hid (Sm pw.n):=(eH HX.out.2.2.2.2.2.1).1;have M0:Hid (pi∈pn::P1∧pw∈pn::P1):=⟨List.mem_cons_of_mem _ (M1.out _ HPi.out),List.mem_cons_of_mem _ (M1.out _ HPw.out)⟩;have YS:Hid _:=Sep.drew T1.out;clear T1;refine k6 9 (J18 B w0 C Sa d2 (pn::P1) (aM 3 (.slice sq 1 QG) ([k1].map (Value.int .i64))::RowK 74 4 (.slice (some ⟨g,0,none⟩) 1 cp) 1 (eY pa)::aM 9 (.slice ay ny cy) (keys.map Value.string)::aF q0 (.cells (cN pn) 74)::aF q1 (.cells (cN pw) 74)::aF q2 (.cells (cN pi) 74)::aF q3 (.cells cZ 74)::aF qa (.cells (cN pa) 74)::l) q1 q2 g cp (dM pi.n) (dM pw.n) (.agg (cN pi)) (.agg (cN pw))) (by kernel_rfl) (by kernel_rfl) (fun _ k=>k rfl YS.out aq aq aq aq aq aq aq aq aq) ?_ ?_ ?_ ?_
   ·intro w' f0 f1 f2 f3 f4 f5 f6 f7 f8 f9 JE JF JH zX x80 x81 x82 x83 x84 x85 e9 hB h0 h1 h2 h3 h4 h5 h6 h7 h8 hi;have d8:f8=true:=ah 8 hi (by kernel_rfl);obtain⟨d5,d7,_⟩:=h8.out d8;obtain⟨d4,_⟩:=h5.out d5;obtain⟨d6,_⟩:=h7.out d7;obtain⟨d3,_⟩:=h4.out d4;obtain⟨d2,_⟩:=h3.out d3;obtain⟨d1,_⟩:=h2.out d2;obtain⟨d0,_⟩:=h1.out d1;subst d0 d1 d2 d3 d4 d5 d6 d7 d8;rfl
   ·intro i w' hne f0 f1 f2 f3 f4 f5 f6 f7 f8 f9 JE JF JH zX x80 x81 x82 x83 x84 x85 e9 hB h0 h1 h2 h3 h4 h5 h6 h7 h8 hi;obtain⟨hlt,hun,_⟩:=aQ hi;have hlt':i<10:=hlt;clear hlt;rcases(by omega:i=0∨i=1∨i=2∨i=3∨i=4∨i=5∨i=6∨i=7∨i=8)with rfl|rfl|rfl|rfl|rfl|rfl|rfl|rfl|rfl
    ·have un:f0=false:=hun;refine aj rfl fun K HK=>?_;go_simp;exact HK.out _ _ fun _ k=>k e9 hB hidR (fun d=>by have e:=(h1.out d).1;rw[un]at e;cases e) h2 h3 h4 h5 h6 h7 h8
    ·have un:f1=false:=hun;have d0:f0=true:=ah 0 hi (by kernel_rfl);cases h0 d0;refine aj rfl fun K HK=>?_;go_simp;exact HK.out _ _ fun _ k=>k e9 hB h0 (fun _=>⟨d0,rfl⟩) (fun d=>by have e:=(h2.out d).1;rw[un]at e;cases e) h3 h4 h5 h6 h7 h8
    ·have un:f2=false:=hun;have d1:f1=true:=ah 1 hi (by kernel_rfl);obtain⟨_,rfl⟩:=h1.out d1;refine aj rfl fun K HK=>?_;go_simp;exact HK.out _ _ fun _ k=>k e9 hB h0 h1 (fun _=>⟨d1,rfl⟩) (fun d=>by have e:=(h3.out d).1;rw[un]at e;cases e) h4 h5 h6 h7 h8
    ·have un:f3=false:=hun;have d2:f2=true:=ah 2 hi (by kernel_rfl);obtain⟨_,rfl⟩:=h2.out d2;refine aj rfl fun K HK=>?_;go_simp;exact HK.out _ _ fun _ k=>k e9 hB h0 h1 h2 (fun _=>⟨d2,rfl⟩) (fun d=>by have e:=(h4.out d).1;rw[un]at e;cases e) h5 (fun d=>by have e:=(h6.out d).1;rw[un]at e;cases e) h7 h8
    ·have un:f4=false:=hun;have d3:f3=true:=ah 3 hi (by kernel_rfl);obtain⟨_,rfl⟩:=h3.out d3;obtain⟨_,⟨c0,c1,c2,c3⟩,_⟩:=Sep.c4 (Sep.eL ((id hB:Sep _ _ _ _)));refine aj rfl fun K HK=>?_;go_simp;exact HK.out _ _ fun _ k=>k e9 hB h0 h1 h2 h3 (fun _=>⟨d3,rfl⟩) (fun d=>by have e:=(h5.out d).1;rw[un]at e;cases e) h6 h7 h8
    ·have un:f5=false:=hun;obtain⟨_,rfl⟩:=h3.out (ah 3 hi (by kernel_rfl));have d4:f4=true:=ah 4 hi (by kernel_rfl);obtain⟨_,rfl⟩:=h4.out d4;refine aj rfl fun K HK=>?_;go_simp;refine Calls.mono (Ai (p:=pi) (id hB:Sep _ _ _ _) M0.out.1 SMI.out) ?_;rintro e u4 ⟨rfl,s1⟩;exact HK.out _ _ fun _ k=>k e9 s1 h0 h1 h2 h3 h4 (fun _=>⟨d4,rfl⟩) h6 h7 (fun d=>by have e:=(h8.out d).1;rw[un]at e;cases e)
    ·have un:f6=false:=hun;have d3:f3=true:=ah 3 hi (by kernel_rfl);obtain⟨_,rfl⟩:=h3.out d3;obtain⟨_,⟨c0,c1,c2,c3⟩,_⟩:=Sep.c4 (Sep.oM ((id hB:Sep _ _ _ _)));refine aj rfl fun K HK=>?_;go_simp;exact HK.out _ _ fun _ k=>k e9 hB h0 h1 h2 h3 h4 h5 (fun _=>⟨d3,rfl⟩) (fun d=>by have e:=(h7.out d).1;rw[un]at e;cases e) h8
    ·have un:f7=false:=hun;obtain⟨_,rfl⟩:=h3.out (ah 3 hi (by kernel_rfl));have d6:f6=true:=ah 6 hi (by kernel_rfl);obtain⟨_,rfl⟩:=h6.out d6;refine aj rfl fun K HK=>?_;go_simp;refine Calls.mono (Ai (p:=pw) (id hB:Sep _ _ _ _) M0.out.2 SMW.out) ?_;rintro e u4 ⟨rfl,s1⟩;exact HK.out _ _ fun _ k=>k e9 s1 h0 h1 h2 h3 h4 h5 h6 (fun _=>⟨d6,rfl⟩) (fun d=>by have e:=(h8.out d).2.1;rw[un]at e;cases e)
    ·obtain⟨_,rfl⟩:=h3.out (ah 3 hi (by kernel_rfl));have d5:f5=true:=ah 5 hi (by kernel_rfl);obtain⟨_,rfl⟩:=h5.out d5;have d7:f7=true:=ah 7 hi (by kernel_rfl);obtain⟨_,rfl⟩:=h7.out d7;refine aj rfl fun K HK=>?_;go_simp;exact HK.out _ _ fun _ k=>k e9 hB h0 h1 h2 h3 h4 h5 h6 h7 (fun _=>⟨d5,d7,rfl⟩)
   ·intro w' f0 f1 f2 f3 f4 f5 f6 f7 f8 f9 JE JF JH zX x80 x81 x82 x83 x84 x85 e9 hB h0 h1 h2 h3 h4 h5 h6 h7 h8 hi;have d3:f3=true:=ah 3 hi (by kernel_rfl);obtain⟨_,rfl⟩:=h3.out d3;have d8:f8=true:=ah 8 hi (by kernel_rfl);obtain⟨_,_,rfl⟩:=h8.out d8;clear hi;refine aj rfl fun K HK=>?_;go_simp;refine HK.out _ _ ?_;have T2:Hid (Sep B w0 w' (DL C Sa d2 (pn::P1) (aM 3 (.slice sq 1 QG) ([k1].map (Value.int .i64))::RowK 74 4 (.slice (some ⟨g,0,none⟩) 1 cp) 1 (eY pa)::aM 9 (.slice ay ny cy) (keys.map Value.string)::aF q0 (.cells (cN pn) 74)::aF q1 (.cells (cN pw) 74)::aF q2 (.cells (cN pi) 74)::aF q3 (.cells cZ 74)::aF qa (.cells (cN pa) 74)::l))):=hB;clear hB h0 h1 h2 h3 h4 h5 h6 h7 h8 YS
    (try clear d3 d8)
    by_cases hcz:dM pw.n<=dM pi.n
    ·rw[decide_eq_true hcz];rw[if_pos ⟨rfl,hcz⟩]at hE;clear hcz;cases hst:bZ Sa pn.n depth ((t:Int)) ((t:Int)+1)with
     |none=>
      rw[<-NN.out,hst]at hE;cases hE
     |some rr=>
     obtain⟨⟨m1,e1⟩,S9⟩:=rr;rw[<-NN.out,hst]at hE;obtain⟨hm,hr',hS⟩:m1=m∧e1=er∧S9=S':=by
      cases hE;exact⟨rfl,rfl,rfl⟩
     subst hm hr' hS;have Qz:Hid (bS pn.n=true):=by
      show _=true;exact vE hst
     have KS:Hid (Calls Tryz.prog 157 #[ptr C.q,.agg (cN pn),.int .i64 depth,.int .i64 ((t:Int)),.int .i64 ((t:Int)+1)] w' fun e w'=>∃pm P4 d4,pm.n=m1∧pm∈P4∧(∀x∈pn::P1,x∈P4)∧e=.returned (.tuple #[.agg (cN pm),.int .i64 e1])∧bf d d4∧Sep B w0 w' (DL C S9 d4 P4 (aM 3 (.slice sq 1 QG) ([k1].map (Value.int .i64))::RowK 74 4 (.slice (some ⟨g,0,none⟩) 1 cp) 1 (eY pa)::aM 9 (.slice ay ny cy) (keys.map Value.string)::aF q0 (.cells (cN pn) 74)::aF q1 (.cells (cN pw) 74)::aF q2 (.cells (cN pi) 74)::aF q3 (.cells cZ 74)::aF qa (.cells (cN pa) 74)::l))):=HT.out T2.out D2.out List.mem_cons_self Qz.out IS.out HX.out.2.1 (by have:=HX.out;omega) (by omega) (by have:=HX.out;omega) (by omega) (by have:=HX.out;omega) hst;have QC:IntKind.i64.wrap ((t:Int)-1)=(t:Int)-1:=bE (by omega) (by omega);have QD:IntKind.i64.wrap ((t:Int)+1)=(t:Int)+1:=bE (by omega) (by omega);have QE:IntKind.i64.wrap ((t:Int)+1+1)=(t:Int)+1+1:=bE (by omega) (by omega);have QF:IntKind.i64.wrap (t:Int)=(t:Int):=bE (by omega) (by omega);obtain⟨_,⟨c0,c1,c2,c3⟩,_⟩:=Sep.c4 (Sep.iI (T2.out));clear hst hE
     go_wp2_with fail
     clear c0 c1 c2 c3 QC QD QE QF;refine Calls.mono KS.out ?_;rintro e u9 ⟨pm,P4,d4,hnm,hmm,hs4,rfl,hd4,s9⟩;subst hnm;have D4:Hid (bf d d4):=hd4;have M4:Hid (∀x∈P,x∈P4):=fun x hx=>hs4 x (List.mem_cons_of_mem _ (M1.out x hx));have MM:Hid (pm∈P4):=hmm;obtain⟨_,⟨c0,c1,c2,c3⟩,g0,g1,g2,g3⟩:=Sep.c4 (Sep.js (s9));have SF:Hid (Sep B w0 ((((u9.setCell ⟨q3,0,none⟩ (.bool pm.n.leaf)).setCell ⟨q3,1,none⟩ (.slice pm.ae pm.n.es.length pm.ce)).setCell ⟨q3,2,none⟩ (.slice pm.ak pm.n.ks.length pm.ck)).setCell ⟨q3,3,none⟩ (.slice pm.az pm.n.ss.length pm.cz)) _):=Sep.DZ (Sep.s4 (Sep.js (s9)) _ _ _ _);clear s9 hd4 hs4 hmm KS T2;go_wp2
     (try simp only[Exit.inBlock,Exit.then])
     generalize World.setCell _ _ _=vf at*;clear c0 c1 c2 c3 g0 g1 g2 g3;obtain⟨_,⟨c0,c1,c2,c3⟩,g0,g1,g2,g3⟩:=Sep.c4 (Sep.js (SF.out));refine bodyPost_ret (v:=.tuple #[.agg (cN pm),.int .i64 e1]) ?_ rfl ⟨pm,P4,d4,rfl,MM.out,M4.out,rfl,D4.out,Sep.drop (Sep.dH (Sep.drop (Sep.cO (Sep.drop (Sep.eh (Sep.drop (Sep.iI (Sep.drop (Sep.oM (Sep.drop (Sep.eL (Sep.drop (Sep.js (Sep.drop (Sep.L6 (SF.out))))))))))))))))⟩;rw[aI rfl];go_simp
    ·rw[decide_eq_false hcz];rw[if_neg (fun h=>hcz h.2)]at hE;have hlen:((([k1]:List Int).length:Nat):Int)=1:=rfl;rw[hlen]at hE;clear hcz;cases hst:bZ Sa pn.n depth ((t:Int)-1) ((t:Int)+1+1)with
     |none=>
      rw[<-NN.out,hst]at hE;cases hE
     |some rr=>
     obtain⟨⟨m1,e1⟩,S9⟩:=rr;rw[<-NN.out,hst]at hE;obtain⟨hm,hr',hS⟩:m1=m∧e1=er∧S9=S':=by
      cases hE;exact⟨rfl,rfl,rfl⟩
     subst hm hr' hS;have Qz:Hid (bS pn.n=true):=by
      show _=true;exact vE hst
     have KS:Hid (Calls Tryz.prog 157 #[ptr C.q,.agg (cN pn),.int .i64 depth,.int .i64 ((t:Int)-1),.int .i64 ((t:Int)+1+1)] w' fun e w'=>∃pm P4 d4,pm.n=m1∧pm∈P4∧(∀x∈pn::P1,x∈P4)∧e=.returned (.tuple #[.agg (cN pm),.int .i64 e1])∧bf d d4∧Sep B w0 w' (DL C S9 d4 P4 (aM 3 (.slice sq 1 QG) ([k1].map (Value.int .i64))::RowK 74 4 (.slice (some ⟨g,0,none⟩) 1 cp) 1 (eY pa)::aM 9 (.slice ay ny cy) (keys.map Value.string)::aF q0 (.cells (cN pn) 74)::aF q1 (.cells (cN pw) 74)::aF q2 (.cells (cN pi) 74)::aF q3 (.cells cZ 74)::aF qa (.cells (cN pa) 74)::l))):=HT.out T2.out D2.out List.mem_cons_self Qz.out IS.out HX.out.2.1 (by have:=HX.out;omega) (by omega) (by have:=HX.out;omega) (by omega) (by have:=HX.out;omega) hst;have QC:IntKind.i64.wrap ((t:Int)-1)=(t:Int)-1:=bE (by omega) (by omega);have QD:IntKind.i64.wrap ((t:Int)+1)=(t:Int)+1:=bE (by omega) (by omega);have QE:IntKind.i64.wrap ((t:Int)+1+1)=(t:Int)+1+1:=bE (by omega) (by omega);have QF:IntKind.i64.wrap (t:Int)=(t:Int):=bE (by omega) (by omega);obtain⟨_,⟨c0,c1,c2,c3⟩,_⟩:=Sep.c4 (Sep.iI (T2.out));clear hst hE
     go_wp2_with fail
     clear c0 c1 c2 c3 QC QD QE QF;refine Calls.mono KS.out ?_;rintro e u9 ⟨pm,P4,d4,hnm,hmm,hs4,rfl,hd4,s9⟩;subst hnm;have D4:Hid (bf d d4):=hd4;have M4:Hid (∀x∈P,x∈P4):=fun x hx=>hs4 x (List.mem_cons_of_mem _ (M1.out x hx));have MM:Hid (pm∈P4):=hmm;obtain⟨_,⟨c0,c1,c2,c3⟩,g0,g1,g2,g3⟩:=Sep.c4 (Sep.js (s9));have SF:Hid (Sep B w0 ((((u9.setCell ⟨q3,0,none⟩ (.bool pm.n.leaf)).setCell ⟨q3,1,none⟩ (.slice pm.ae pm.n.es.length pm.ce)).setCell ⟨q3,2,none⟩ (.slice pm.ak pm.n.ks.length pm.ck)).setCell ⟨q3,3,none⟩ (.slice pm.az pm.n.ss.length pm.cz)) _):=Sep.DZ (Sep.s4 (Sep.js (s9)) _ _ _ _);clear s9 hd4 hs4 hmm KS T2;go_wp2
     (try simp only[Exit.inBlock,Exit.then])
     generalize World.setCell _ _ _=vf at*;clear c0 c1 c2 c3 g0 g1 g2 g3;obtain⟨_,⟨c0,c1,c2,c3⟩,g0,g1,g2,g3⟩:=Sep.c4 (Sep.js (SF.out));refine bodyPost_ret (v:=.tuple #[.agg (cN pm),.int .i64 e1]) ?_ rfl ⟨pm,P4,d4,rfl,MM.out,M4.out,rfl,D4.out,Sep.drop (Sep.dH (Sep.drop (Sep.cO (Sep.drop (Sep.eh (Sep.drop (Sep.iI (Sep.drop (Sep.oM (Sep.drop (Sep.eL (Sep.drop (Sep.js (Sep.drop (Sep.L6 (SF.out))))))))))))))))⟩;rw[aI rfl];go_simp
   ·intro _ _;intros;assumption
  |[pa,pb],_=>
   have hp0:=NP.out;subst hp0;simp only[List.map_cons,List.map_nil,List.cons_ne_nil,if_false,eG]at hE;have S3:Hid (Sep B w0 v2 (DL C Sf d2 P1 (RowK 74 4 (.slice ao 2 cp) 2 (eY pa++eY pb)::aM 9 (.slice ay ny cy) (keys.map Value.string)::aF q0 (.cells #[.bool n.leaf,.slice ae n.es.length ce,.slice (some ⟨r,ro,none⟩) n.ks.length ck,.slice az n.ss.length cz] 74)::aF q1 (.cells (cN pw) 74)::aF q2 (.cells (cN pi) 74)::aF q3 (.cells cZ 74)::l))):=by
    have hfm:[pa,pb].flatMap eY=eY pa++eY pb:=by simp
    have:=S2.out;rw[hfm]at this;exact this
   obtain⟨g,c',eg,_,gs,hc⟩:=Sep.iJ (Sep.dH (S3.out)) (by simp[eY]);injection eg with Xc _ Xd;subst Xc;subst Xd;have p0:v2.cell? ⟨g,0,none⟩=some (.bool pa.n.leaf):=hc 0 (by simp[eY]);have p1:v2.cell? ⟨g,1,none⟩=some (.slice pa.ae pa.n.es.length pa.ce):=hc 1 (by simp[eY]);have p2:v2.cell? ⟨g,2,none⟩=some (.slice pa.ak pa.n.ks.length pa.ck):=hc 2 (by simp[eY]);have p3:v2.cell? ⟨g,3,none⟩=some (.slice pa.az pa.n.ss.length pa.cz):=hc 3 (by simp[eY]);have MA:Hid (pa∈P1):=MP.out _ (by simp);have MB:Hid (pb∈P1):=MP.out _ (by simp);cases hput:Sf.put d.room kid pa.n with
   |none=>
    rw[hput]at hE;cases hE
   |some rr=>
   obtain⟨⟨k1,e1⟩,Sa⟩:=rr;rw[hput]at hE;simp only at hE;have IA:Hid (DI Sa d.room):=IF.out.put hput;have S4:Hid (Sep B w0 (v2.alloc (.cells (cN pa) 74)) _):=Sep.DZ (Sep.aP S3.out _);have KP:Hid _:=Ia D2.out S4.out WK.out IF.out HX.out.1 MA.out hput;clear S2 S3 hc hput;go_wp2;refine wp_loop_rounds 4 ?_;rw[rounds_succ]
   go_wp2_with fail
   clear c0 c1 c2 c3 hrs hrc p0 p1 p2 p3;generalize World.alloc _ _=v3 at*;generalize v2.heap.size=qa at*;refine Calls.mono KP.out ?_;rintro e v4 ⟨rfl,s4⟩;have S5:Hid (Sep B w0 v4 (DL C Sa d2 P1 (RowK 74 4 (.slice (some ⟨g,0,none⟩) 2 cp) 2 (eY pa++eY pb)::aM 9 (.slice ay ny cy) (keys.map Value.string)::aF q0 (.cells #[.bool n.leaf,.slice ae n.es.length ce,.slice (some ⟨r,ro,none⟩) n.ks.length ck,.slice az n.ss.length cz] 74)::aF q1 (.cells (cN pw) 74)::aF q2 (.cells (cN pi) 74)::aF q3 (.cells cZ 74)::aF qa (.cells (cN pa) 74)::l))):=s4;clear s4 S4 KP;by_cases hx1:e1≠0
   ·rw[if_pos hx1]at hE;obtain⟨hm,hr',hS⟩:nd0=m∧e1=er∧Sa=S':=by
     simp only[ne_eq,hx1,not_false_eq_true,if_true]at hE;cases hE;exact⟨rfl,rfl,rfl⟩
    subst hm hr' hS;have hne:(e1 != 0)=true:=bne_iff_ne.2 hx1;clear hE hx1;obtain⟨_,⟨c0,c1,c2,c3⟩,g0,g1,g2,g3⟩:=Sep.c4 (Sep.eL (S5.out));have SF:Hid (Sep B w0 ((((v4.setCell ⟨q3,0,none⟩ (.bool false)).setCell ⟨q3,1,none⟩ (.slice none 0 0)).setCell ⟨q3,2,none⟩ (.slice none 0 0)).setCell ⟨q3,3,none⟩ (.slice none 0 0)) _):=Sep.Ag (Sep.s4 (Sep.eL (S5.out)) _ _ _ _);clear S5;go_wp2
    (try simp only[Exit.inBlock,Exit.then])
    generalize World.setCell _ _ _=vf at*;clear c0 c1 c2 c3 g0 g1 g2 g3;obtain⟨_,⟨c0,c1,c2,c3⟩,g0,g1,g2,g3⟩:=Sep.c4 (Sep.eL (SF.out));refine bodyPost_ret (v:=.tuple #[.agg cZ,.int .i64 e1]) ?_ rfl ⟨pZ,pZ::P1,d2,rfl,List.mem_cons_self,fun x hx=>List.mem_cons_of_mem _ (M1.out x hx),rfl,D2.out,DL.zero (Sep.drop (Sep.dH (Sep.drop (Sep.cO (Sep.drop (Sep.eh (Sep.drop (Sep.iI (Sep.drop (Sep.oM (Sep.drop (Sep.eL (Sep.drop (Sep.js (SF.out)))))))))))))))⟩;rw[aI rfl];go_simp
   have Xe:e1=0:=by simpa using hx1
   subst Xe;rw[if_neg hx1]at hE;clear hx1
   go_wp2_with (at_builtin;refine lS rfl _ _ rfl _ _ rfl (Sep.alloc (Sep.qo S5.out 3) _) _ _ k1 rfl (by simp) (by simp) ?_)
   intro sq n1 QG v5 s5;obtain rfl:n1=1:=by
    obtain⟨_,_,e⟩:=s5.shape;injection e
   have S6:Hid _:=Sep.rF (s5);clear s5 S5;go_wp2;rw[rounds_succ];obtain⟨g',c',eg,_,gs',hc⟩:=Sep.iJ (Sep.cO (S6.out)) (by simp[eY]);cases eg;have p4:v5.cell? ⟨g,4,none⟩=some (.bool pb.n.leaf):=hc 4 (by simp[eY]);have p5:v5.cell? ⟨g,5,none⟩=some (.slice pb.ae pb.n.es.length pb.ce):=hc 5 (by simp[eY]);have p6:v5.cell? ⟨g,6,none⟩=some (.slice pb.ak pb.n.ks.length pb.ck):=hc 6 (by simp[eY]);have p7:v5.cell? ⟨g,7,none⟩=some (.slice pb.az pb.n.ss.length pb.cz):=hc 7 (by simp[eY]);cases hput:Sa.put d.room 0 pb.n with
   |none=>
    rw[hput]at hE;cases hE
   |some rr=>
   obtain⟨⟨k2,e2⟩,Sb⟩:=rr;rw[hput]at hE;simp only at hE;have IS:Hid (DI Sb d.room):=IA.out.put hput;have S7:Hid (Sep B w0 (v5.alloc (.cells (cN pb) 74)) _):=Sep.WN (Sep.aP S6.out _);have KQ:Hid _:=Ia D2.out S7.out (Wf.of_lt (by omega) (by omega)) IA.out HX.out.1 MB.out hput;clear S6 hc hput
   go_wp2_with fail
   clear p4 p5 p6 p7;generalize World.alloc _ _=v6 at*;generalize v5.heap.size=qb at*;refine Calls.mono KQ.out ?_;rintro e v7 ⟨rfl,s7⟩;have S8:Hid (Sep B w0 v7 (DL C Sb d2 P1 (aM 3 (.slice sq 1 QG) ([k1].map (Value.int .i64))::RowK 74 4 (.slice (some ⟨g,0,none⟩) 2 cp) 2 (eY pa++eY pb)::aM 9 (.slice ay ny cy) (keys.map Value.string)::aF q0 (.cells #[.bool n.leaf,.slice ae n.es.length ce,.slice (some ⟨r,ro,none⟩) n.ks.length ck,.slice az n.ss.length cz] 74)::aF q1 (.cells (cN pw) 74)::aF q2 (.cells (cN pi) 74)::aF q3 (.cells cZ 74)::aF qa (.cells (cN pa) 74)::aF qb (.cells (cN pb) 74)::l))):=s7;clear s7 S7 KQ;by_cases hx2:e2≠0
   ·rw[if_pos hx2]at hE;obtain⟨hm,hr',hS⟩:nd0=m∧e2=er∧Sb=S':=by
     simp only[ne_eq,hx2,not_false_eq_true,if_true]at hE;cases hE;exact⟨rfl,rfl,rfl⟩
    subst hm hr' hS;have hne:(e2 != 0)=true:=bne_iff_ne.2 hx2;clear hE hx2;obtain⟨_,⟨c0,c1,c2,c3⟩,g0,g1,g2,g3⟩:=Sep.c4 (Sep.js (S8.out));have SF:Hid (Sep B w0 ((((v7.setCell ⟨q3,0,none⟩ (.bool false)).setCell ⟨q3,1,none⟩ (.slice none 0 0)).setCell ⟨q3,2,none⟩ (.slice none 0 0)).setCell ⟨q3,3,none⟩ (.slice none 0 0)) _):=Sep.DZ (Sep.s4 (Sep.js (S8.out)) _ _ _ _);clear S8;go_wp2
    (try simp only[Exit.inBlock,Exit.then])
    generalize World.setCell _ _ _=vf at*;clear c0 c1 c2 c3 g0 g1 g2 g3;obtain⟨_,⟨c0,c1,c2,c3⟩,g0,g1,g2,g3⟩:=Sep.c4 (Sep.js (SF.out));refine bodyPost_ret (v:=.tuple #[.agg cZ,.int .i64 e2]) ?_ rfl ⟨pZ,pZ::P1,d2,rfl,List.mem_cons_self,fun x hx=>List.mem_cons_of_mem _ (M1.out x hx),rfl,D2.out,DL.zero (Sep.drop (Sep.dH (Sep.drop (Sep.cO (Sep.drop (Sep.eh (Sep.drop (Sep.iI (Sep.drop (Sep.oM (Sep.drop (Sep.eL (Sep.drop (Sep.js (Sep.drop (Sep.L6 (Sep.drop (Sep.TV (SF.out)))))))))))))))))))⟩;rw[aI rfl];go_simp
   have ex2:e2=0:=by simpa using hx2
   subst ex2;rw[if_neg hx2]at hE;clear hx2
   go_wp2_with (at_builtin;refine lS rfl _ _ rfl _ _ rfl (Sep.alloc (Sep.dH (S8.out)) _) _ _ k2 rfl (by simp) (by simp) ?_)
   intro kU n2 YT v8 s8;obtain rfl:n2=2:=by
    obtain⟨_,_,e⟩:=s8.shape;injection e
   have S9:Hid _:=Sep.rF (s8);clear s8 S8;go_wp2;rw[rounds_succ];simp only[List.nil_append,List.cons_append]at hE;rw[if_neg (by simp),if_neg (by simp)]at hE;have KW:Hid _:=pG (p:=(⟨ae,ce,some ⟨r,ro,none⟩,ck,az,cz,n⟩:NV)) S9.out Xb.out HX.out.2.2.2.1 (t:Int) ((t:Int)+1) [k1,k2] keys (.slice kU 2 YT) (.slice ay ny cy) (Sep.Lg (ids:=[k1,k2]) (Sep.dH (S9.out))) (Sep.Gy (Sep.eh (S9.out))) (by simp) (by have:=FL.out;omega);have YR:IntKind.i64.wrap ((t:Int)+1)=(t:Int)+1:=bE (by omega) (by omega);obtain⟨_,⟨c0,c1,c2,c3⟩,_⟩:=Sep.c4 (Sep.iI (S9.out))
   go_wp2_with fail
   clear c0 c1 c2 c3;refine Calls.mono KW.out ?_;rintro e u1 ⟨pn,hnn,rfl,s1⟩;have NN:Hid (pn.n=fQ n t ((t:Int)+1) [k1,k2] keys):=hnn;obtain⟨_,⟨c0,c1,c2,c3⟩,g0,g1,g2,g3⟩:=Sep.c4 (Sep.iI (s1));have T1:Hid (Sep B w0 ((((u1.setCell ⟨q0,0,none⟩ (.bool pn.n.leaf)).setCell ⟨q0,1,none⟩ (.slice pn.ae pn.n.es.length pn.ce)).setCell ⟨q0,2,none⟩ (.slice pn.ak pn.n.ks.length pn.ck)).setCell ⟨q0,3,none⟩ (.slice pn.az pn.n.ss.length pn.cz)) _):=Sep.JI (Sep.s4 (Sep.iI (s1)) _ _ _ _);clear s1 hnn KW S9
   go_wp2_with fail
   generalize World.setCell _ _ _=u2 at*;clear c0 c1 c2 c3 g0 g1 g2 g3;have T2:Hid _:=Sep.drew T1.out;clear T1
   go_region
   generalize u2.drew=u3 at*;have hlen:((([k1,k2]:List Int).length:Nat):Int)=2:=rfl;rw[hlen]at hE;cases hst:bZ Sb pn.n depth ((t:Int)-1) ((t:Int)+2+1)with
   |none=>
    rw[<-NN.out,hst]at hE;cases hE
   |some rr=>
   obtain⟨⟨m1,e1⟩,S9⟩:=rr;rw[<-NN.out,hst]at hE;obtain⟨hm,hr',hS⟩:m1=m∧e1=er∧S9=S':=by
    cases hE;exact⟨rfl,rfl,rfl⟩
   subst hm hr' hS;have Qz:Hid (bS pn.n=true):=by
    show _=true;exact vE hst
   have KS:Hid (Calls Tryz.prog 157 #[ptr C.q,.agg (cN pn),.int .i64 depth,.int .i64 ((t:Int)-1),.int .i64 ((t:Int)+2+1)] u3 fun e w'=>∃pm P4 d4,pm.n=m1∧pm∈P4∧(∀x∈pn::P1,x∈P4)∧e=.returned (.tuple #[.agg (cN pm),.int .i64 e1])∧bf d d4∧Sep B w0 w' (DL C S9 d4 P4 (aM 3 (.slice kU 2 YT) ([k1,k2].map (Value.int .i64))::RowK 74 4 (.slice (some ⟨g,0,none⟩) 2 cp) 2 (eY pa++eY pb)::aM 9 (.slice ay ny cy) (keys.map Value.string)::aF q0 (.cells (cN pn) 74)::aF q1 (.cells (cN pw) 74)::aF q2 (.cells (cN pi) 74)::aF q3 (.cells cZ 74)::aF qa (.cells (cN pa) 74)::aF qb (.cells (cN pb) 74)::l))):=HT.out T2.out D2.out List.mem_cons_self Qz.out IS.out HX.out.2.1 (by have:=HX.out;omega) (by omega) (by have:=HX.out;omega) (by omega) (by have:=HX.out;omega) hst;have QC:IntKind.i64.wrap ((t:Int)-1)=(t:Int)-1:=bE (by omega) (by omega);have QD:IntKind.i64.wrap ((t:Int)+2)=(t:Int)+2:=bE (by omega) (by omega);have QE:IntKind.i64.wrap ((t:Int)+2+1)=(t:Int)+2+1:=bE (by omega) (by omega);have QF:IntKind.i64.wrap (t:Int)=(t:Int):=bE (by omega) (by omega);obtain⟨_,⟨c0,c1,c2,c3⟩,_⟩:=Sep.c4 (Sep.iI (T2.out));clear hst hE
   go_wp2_with fail
   clear c0 c1 c2 c3 QC QD QE QF;refine Calls.mono KS.out ?_;rintro e u9 ⟨pm,P4,d4,hnm,hmm,hs4,rfl,hd4,s9⟩;subst hnm;have D4:Hid (bf d d4):=hd4;have M4:Hid (∀x∈P,x∈P4):=fun x hx=>hs4 x (List.mem_cons_of_mem _ (M1.out x hx));have MM:Hid (pm∈P4):=hmm;obtain⟨_,⟨c0,c1,c2,c3⟩,g0,g1,g2,g3⟩:=Sep.c4 (Sep.js (s9));have SF:Hid (Sep B w0 ((((u9.setCell ⟨q3,0,none⟩ (.bool pm.n.leaf)).setCell ⟨q3,1,none⟩ (.slice pm.ae pm.n.es.length pm.ce)).setCell ⟨q3,2,none⟩ (.slice pm.ak pm.n.ks.length pm.ck)).setCell ⟨q3,3,none⟩ (.slice pm.az pm.n.ss.length pm.cz)) _):=Sep.DZ (Sep.s4 (Sep.js (s9)) _ _ _ _);clear s9 hd4 hs4 hmm KS T2;go_wp2
   (try simp only[Exit.inBlock,Exit.then])
   generalize World.setCell _ _ _=vf at*;clear c0 c1 c2 c3 g0 g1 g2 g3;obtain⟨_,⟨c0,c1,c2,c3⟩,g0,g1,g2,g3⟩:=Sep.c4 (Sep.js (SF.out));refine bodyPost_ret (v:=.tuple #[.agg (cN pm),.int .i64 e1]) ?_ rfl ⟨pm,P4,d4,rfl,MM.out,M4.out,rfl,D4.out,Sep.drop (Sep.dH (Sep.drop (Sep.cO (Sep.drop (Sep.eh (Sep.drop (Sep.iI (Sep.drop (Sep.oM (Sep.drop (Sep.eL (Sep.drop (Sep.js (Sep.drop (Sep.L6 (Sep.drop (Sep.TV (SF.out))))))))))))))))))⟩;rw[aI rfl];go_simp
  |a::b::c::ps,hx=>exact absurd hx (by simp)
theorem QH {bZ:pC}{S S':Dr}{n:Nd}{depth:Int}{parts:List Nd}{keys:List ByteArray}{er:Int}(he:bU bZ S n depth=some ((parts,keys,er),S')):bS n=true∨parts.length≠1:=by
 unfold bU at he;split at he
 ·cases he;exact .inr (by simp)
 ·split at he
  ·cases he
  ·rename_i h
   exact .inl (by simpa using h)
theorem DI.eG {room:Nat}:∀ {parts:List Nd} {S S':Dr} {page:Int} {ks:List Int} {r:List Int×Int},DI S room->eG room S page parts ks=some (r,S')->DI S' room
 |[],S,S',page,ks,r,I,he=>by unfold Go.Proofs.YtceoeaemenhbhaaGreatDoor.eG at he;cases he;exact I
 |a::parts,S,S',page,ks,r,I,he=>by
  unfold Go.Proofs.YtceoeaemenhbhaaGreatDoor.eG at he;split at he
  ·cases he
  ·rename_i hx
   split at he
   ·cases he;exact I.put hx
   ·exact DI.eG (I.put hx) he
theorem DI.place {room:Nat}{S S':Dr}{n was is:Nd}{i depth:Int}{r:Nd×Int}(hI:∀ {S S':Dr} {n:Nd} {depth i tt:Int} {r:Nd×Int},DI S room->bZ S n depth i tt=some (r,S')->DI S' room)(I:DI S room)(he:dX bZ room S n i depth was is=some (r,S')):DI S' room:=by
 unfold dX at he;split at he
 ·cases he
 ·split at he
  ·cases he
  ·rename_i hf
   have I1:=DI.fitting hI I hf;split at he
   ·cases he;exact I1
   ·split at he
    ·cases he
    ·rename_i hp
     have I2:DI _ room:=DI.eG (by split;exact I1.drop _;exact I1) hp;split at he
     ·cases he;exact I2
     ·split at he
      ·exact hI I2 he
      ·exact hI I2 he
theorem Cc {p:NV}{i:Int}(T:bW B w0)(hst:aV B w0 C d Nb bZ)(dU:∀ {S S':Dr} {n:Nd} {depth i tt:Int} {r:Nd×Int},DI S d.room->bZ S n depth i tt=some (r,S')->DI S' d.room)(hd:bf d d1)(h:Sep B w0 w (DL C S d1 P l))(hp:p∈P)(hpw:pw∈P)(hpi:pi∈P)(I:DI S d.room)(hr:d.room<=16384)(hd0:-1<=depth)(hd1:depth+1<=Nb)(hNb:Nb<=1000000)(eN:∀ {S9 S8:Dr} {n9:Nd} {i9 j9 k9:Int} {r9:Nd×Int},bZ S9 n9 i9 j9 k9=some (r9,S8)->bS n9=true)(he:dX bZ d.room S p.n i depth pw.n pi.n=some ((m,er),S')):
  Calls Tryz.prog 117 #[ptr C.q,.agg (cN p),.int .i64 i,.int .i64 depth,.agg (cN pw),.agg (cN pi)] w fun e w'=>∃pm P' d',pm.n=m∧pm∈P'∧(∀x∈P,x∈P')∧e=.returned (.tuple #[.agg (cN pm),.int .i64 er])∧bf d d'∧Sep B w0 w' (DL C S' d' P' l):=by
 obtain⟨ae,ce,ak,ck,az,cz,n⟩:=p;simp only at he;unfold dX at he;by_cases hg:(S.okB&&bS n&&bS pw.n)=false∨i<0∨(n.ks.length:Int)<=i
 ·rw[if_pos hg]at he;cases he
 ·rw[if_neg hg]at he;have hb:S.okB=true∧bS n=true∧bS pw.n=true:=by
   have h1:¬(S.okB&&bS n&&bS pw.n)=false:=fun e=>hg (.inl e);simp only[Bool.not_eq_false,Bool.and_eq_true]at h1;exact⟨h1.1.1,h1.1.2,h1.2⟩
  obtain⟨t,rfl⟩:=Int.eq_ofNat_of_zero_le (by omega:0<=i);cases hf:bU bZ S pi.n (depth+1)with
  |none=>rw[hf]at he;cases he
  |some rr=>
   obtain⟨⟨parts,keys,EF⟩,Sf⟩:=rr;rw[hf]at he;exact Mw T hst dU hd h hp hpw hpi hb.2.1 hb.2.2 I hr hd0 hd1 hNb hb.1 eN (by show t<n.ks.length;omega) hf (QH hf) he
end
end
section
open N (Nd nd0 cA cQ dM iR fQ Sm cY En)
section
variable {B:Nat}{w0 w w':World}{l:List aO}{P:List NV}{C:Cx}{S S':Dr}{d d1:Dk}{depth:Int}{p:NV}{m:Nd}{ch:Bool}{er Nb:Int}{bZ:pC}{fn:Nat}{c1 c2:Value}{ed:List En->List En}{U U':aO}{key:ByteArray}{es0:List En}
theorem Sep.Am (h:Sep B w0 w (DL C S d P l))(bot:Int):Sep B w0 (w.setCell ⟨C.q,4,none⟩ (.int .i64 bot)) (DL C ⟨S.x,S.nodes,S.cnt,S.taken,S.spare,bot⟩ d P l):=by
 obtain⟨g,m,va,vb,hl,ho⟩:=Sep.il (Sep.kj h);exact Sep.L5 (Sep.nH (C:=C) (S:=⟨S.x,S.nodes,S.cnt,S.taken,S.spare,bot⟩) hl (Sep.kZ (x:=.int .i64 bot) ho 4))
theorem DL.pD (h:Sep B w0 w (DL C S d P l)):∃m va vb,C.q<w.heap.size∧(w.cell? ⟨C.q,0,none⟩=some (ptr C.tq)∧w.cell? ⟨C.q,1,none⟩=some (.map (some m))∧w.cell? ⟨C.q,2,none⟩=some va∧w.cell? ⟨C.q,3,none⟩=some vb∧w.cell? ⟨C.q,4,none⟩=some (.int .i64 S.bot))∧(∀i,w.frozen? ⟨C.q,i,none⟩=false)∧∃a1 k1 a2 k2,va=.slice a1 S.taken.length k1∧vb=.slice a2 S.spare.length k2:=by
 obtain⟨g,m,va,vb,hl,ho⟩:=Sep.il (Sep.kj h);obtain⟨_,a1,k1,e1⟩:=Sep.ints (Sep.sZ ho);obtain⟨_,a2,k2,e2⟩:=Sep.ints (Sep.wy ho);obtain⟨h1,h2,h3⟩:=Sep.pD ho;exact⟨m,va,vb,h1,h2,h3,a1,k1,a2,k2,e1,e2⟩
theorem DI.changed {room:Nat}(hI:∀ {S S':Dr} {n:Nd} {depth i tt:Int} {r:Nd×Int},DI S room->bZ S n depth i tt=some (r,S')->DI S' room):∀(f:Nat) {S S':Dr} {n:Nd} {depth:Int} {r:Nd×Bool×Int},DI S room->bn bZ room d key ed f S n depth=some (r,S')->DI S' room
 |0,_,_,_,_,_,_,he=>by cases he
 |f+1,S,S',n,depth,r,I,he=>by
  unfold bn at he;split at he
  ·cases he
  ·split at he
   ·cases he;exact⟨I.ok,I.sz,I.ns⟩
   ·split at he
    ·cases he
    ·split at he
     ·cases he;exact I
     ·split at he
      ·cases he
      ·rename_i hx
       have I1:=DI.changed hI f I hx;split at he
       ·cases he;exact I1
       ·split at he
        ·cases he
        ·rename_i hy
         cases he;exact DI.place hI I1 hy
def sF (d:Dk)(key:ByteArray)(es0:List En):Nat->Dr->Nd->Int->Prop
 |0,_,_,_=>True
 |f+1,S,n,depth=>if n.leaf=true then n.es=es0 else((S.read d (n.ks.getD (cY n.ss key) 0) (depth+1)).2=0->sF d key es0 f S (S.read d (n.ks.getD (cY n.ss key) 0) (depth+1)).1 (depth+1))
def mn (B:Nat)(w0:World)(C:Cx)(fn:Nat)(c1 c2:Value)(ed:List En->List En)(es0:List En)(U U':aO):Prop:=
 ∀ {w:World} {S:Dr} {d:Dk} {P:List NV} {l:List aO} {p:NV},Sep B w0 w (DL C S d P (U::l))->p∈P->p.n.es.length<=500->p.n.es=es0->
  Calls Tryz.prog fn #[.slice p.ae p.n.es.length p.ce,c1,c2] w fun e w'=>∃ao cc,e=.returned (.slice ao (ed p.n.es).length cc)∧Sep B w0 w' (DL C S d ((⟨ao,cc,none,0,none,0,⟨true,ed p.n.es,[],[]⟩⟩:NV)::P) (U'::l))
def GC (B:Nat)(w0:World)(C:Cx)(S':Dr)(d:Dk)(P:List NV)(l:List aO)(U U':aO)(n:Nd)(ch:Bool)(er:Int)(e:Ending)(w':World):Prop:=
 ∃p P' d' V,p.n=n∧p∈P'∧(∀x∈P,x∈P')∧(V=U∨V=U')∧(er=0->V=U')∧e=.returned (.tuple #[.agg (cN p),.bool ch,.int .i64 er])∧bf d d'∧Sep B w0 w' (DL C S' d' P' (V::l))
theorem fF:(∀(rJ:mn B w0 C 44 c1 c2 ed es0 U U') (hel:∀es,(ed es).length<=es.length+1) (hd:bf d d1) (h:Sep B w0 w (DL C S d1 P (U::l))) (hp:p∈P) (hsm:bS p.n=true) (hlf:p.n.leaf=true) (Ih:p.n.es=es0),Calls Tryz.prog 116 #[ptr C.q,.agg (cN p),.int .i64 depth,.string key,.func (.func 44) #[] #[c1,c2]] w (GC B w0 C ⟨S.x,S.nodes,S.cnt,S.taken,S.spare,depth⟩ d P l U U' ⟨true,ed p.n.es,[],[]⟩ (!decide (ed p.n.es=p.n.es)) 0))∧
  (∀(rJ:mn B w0 C 46 c1 c2 ed es0 U U') (hel:∀es,(ed es).length<=es.length+1) (hd:bf d d1) (h:Sep B w0 w (DL C S d1 P (U::l))) (hp:p∈P) (hsm:bS p.n=true) (hlf:p.n.leaf=true) (Ih:p.n.es=es0),Calls Tryz.prog 116 #[ptr C.q,.agg (cN p),.int .i64 depth,.string key,.func (.func 46) #[] #[c1,c2]] w (GC B w0 C ⟨S.x,S.nodes,S.cnt,S.taken,S.spare,depth⟩ d P l U U' ⟨true,ed p.n.es,[],[]⟩ (!decide (ed p.n.es=p.n.es)) 0)):=by
 and_intros
 have iT:=trivial
 rotate_left
 have fc:=trivial
 rotate_left
 all_goals
  intro rJ hel hd h hp hsm hlf Ih;obtain⟨_,_,hes,_⟩:=eH hsm;obtain⟨ae,ce,ak,ck,az,cz,⟨lf,es,ks,ss⟩⟩:=p;simp only at hlf hes hp Ih⊢;subst hlf;have JJ:Hid (es=es0):=Ih;clear Ih;generalize hbq:decide (ed es=es)=bq;have HBQ:Hid (decide (ed es=es)=bq):=hbq;clear hbq;have S1:Hid (Sep B w0 ((w.alloc (.cells #[.bool true,.slice ae es.length ce,.slice ak ks.length ck,.slice az ss.length cz] 74)).alloc (.cells cZ 74)) (DL C S d1 P (U::aF w.heap.size (.cells #[.bool true,.slice ae es.length ce,.slice ak ks.length ck,.slice az ss.length cz] 74)::aF (w.heap.size+1) (.cells cZ 74)::l))):=Sep.wz (Sep.aR (Sep.nI (h.aP _)) _ _ (by simp));have HP:Hid ((⟨ae,ce,ak,ck,az,cz,⟨true,es,ks,ss⟩⟩:NV)∈P):=hp;have HD:Hid (bf d d1):=hd
  first
   |have zz:=iT
    have Xf:Hid (mn B w0 C 44 c1 c2 ed es0 U U'):=rJ
   |have Xf:Hid (mn B w0 C 46 c1 c2 ed es0 U U'):=rJ
  have HL:Hid (es.length<=500∧(ed es).length<=501):=⟨hes,by have:=hel es;omega⟩;clear h hd hp rJ hsm hel hes;go_enter Tryz.func116,Tryz.ntmps116
  go_upto_region 1 with fail
  generalize World.alloc _ _=v1 at*;generalize w.heap.size+1=q1 at*;generalize w.heap.size=q0 at*;obtain⟨_,⟨y0,y1,y2,y3⟩,_⟩:=Sep.c4 (Sep.cO (S1.out));obtain⟨mm,va,vb,qs,⟨x0,x1,x2,x3,x4⟩,qf,_⟩:=DL.pD S1.out;have f4:=qf 4;have S2:Hid _:=Sep.Am S1.out depth;obtain⟨_,⟨z0,z1,z2,z3⟩,_⟩:=Sep.c4 (Sep.cO (S2.out));clear qf S1
  go_wp2_with fail
  clear y0 y1 y2 y3 x0 x1 x2 x3 x4 z0 z1 z2 z3 f4 qs;generalize World.setCell _ _ _=v2 at*
  first
   |have zz:=iT
    have YU:Hid _:=(show mn B w0 C 44 c1 c2 ed es0 U U' from Xf.out) S2.out HP.out HL.out.1 JJ.out
   |have YU:Hid _:=(show mn B w0 C 46 c1 c2 ed es0 U U' from Xf.out) S2.out HP.out HL.out.1 JJ.out
  refine Calls.mono YU.out ?_;rintro e v3 ⟨ao,cc,rfl,s3⟩;have S3:Hid (Sep B w0 v3 (DL C ⟨S.x,S.nodes,S.cnt,S.taken,S.spare,depth⟩ d1 ((⟨ao,cc,none,0,none,0,⟨true,ed es,[],[]⟩⟩:NV)::P) (U'::aF q0 (.cells #[.bool true,.slice ae es.length ce,.slice ak ks.length ck,.slice az ss.length cz] 74)::aF q1 (.cells cZ 74)::l))):=s3;have KE:Hid _:=N.D8 (.slice ao (ed es).length cc) (.slice ae es.length ce) (ed es) es v3 (DL.nd s3 List.mem_cons_self).e (DL.nd s3 (List.mem_cons_of_mem _ HP.out)).e (by have:=HL.out;omega) (by have:=HL.out;omega);rw[HBQ.out]at KE;obtain⟨_,⟨y0,y1,y2,y3⟩,_⟩:=Sep.c4 (Sep.cO (s3));clear s3 S2
  go_wp2_with fail
  clear y0 y1 y2 y3;refine Calls.mono KE.out ?_;rintro e v4 ⟨rfl,b4⟩;have S4:Hid _:=S3.out.below b4;clear S3 KE b4;obtain⟨_,⟨y0,y1,y2,y3⟩,g0,g1,g2,g3⟩:=Sep.c4 (Sep.eh (S4.out));have SF:Hid (Sep B w0 ((((v4.setCell ⟨q1,0,none⟩ (.bool true)).setCell ⟨q1,1,none⟩ (.slice ao (ed es).length cc)).setCell ⟨q1,2,none⟩ (.slice none 0 0)).setCell ⟨q1,3,none⟩ (.slice none 0 0)) _):=Sep.wz (Sep.s4 (Sep.eh (S4.out)) _ _ _ _);clear S4;go_wp2
  (try simp only[Exit.inBlock,Exit.then])
  generalize World.setCell _ _ _=vf at*;clear y0 y1 y2 y3 g0 g1 g2 g3;obtain⟨_,⟨y0,y1,y2,y3⟩,g0,g1,g2,g3⟩:=Sep.c4 (Sep.eh (SF.out));refine bodyPost_ret (v:=.tuple #[.agg #[.bool true,.slice ao (ed es).length cc,.slice none 0 0,.slice none 0 0],.bool (!bq),.int .i64 0]) ?_ rfl ⟨(⟨ao,cc,none,0,none,0,⟨true,ed es,[],[]⟩⟩:NV),(⟨ao,cc,none,0,none,0,⟨true,ed es,[],[]⟩⟩:NV)::P,d1,U',rfl,List.mem_cons_self,fun x hx=>List.mem_cons_of_mem _ hx,.inr rfl,fun _=>rfl,rfl,HD.out,Sep.drop (Sep.cO (Sep.drop (Sep.eh (SF.out))))⟩;rw[bL rfl];go_simp
theorem kK:(∀(T:bW B w0) (hst:aV B w0 C d Nb bZ) (dU:∀ {S S':Dr} {n:Nd} {depth i tt:Int} {r:Nd×Int},DI S d.room->bZ S n depth i tt=some (r,S')->DI S' d.room) (eN:∀ {S9 S8:Dr} {n9:Nd} {i9 j9 k9:Int} {r9:Nd×Int},bZ S9 n9 i9 j9 k9=some (r9,S8)->bS n9=true) {f:Nat} (ih:∀ {w:World} {S S':Dr} {d1:Dk} {P:List NV} {l:List aO} {p:NV} {m:Nd} {ch:Bool} {er:Int},Sep B w0 w (DL C S d1 P (U::l))->bf d d1->p∈P->DI S d.room->sF d key es0 f S p.n (depth+1)->bn bZ d.room d key ed f S p.n (depth+1)=some ((m,ch,er),S')->Calls Tryz.prog 116 #[ptr C.q,.agg (cN p),.int .i64 (depth+1),.string key,.func (.func 44) #[] #[c1,c2]] w (GC B w0 C S' d P l U U' m ch er)) (hci:∀(S S':Dr) (n:Nd) (dp:Int) (r:Nd×Bool×Int),DI S d.room->bn bZ d.room d key ed f S n dp=some (r,S')->DI S' d.room) (hd:bf d d1) (h:Sep B w0 w (DL C S d1 P (U::l))) (hp:p∈P) (I:DI S d.room) (hr:d.room<=16384) (hd0:-1<=depth) (hd1:depth+1<=Nb) (hNb:Nb<=1000000) (hsm:bS p.n=true) (hlf:p.n.leaf=false) (ht:cY p.n.ss key<p.n.ks.length) (Ii:(S.read d (p.n.ks.getD (cY p.n.ss key) 0) (depth+1)).2=0->sF d key es0 f S (S.read d (p.n.ks.getD (cY p.n.ss key) 0) (depth+1)).1 (depth+1)) (he:(if(S.read d (p.n.ks.getD (cY p.n.ss key) 0) (depth+1)).2≠0 then some ((nd0,false,(S.read d (p.n.ks.getD (cY p.n.ss key) 0) (depth+1)).2),S)else match bn bZ d.room d key ed f S (S.read d (p.n.ks.getD (cY p.n.ss key) 0) (depth+1)).1 (depth+1)with|none=>none|some ((is,ch,e),S1)=>if e≠0∨ch=false then some ((nd0,false,e),S1)else match dX bZ d.room S1 p.n (cY p.n.ss key) depth (S.read d (p.n.ks.getD (cY p.n.ss key) 0) (depth+1)).1 is with|none=>none|some ((m,e2),S2)=>some ((m,true,e2),S2))=some ((m,ch,er),S')),Calls Tryz.prog 116 #[ptr C.q,.agg (cN p),.int .i64 depth,.string key,.func (.func 44) #[] #[c1,c2]] w (GC B w0 C S' d P l U U' m ch er))∧
  (∀(T:bW B w0) (hst:aV B w0 C d Nb bZ) (dU:∀ {S S':Dr} {n:Nd} {depth i tt:Int} {r:Nd×Int},DI S d.room->bZ S n depth i tt=some (r,S')->DI S' d.room) (eN:∀ {S9 S8:Dr} {n9:Nd} {i9 j9 k9:Int} {r9:Nd×Int},bZ S9 n9 i9 j9 k9=some (r9,S8)->bS n9=true) {f:Nat} (ih:∀ {w:World} {S S':Dr} {d1:Dk} {P:List NV} {l:List aO} {p:NV} {m:Nd} {ch:Bool} {er:Int},Sep B w0 w (DL C S d1 P (U::l))->bf d d1->p∈P->DI S d.room->sF d key es0 f S p.n (depth+1)->bn bZ d.room d key ed f S p.n (depth+1)=some ((m,ch,er),S')->Calls Tryz.prog 116 #[ptr C.q,.agg (cN p),.int .i64 (depth+1),.string key,.func (.func 46) #[] #[c1,c2]] w (GC B w0 C S' d P l U U' m ch er)) (hci:∀(S S':Dr) (n:Nd) (dp:Int) (r:Nd×Bool×Int),DI S d.room->bn bZ d.room d key ed f S n dp=some (r,S')->DI S' d.room) (hd:bf d d1) (h:Sep B w0 w (DL C S d1 P (U::l))) (hp:p∈P) (I:DI S d.room) (hr:d.room<=16384) (hd0:-1<=depth) (hd1:depth+1<=Nb) (hNb:Nb<=1000000) (hsm:bS p.n=true) (hlf:p.n.leaf=false) (ht:cY p.n.ss key<p.n.ks.length) (Ii:(S.read d (p.n.ks.getD (cY p.n.ss key) 0) (depth+1)).2=0->sF d key es0 f S (S.read d (p.n.ks.getD (cY p.n.ss key) 0) (depth+1)).1 (depth+1)) (he:(if(S.read d (p.n.ks.getD (cY p.n.ss key) 0) (depth+1)).2≠0 then some ((nd0,false,(S.read d (p.n.ks.getD (cY p.n.ss key) 0) (depth+1)).2),S)else match bn bZ d.room d key ed f S (S.read d (p.n.ks.getD (cY p.n.ss key) 0) (depth+1)).1 (depth+1)with|none=>none|some ((is,ch,e),S1)=>if e≠0∨ch=false then some ((nd0,false,e),S1)else match dX bZ d.room S1 p.n (cY p.n.ss key) depth (S.read d (p.n.ks.getD (cY p.n.ss key) 0) (depth+1)).1 is with|none=>none|some ((m,e2),S2)=>some ((m,true,e2),S2))=some ((m,ch,er),S')),Calls Tryz.prog 116 #[ptr C.q,.agg (cN p),.int .i64 depth,.string key,.func (.func 46) #[] #[c1,c2]] w (GC B w0 C S' d P l U U' m ch er)):=by
 and_intros
 have iT:=trivial
 rotate_left
 have fc:=trivial
 rotate_left
 all_goals
  intro T hst dU eN f ih hci hd h hp I hr hd0 hd1 hNb hsm hlf ht Ii he;obtain⟨jt,hkl,_,_,hks⟩:=eH hsm;obtain⟨ae,ce,ak,ck,az,cz,n⟩:=p;simp only at hlf hp hsm hkl hks jt he ht Ii⊢;obtain⟨r,ro,hak,_⟩:=NV.kid (p:=(⟨ae,ce,ak,ck,az,cz,n⟩:NV)) (DL.nd h hp) (i:=cY n.ss key) ht;simp only at hak;subst hak;have S1:Hid (Sep B w0 ((w.alloc (.cells #[.bool n.leaf,.slice ae n.es.length ce,.slice (some ⟨r,ro,none⟩) n.ks.length ck,.slice az n.ss.length cz] 74)).alloc (.cells cZ 74)) (DL C S d1 P (U::aF w.heap.size (.cells #[.bool n.leaf,.slice ae n.es.length ce,.slice (some ⟨r,ro,none⟩) n.ks.length ck,.slice az n.ss.length cz] 74)::aF (w.heap.size+1) (.cells cZ 74)::l))):=Sep.wz (Sep.aR (Sep.nI (h.aP _)) _ _ (by simp));have HP:Hid ((⟨ae,ce,some ⟨r,ro,none⟩,ck,az,cz,n⟩:NV)∈P):=hp;have HD:Hid (bf d d1):=hd;have HI:Hid (DI S d.room):=I;have HX:Hid (d.room<=16384∧-1<=depth∧depth+1<=Nb∧Nb<=1000000∧Sm n∧cY n.ss key<n.ks.length∧∀k∈n.ks,Wf k):=⟨hr,hd0,hd1,hNb,jt,ht,hks⟩;have HE:Hid ((if(S.read d (n.ks.getD (cY n.ss key) 0) (depth+1)).2≠0 then some ((nd0,false,(S.read d (n.ks.getD (cY n.ss key) 0) (depth+1)).2),S)
    else match bn bZ d.room d key ed f S (S.read d (n.ks.getD (cY n.ss key) 0) (depth+1)).1 (depth+1)with
    |none=>none
    |some ((is,ch,e),S1)=>if e≠0∨ch=false then some ((nd0,false,e),S1)else
     match dX bZ d.room S1 n (cY n.ss key) depth (S.read d (n.ks.getD (cY n.ss key) 0) (depth+1)).1 is with
     |none=>none
     |some ((m,e2),S2)=>some ((m,true,e2),S2))=some ((m,ch,er),S')):=he
  first
   |have zz:=iT
    have YV:Hid (∀ {w:World} {S S':Dr} {d1:Dk} {P:List NV} {l:List aO} {p:NV} {m:Nd} {ch:Bool} {er:Int},Sep B w0 w (DL C S d1 P (U::l))->bf d d1->p∈P->DI S d.room->sF d key es0 f S p.n (depth+1)->bn bZ d.room d key ed f S p.n (depth+1)=some ((m,ch,er),S')->Calls Tryz.prog 116 #[ptr C.q,.agg (cN p),.int .i64 (depth+1),.string key,.func (.func 44) #[] #[c1,c2]] w (GC B w0 C S' d P l U U' m ch er)):=fun h1 h2 h3 h4 h6 h5=>ih h1 h2 h3 h4 h6 h5
   |have YV:Hid (∀ {w:World} {S S':Dr} {d1:Dk} {P:List NV} {l:List aO} {p:NV} {m:Nd} {ch:Bool} {er:Int},Sep B w0 w (DL C S d1 P (U::l))->bf d d1->p∈P->DI S d.room->sF d key es0 f S p.n (depth+1)->bn bZ d.room d key ed f S p.n (depth+1)=some ((m,ch,er),S')->Calls Tryz.prog 116 #[ptr C.q,.agg (cN p),.int .i64 (depth+1),.string key,.func (.func 46) #[] #[c1,c2]] w (GC B w0 C S' d P l U U' m ch er)):=fun h1 h2 h3 h4 h6 h5=>ih h1 h2 h3 h4 h6 h5
  have YW:Hid ((S.read d (n.ks.getD (cY n.ss key) 0) (depth+1)).2=0->sF d key es0 f S (S.read d (n.ks.getD (cY n.ss key) 0) (depth+1)).1 (depth+1)):=Ii;have HT:Hid (aV B w0 C d Nb bZ):=hst;have Ua:Hid (∀(S S':Dr) (n:Nd) (depth i tt:Int) (r:Nd×Int),DI S d.room->bZ S n depth i tt=some (r,S')->DI S' d.room):=fun _ _ _ _ _ _ _ h1 h2=>dU h1 h2;have Xg:Hid (∀(S9 S8:Dr) (n9:Nd) (i9 j9 k9:Int) (r9:Nd×Int),bZ S9 n9 i9 j9 k9=some (r9,S8)->bS n9=true):=fun _ _ _ _ _ _ _ h=>eN h;have HCI:Hid (∀(S S':Dr) (n:Nd) (dp:Int) (r:Nd×Bool×Int),DI S d.room->bn bZ d.room d key ed f S n dp=some (r,S')->DI S' d.room):=hci;have w1:IntKind.i64.wrap (depth+1)=depth+1:=bE (by omega) (by omega);have KC:Hid (∀u,Sep B w0 u (DL C S d1 P (U::aF w.heap.size (.cells #[.bool n.leaf,.slice ae n.es.length ce,.slice (some ⟨r,ro,none⟩) n.ks.length ck,.slice az n.ss.length cz] 74)::aF (w.heap.size+1) (.cells cZ 74)::l))->Calls Tryz.prog 86 #[.agg #[.bool n.leaf,.slice ae n.es.length ce,.slice (some ⟨r,ro,none⟩) n.ks.length ck,.slice az n.ss.length cz],.string key] u fun e w'=>e=.returned (.int .i64 ((cY n.ss key:Nat):Int))∧Sep B w0 w' (DL C S d1 P (U::aF w.heap.size (.cells #[.bool n.leaf,.slice ae n.es.length ce,.slice (some ⟨r,ro,none⟩) n.ks.length ck,.slice az n.ss.length cz] 74)::aF (w.heap.size+1) (.cells cZ 74)::l))):=fun u hu=>Mk (p:=(⟨ae,ce,some ⟨r,ro,none⟩,ck,az,cz,n⟩:NV)) hu hp jt key;generalize hct:cY n.ss key=t at*;have KR:Hid (∀u d' P' L,bf d d'->Sep B w0 u (DL C S d' P' L)->Calls Tryz.prog 152 #[ptr C.q,.int .i64 (n.ks.getD t 0),.int .i64 (depth+1)] u fun e w'=>∃pa P2 d2,pa.n=(S.read d (n.ks.getD t 0) (depth+1)).1∧pa∈P2∧(∀x∈P',x∈P2)∧e=.returned (.tuple #[.agg (cN pa),.int .i64 (S.read d (n.ks.getD t 0) (depth+1)).2])∧bf d d2∧Sep B w0 w' (DL C S d2 P2 L)):=fun u d' P' L hd hu=>vB T hd hu (hks _ (dK ht)) I hr;have hil:(t:Int)< (n.ks.length:Int):=by omega
  have YX:Hid (n.leaf=false):=hlf;clear Ii h hd hp I he ih hst dU eN hci hr hsm jt hks hd0 hd1 hNb ht hlf;go_enter Tryz.func116,Tryz.ntmps116
  go_upto_region 1 with fail
  generalize World.alloc _ _=v1 at*;generalize w.heap.size+1=q1 at*;generalize w.heap.size=q0 at*;obtain⟨_,⟨y0,_⟩,_⟩:=Sep.c4 (Sep.cO (S1.out));rw[YX.out]at y0
  go_upto_region 5 with fail
  clear y0;obtain⟨_,⟨y0,y1,y2,y3⟩,_⟩:=Sep.c4 (Sep.cO (S1.out))
  go_wp2_with fail
  clear y0 y1 y2 y3;refine Calls.mono (KC.out _ S1.out) ?_;rintro e v2 ⟨rfl,s2⟩;have S2:Hid (Sep B w0 v2 (DL C S d1 P (U::aF q0 (.cells #[.bool n.leaf,.slice ae n.es.length ce,.slice (some ⟨r,ro,none⟩) n.ks.length ck,.slice az n.ss.length cz] 74)::aF q1 (.cells cZ 74)::l))):=s2;clear s2 S1 KC;obtain⟨r',ro',hak,hrs,hrc⟩:=NV.kid (p:=(⟨ae,ce,some ⟨r,ro,none⟩,ck,az,cz,n⟩:NV)) (DL.nd S2.out HP.out) (i:=t) HX.out.2.2.2.2.2.1;cases hak;simp only at hrc;generalize vC:n.ks.getD t 0=kid at*;generalize hrd:S.read d kid (depth+1)=rd at*;obtain⟨nk,ek⟩:=rd;simp only at HE KR YW;obtain⟨_,⟨y0,y1,y2,y3⟩,_⟩:=Sep.c4 (Sep.cO (S2.out))
  go_wp2_with fail
  clear y0 y1 y2 y3 hrs hrc;refine Calls.mono (KR.out _ _ _ _ HD.out S2.out) ?_;rintro e v3 ⟨kn,P1,d2,hn1,hm1,hs1,rfl,hd2,s3⟩;subst hn1;have D2:Hid (bf d d2):=hd2;have M1:Hid (∀x∈P,x∈P1):=hs1;have MK:Hid (kn∈P1):=hm1;have S3:Hid (Sep B w0 v3 (DL C S d2 P1 (U::aF q0 (.cells #[.bool n.leaf,.slice ae n.es.length ce,.slice (some ⟨r,ro,none⟩) n.ks.length ck,.slice az n.ss.length cz] 74)::aF q1 (.cells cZ 74)::l))):=s3;clear s3 hd2 hs1 hm1 S2 KR HD;by_cases e0:ek≠0
  ·have hE:=HE.out;rw[if_pos e0]at hE;obtain⟨hm,hj,hr',hS⟩:nd0=m∧false=ch∧ek=er∧S=S':=by
    cases hE;exact⟨rfl,rfl,rfl,rfl⟩
   subst hm hj hr' hS;have hne:(ek != 0)=true:=bne_iff_ne.2 e0;have JJ:Hid (ek≠0):=e0;clear hE HE e0;obtain⟨_,⟨y0,y1,y2,y3⟩,g0,g1,g2,g3⟩:=Sep.c4 (Sep.eh (S3.out));have SF:Hid (Sep B w0 (((((v3.setCell ⟨q1,0,none⟩ (.bool false)).setCell ⟨q1,1,none⟩ (.slice none 0 0)).setCell ⟨q1,2,none⟩ (.slice none 0 0)).setCell ⟨q1,3,none⟩ (.slice none 0 0)).alloc (.cells #[.bool kn.n.leaf,.slice kn.ae kn.n.es.length kn.ce,.slice kn.ak kn.n.ks.length kn.ck,.slice kn.az kn.n.ss.length kn.cz] 74)) _):=Sep.alloc (Sep.wz (Sep.s4 (Sep.eh (S3.out)) _ _ _ _)) _;clear S3;go_wp2
   (try simp only[Exit.inBlock,Exit.then])
   generalize World.setCell _ _ _=vf at*;clear y0 y1 y2 y3 g0 g1 g2 g3;obtain⟨_,⟨y0,y1,y2,y3⟩,g0,g1,g2,g3⟩:=Sep.c4 (Sep.eh (SF.out));refine bodyPost_ret (v:=.tuple #[.agg cZ,.bool false,.int .i64 ek]) ?_ rfl ⟨pZ,pZ::P1,d2,U,rfl,List.mem_cons_self,fun x hx=>List.mem_cons_of_mem _ (M1.out x hx),.inl rfl,fun h=>absurd h JJ.out,rfl,D2.out,DL.zero (Sep.drop (Sep.cO (Sep.drop (Sep.eh (SF.out)))))⟩;rw[bL rfl];go_simp
  ·have hE:=HE.out;rw[if_neg e0]at hE;have ez:ek=0:=by simpa using e0
   subst ez;cases hcd:bn bZ d.room d key ed f S kn.n (depth+1)with
   |none=>
    rw[hcd]at hE;cases hE
   |some rr=>
   obtain⟨⟨is,c9,e9⟩,S9⟩:=rr;rw[hcd]at hE;simp only at hE;have I9:Hid (DI S9 d.room):=HCI.out _ _ _ _ _ HI.out hcd;have S4:Hid (Sep B w0 (v3.alloc (.cells #[.bool kn.n.leaf,.slice kn.ae kn.n.es.length kn.ce,.slice kn.ak kn.n.ks.length kn.ck,.slice kn.az kn.n.ss.length kn.cz] 74)) _):=Sep.JI (Sep.aP S3.out _);have KX:Hid _:=YV.out S4.out D2.out MK.out HI.out (YW.out rfl) hcd;clear S3 HE e0 hcd
   go_wp2_with fail
   generalize World.alloc _ _=v4 at*;generalize v3.heap.size=q2 at*;refine Calls.mono KX.out ?_;rintro e v5 ⟨Sq,P2,d3,V,hn2,hm2,hs2,hV,Oe,rfl,hd3,s5⟩;subst hn2;have D3:Hid (bf d d3):=hd3;have M2:Hid (∀x∈P1,x∈P2):=hs2;have MI:Hid (Sq∈P2):=hm2;have HV:Hid ((V=U∨V=U')∧(e9=0->V=U')):=⟨hV,Oe⟩;have S5:Hid (Sep B w0 v5 (DL C S9 d3 P2 (V::aF q0 (.cells #[.bool n.leaf,.slice ae n.es.length ce,.slice (some ⟨r,ro,none⟩) n.ks.length ck,.slice az n.ss.length cz] 74)::aF q1 (.cells cZ 74)::aF q2 (.cells #[.bool kn.n.leaf,.slice kn.ae kn.n.es.length kn.ce,.slice kn.ak kn.n.ks.length kn.ck,.slice kn.az kn.n.ss.length kn.cz] 74)::l))):=s5;clear s5 hd3 hs2 hm2 S4 KX D2 hV Oe;have D2:Hid (bf d d3):=D3.out;clear D3;have M3:Hid (∀x∈P,x∈P2):=fun x hx=>M2.out x (M1.out x hx);by_cases h9:e9≠0∨c9=false
   ·rw[if_pos h9]at hE;obtain⟨hm,hj,hr',hS⟩:nd0=m∧false=ch∧e9=er∧S9=S':=by
     cases hE;exact⟨rfl,rfl,rfl,rfl⟩
    subst hm hj hr' hS;clear hE;by_cases h8:e9≠0
    ·have hne:(e9 != 0)=true:=bne_iff_ne.2 h8;clear h8 h9;obtain⟨_,⟨y0,y1,y2,y3⟩,g0,g1,g2,g3⟩:=Sep.c4 (Sep.eh (S5.out));have SF:Hid (Sep B w0 (((((v5.setCell ⟨q1,0,none⟩ (.bool false)).setCell ⟨q1,1,none⟩ (.slice none 0 0)).setCell ⟨q1,2,none⟩ (.slice none 0 0)).setCell ⟨q1,3,none⟩ (.slice none 0 0)).alloc (.cells (cN Sq) 74)) _):=Sep.alloc (Sep.wz (Sep.s4 (Sep.eh (S5.out)) _ _ _ _)) _;clear S5;go_wp2
     (try simp only[Exit.inBlock,Exit.then])
     generalize World.setCell _ _ _=vf at*;clear y0 y1 y2 y3 g0 g1 g2 g3;obtain⟨_,⟨y0,y1,y2,y3⟩,g0,g1,g2,g3⟩:=Sep.c4 (Sep.eh (SF.out));refine bodyPost_ret (v:=.tuple #[.agg cZ,.bool false,.int .i64 e9]) ?_ rfl ⟨pZ,pZ::P2,d3,V,rfl,List.mem_cons_self,fun x hx=>List.mem_cons_of_mem _ (M3.out x hx),HV.out.1,HV.out.2,rfl,D2.out,DL.zero (Sep.drop (Sep.cO (Sep.drop (Sep.eh (Sep.drop (Sep.iI (SF.out)))))))⟩;rw[bL rfl];go_simp
    ·have QI:e9=0:=by simpa using h8
     have QJ:c9=false:=by
      rcases h9 with h|h
      ·exact absurd h h8
      ·exact h
     subst QI QJ;have wA:Hid (V=U'):=HV.out.2 rfl;clear h8 h9 HV;obtain⟨_,⟨y0,y1,y2,y3⟩,g0,g1,g2,g3⟩:=Sep.c4 (Sep.eh (S5.out));have SF:Hid (Sep B w0 (((((v5.setCell ⟨q1,0,none⟩ (.bool false)).setCell ⟨q1,1,none⟩ (.slice none 0 0)).setCell ⟨q1,2,none⟩ (.slice none 0 0)).setCell ⟨q1,3,none⟩ (.slice none 0 0)).alloc (.cells (cN Sq) 74)) _):=Sep.alloc (Sep.wz (Sep.s4 (Sep.eh (S5.out)) _ _ _ _)) _;clear S5;go_wp2
     (try simp only[Exit.inBlock,Exit.then])
     generalize World.setCell _ _ _=vf at*;clear y0 y1 y2 y3 g0 g1 g2 g3;obtain⟨_,⟨y0,y1,y2,y3⟩,g0,g1,g2,g3⟩:=Sep.c4 (Sep.eh (SF.out));refine bodyPost_ret (v:=.tuple #[.agg cZ,.bool false,.int .i64 0]) ?_ rfl ⟨pZ,pZ::P2,d3,V,rfl,List.mem_cons_self,fun x hx=>List.mem_cons_of_mem _ (M3.out x hx),.inr wA.out,fun _=>wA.out,rfl,D2.out,DL.zero (Sep.drop (Sep.cO (Sep.drop (Sep.eh (Sep.drop (Sep.iI (SF.out)))))))⟩;rw[bL rfl];go_simp
   ·rw[if_neg h9]at hE;have QI:e9=0:=by
     by_cases h:e9=0
     ·exact h
     ·exact absurd (.inl h) h9
    have QJ:c9=true:=by
     cases hc:c9
     ·exact absurd (.inr hc) h9
     ·rfl
    subst QI QJ;have wA:Hid (V=U'):=HV.out.2 rfl;clear HV;cases hpl:dX bZ d.room S9 n (t:Int) depth kn.n Sq.n with
    |none=>
     rw[hpl]at hE;cases hE
    |some rr=>
    obtain⟨⟨m2,e2⟩,ED⟩:=rr;rw[hpl]at hE;obtain⟨hm,hj,hr',hS⟩:m2=m∧true=ch∧e2=er∧ED=S':=by
     cases hE;exact⟨rfl,rfl,rfl,rfl⟩
    subst hm hj hr' hS;have S6:Hid (Sep B w0 (v5.alloc (.cells (cN Sq) 74)) _):=Sep.Vi (Sep.aP S5.out _);have KP:Hid _:=Cc (p:=(⟨ae,ce,some ⟨r,ro,none⟩,ck,az,cz,n⟩:NV)) (pw:=kn) (pi:=Sq) T HT.out (fun h1 h2=>Ua.out _ _ _ _ _ _ _ h1 h2) D2.out S6.out (M3.out _ HP.out) (M2.out _ MK.out) MI.out I9.out HX.out.1 HX.out.2.1 HX.out.2.2.1 HX.out.2.2.2.1 (fun h=>Xg.out _ _ _ _ _ _ _ h) hpl;obtain⟨_,⟨y0,y1,y2,y3⟩,_⟩:=Sep.c4 (Sep.cO (S5.out));obtain⟨_,⟨z0,z1,z2,z3⟩,_⟩:=Sep.c4 (Sep.iI (S5.out));clear S5 hE hpl h9
    go_wp2_with fail
    clear y0 y1 y2 y3 z0 z1 z2 z3;generalize World.alloc _ _=v6 at*;generalize v5.heap.size=q3 at*;refine Calls.mono KP.out ?_;rintro e v7 ⟨pm,P4,d4,Xh,Ub,hs4,rfl,hd4,s7⟩;subst Xh;have D4:Hid (bf d d4):=hd4;have M4:Hid (∀x∈P,x∈P4):=fun x hx=>hs4 x (M3.out x hx);have MM:Hid (pm∈P4):=Ub;obtain⟨_,⟨y0,y1,y2,y3⟩,g0,g1,g2,g3⟩:=Sep.c4 (Sep.cO (s7));obtain⟨_,⟨z0,z1,z2,z3⟩,j0,j1,j2,j3⟩:=Sep.c4 (Sep.eh (s7));have vD:q0≠q1:=Sep.ne (Sep.eh (Sep.eh (s7)));have n10:=vD.symm;have SF:Hid (Sep B w0 ((((((((v7.setCell ⟨q0,0,none⟩ (.bool pm.n.leaf)).setCell ⟨q0,1,none⟩ (.slice pm.ae pm.n.es.length pm.ce)).setCell ⟨q0,2,none⟩ (.slice pm.ak pm.n.ks.length pm.ck)).setCell ⟨q0,3,none⟩ (.slice pm.az pm.n.ss.length pm.cz)).setCell ⟨q1,0,none⟩ (.bool pm.n.leaf)).setCell ⟨q1,1,none⟩ (.slice pm.ae pm.n.es.length pm.ce)).setCell ⟨q1,2,none⟩ (.slice pm.ak pm.n.ks.length pm.ck)).setCell ⟨q1,3,none⟩ (.slice pm.az pm.n.ss.length pm.cz)) _):=Sep.wz (Sep.s4 (Sep.eh (Sep.nI (Sep.s4 (Sep.cO (s7)) _ _ _ _))) _ _ _ _);clear s7 hd4 hs4 Ub KP S6;go_wp2
    (try simp only[Exit.inBlock,Exit.then])
    generalize World.setCell _ _ _=vf at*;clear y0 y1 y2 y3 g0 g1 g2 g3 z0 z1 z2 z3 j0 j1 j2 j3;obtain⟨_,⟨y0,y1,y2,y3⟩,g0,g1,g2,g3⟩:=Sep.c4 (Sep.eh (SF.out));refine bodyPost_ret (v:=.tuple #[.agg (cN pm),.bool true,.int .i64 e2]) ?_ rfl ⟨pm,P4,d4,V,rfl,MM.out,M4.out,.inr wA.out,fun _=>wA.out,rfl,D4.out,Sep.drop (Sep.cO (Sep.drop (Sep.eh (Sep.drop (Sep.iI (Sep.drop (Sep.oM (SF.out))))))))⟩;rw[bL rfl];go_simp
theorem mo (T:bW B w0)(hst:aV B w0 C d Nb bZ)(dU:∀ {S S':Dr} {n:Nd} {depth i tt:Int} {r:Nd×Int},DI S d.room->bZ S n depth i tt=some (r,S')->DI S' d.room)(eN:∀ {S9 S8:Dr} {n9:Nd} {i9 j9 k9:Int} {r9:Nd×Int},bZ S9 n9 i9 j9 k9=some (r9,S8)->bS n9=true)(rJ:mn B w0 C 44 c1 c2 ed es0 U U')(hel:∀es,(ed es).length<=es.length+1)(hr:d.room<=16384)(hNb:Nb<=1000000):∀(f:Nat) {w:World} {S S':Dr} {d1:Dk} {P:List NV} {l:List aO} {p:NV} {depth:Int} {m:Nd} {ch:Bool} {er:Int},-1<=depth->depth+f<=Nb->Sep B w0 w (DL C S d1 P (U::l))->bf d d1->p∈P->DI S d.room->sF d key es0 f S p.n depth->bn bZ d.room d key ed f S p.n depth=some ((m,ch,er),S')->Calls Tryz.prog 116 #[ptr C.q,.agg (cN p),.int .i64 depth,.string key,.func (.func 44) #[] #[c1,c2]] w (GC B w0 C S' d P l U U' m ch er)
 |0,_,_,_,_,_,_,_,_,_,_,_,_,_,_,_,_,_,_,he=>by cases he
 |f+1,w,S,S',d1,P,l,p,depth,m,ch,er,hd0,hd1,h,hd,hp,I,hlf,he=>by
  unfold bn at he;by_cases hs:bS p.n=false
  ·rw[if_pos hs]at he;cases he
  ·rw[if_neg hs]at he;have hsm:bS p.n=true:=by simpa using hs
   by_cases hl:p.n.leaf=true
   ·rw[if_pos hl]at he;obtain⟨hm,hj,hr',hS⟩:(⟨true,ed p.n.es,[],[]⟩:Nd)=m∧(!decide (ed p.n.es=p.n.es))=ch∧(0:Int)=er∧(⟨S.x,S.nodes,S.cnt,S.taken,S.spare,depth⟩:Dr)=S':=by
     cases he;exact⟨rfl,rfl,rfl,rfl⟩
    subst hm hj hr' hS;exact fF.1 rJ hel hd h hp hsm hl (by unfold sF at hlf;rw[if_pos hl]at hlf;exact hlf)
   ·rw[if_neg hl]at he;have hl':p.n.leaf=false:=by simpa using hl
    by_cases ht:p.n.ks.length<=cY p.n.ss key
    ·rw[if_pos ht]at he;cases he
    ·rw[if_neg ht]at he;exact kK.1 T hst dU eN (fun h1 h2 h3 h4 h6 h5=>mo T hst dU eN rJ hel hr hNb f (by omega) (by omega) h1 h2 h3 h4 h6 h5) (fun S S' n dp r hI he=>DI.changed (fun h1 h2=>dU h1 h2) f hI he) hd h hp I hr hd0 (by omega) hNb hsm hl' (by omega) (by unfold sF at hlf;rw[if_neg hl]at hlf;exact hlf) he
theorem mq (T:bW B w0)(hst:aV B w0 C d Nb bZ)(dU:∀ {S S':Dr} {n:Nd} {depth i tt:Int} {r:Nd×Int},DI S d.room->bZ S n depth i tt=some (r,S')->DI S' d.room)(eN:∀ {S9 S8:Dr} {n9:Nd} {i9 j9 k9:Int} {r9:Nd×Int},bZ S9 n9 i9 j9 k9=some (r9,S8)->bS n9=true)(rJ:mn B w0 C 46 c1 c2 ed es0 U U')(hel:∀es,(ed es).length<=es.length+1)(hr:d.room<=16384)(hNb:Nb<=1000000):∀(f:Nat) {w:World} {S S':Dr} {d1:Dk} {P:List NV} {l:List aO} {p:NV} {depth:Int} {m:Nd} {ch:Bool} {er:Int},-1<=depth->depth+f<=Nb->Sep B w0 w (DL C S d1 P (U::l))->bf d d1->p∈P->DI S d.room->sF d key es0 f S p.n depth->bn bZ d.room d key ed f S p.n depth=some ((m,ch,er),S')->Calls Tryz.prog 116 #[ptr C.q,.agg (cN p),.int .i64 depth,.string key,.func (.func 46) #[] #[c1,c2]] w (GC B w0 C S' d P l U U' m ch er)
 |0,_,_,_,_,_,_,_,_,_,_,_,_,_,_,_,_,_,_,he=>by cases he
 |f+1,w,S,S',d1,P,l,p,depth,m,ch,er,hd0,hd1,h,hd,hp,I,hlf,he=>by
  unfold bn at he;by_cases hs:bS p.n=false
  ·rw[if_pos hs]at he;cases he
  ·rw[if_neg hs]at he;have hsm:bS p.n=true:=by simpa using hs
   by_cases hl:p.n.leaf=true
   ·rw[if_pos hl]at he;obtain⟨hm,hj,hr',hS⟩:(⟨true,ed p.n.es,[],[]⟩:Nd)=m∧(!decide (ed p.n.es=p.n.es))=ch∧(0:Int)=er∧(⟨S.x,S.nodes,S.cnt,S.taken,S.spare,depth⟩:Dr)=S':=by
     cases he;exact⟨rfl,rfl,rfl,rfl⟩
    subst hm hj hr' hS;exact fF.2 rJ hel hd h hp hsm hl (by unfold sF at hlf;rw[if_pos hl]at hlf;exact hlf)
   ·rw[if_neg hl]at he;have hl':p.n.leaf=false:=by simpa using hl
    by_cases ht:p.n.ks.length<=cY p.n.ss key
    ·rw[if_pos ht]at he;cases he
    ·rw[if_neg ht]at he;exact kK.2 T hst dU eN (fun h1 h2 h3 h4 h6 h5=>mq T hst dU eN rJ hel hr hNb f (by omega) (by omega) h1 h2 h3 h4 h6 h5) (fun S S' n dp r hI he=>DI.changed (fun h1 h2=>dU h1 h2) f hI he) hd h hp I hr hd0 (by omega) hNb hsm hl' (by omega) (by unfold sF at hlf;rw[if_neg hl]at hlf;exact hlf) he
end
end
section
open N (Nd nd0 cA cQ dM iR fQ Sm cY En)
theorem Dr.Ij (S:Dr)(id:Int):(S.drop id).bot=S.bot:=by unfold Dr.drop;split<;>rfl
def GL (B:Nat)(w0:World)(C:Cx)(S':Dr)(d:Dk)(P:List NV)(l:List aO)(r er:Int)(e:Ending)(w':World):Prop:=∃P' d',(∀x∈P,x∈P')∧e=.returned (.tuple #[.int .i64 r,.int .i64 er])∧bf d d'∧Sep B w0 w' (DL C S' d' P' l)
section
variable {B:Nat}{w0 w w':World}{l:List aO}{P:List NV}{C:Cx}{S S':Dr}{d d1:Dk}{r er:Int}
theorem Ik {id:Int}(T:bW B w0)(hd:bf d d1)(h:Sep B w0 w (DL C S d1 P l))(I:DI S d.room)(hr:d.room<=16384)(hid:Wf id)(hb0:-1000000<=S.bot)(hb1:S.bot<=1000000)(he:dB d 24 S id 0=some ((r,er),S')):
  Calls Tryz.prog 118 #[ptr C.q,.int .i64 id] w (GL B w0 C S' d P l r er):=by
 have Sr:Hid (Sep B w0 w (DL C S d1 P l)):=h;have HD:Hid (bf d d1):=hd;have HI:Hid (DI S d.room):=I;have HE:Hid (dB d 24 S id 0=some ((r,er),S')):=he;have HW:Hid (Wf id):=hid;have HX:Hid (d.room<=16384∧-1000000<=S.bot∧S.bot<=1000000):=⟨hr,hb0,hb1⟩;clear h hd I he hid hr hb0 hb1;go_enter Tryz.func118,Tryz.ntmps118;go_wp2
 go_loopg [1,9] 24 (fun kx s1 s9 wr=>∃(k:Nat) (ic:Int) (Sc:Dr) (Pc:List NV) (dc:Dk),s1=.int .i64 ic∧s9=.int .i64 (k:Int)∧k<=24∧24-k<=kx∧Hid (Wf ic)∧Hid (dB d (24-k) Sc ic (k:Int)=some ((r,er),S'))∧Hid (DI Sc d.room)∧Hid (∀x∈P,x∈Pc)∧Hid (bf d dc)∧Hid (Sc.bot=S.bot)∧Hid (Sep B w0 wr (DL C Sc dc Pc l)))
 case atStart=>exact⟨0,id,S,P,d1,rfl,rfl,by omega,by omega,HW.out,HE.out,HI.out,fun _ h=>h,HD.out,rfl,Sr.out⟩
 case round=>
  clear Sr HD HI HE HW;obtain⟨k,ic,Sc,Pc,dc,rfl,rfl,hk,hkx,HW,HE,HI,HM,HD,HB,HS⟩:=hrel;by_cases hlt:k<24
  ·have hE:=HE.out;obtain⟨g,hg⟩:∃g,24-k=g+1:=⟨24-k-1,by omega⟩;rw[hg]at hE;unfold dB at hE;have hltz:(k:Int)<24:=by omega
   by_cases hok:Sc.okB=false
   ·rw[if_pos hok]at hE;cases hE
   rw[if_neg hok]at hE;have Xa:Hid (Sc.okB=true):=by show _=true;simpa using hok
   have KR:Hid (Calls Tryz.prog 152 #[ptr C.q,.int .i64 ic,.int .i64 (k:Int)] wr fun e w'=>∃pa P2 d2,pa.n=(Sc.read d ic (k:Int)).1∧pa∈P2∧(∀x∈Pc,x∈P2)∧e=.returned (.tuple #[.agg #[.bool pa.n.leaf,.slice pa.ae pa.n.es.length pa.ce,.slice pa.ak pa.n.ks.length pa.ck,.slice pa.az pa.n.ss.length pa.cz],.int .i64 (Sc.read d ic (k:Int)).2])∧bf d d2∧Sep B w0 w' (DL C Sc d2 P2 l)):=vB T HD.out HS.out HW.out HI.out HX.out.1;have HF:Hid ((Sc.read d ic (k:Int)).2=0->cA (Sc.read d ic (k:Int)).1=true):=fun h=>HI.out.read h;generalize Sc.read d ic (k:Int)=rd at*;obtain⟨nk,ek⟩:=rd;simp only at hE KR HF;clear hok HE
   go_wp2_with fail
   refine Calls.mono KR.out ?_;rintro e v3 ⟨pn,P1,d2,hn1,hm1,hs1,rfl,hd2,s3⟩;subst hn1;have D2:Hid (bf d d2):=hd2;have M1:Hid (∀x∈P,x∈P1):=fun x hx=>hs1 x (HM.out x hx);have MK:Hid (pn∈P1):=hm1;have S3:Hid (Sep B w0 v3 (DL C Sc d2 P1 l)):=s3;clear s3 hd2 hs1 hm1 KR HD HS HM;by_cases e0:ek≠0
   ·rw[if_pos e0]at hE;obtain⟨hr',he',hS⟩:0=r∧ek=er∧Sc=S':=by
     cases hE;exact⟨rfl,rfl,rfl⟩
    subst hr' he' hS;have hne:(ek != 0)=true:=bne_iff_ne.2 e0;have SF:Hid (Sep B w0 (v3.alloc (.cells #[.bool pn.n.leaf,.slice pn.ae pn.n.es.length pn.ce,.slice pn.ak pn.n.ks.length pn.ck,.slice pn.az pn.n.ss.length pn.cz] 74)) (DL C Sc d2 P1 l)):=S3.out.alloc _;clear hE e0 S3;go_wp2;go_ret2;exact⟨P1,d2,M1.out,rfl,D2.out,SF.out⟩
   ·rw[if_neg e0]at hE;have ez:ek=0:=by simpa using e0
    subst ez;have FN:Hid (cA pn.n=true):=HF.out rfl;clear HF e0;by_cases h1:pn.n.ks.length=1
    ·rw[if_pos h1]at hE;obtain⟨ae,ce,ak,ck,az,cz,n⟩:=pn;simp only at h1 hE FN MK;obtain⟨rr,ro,hak,_⟩:=NV.kid (p:=(⟨ae,ce,ak,ck,az,cz,n⟩:NV)) (DL.nd S3.out MK.out) (i:=0) (by simp only;omega);simp only at hak;subst hak;have h1I:((n.ks.length:Int)==1)=true:=by rw[h1];rfl
     have S4:Hid (Sep B w0 (v3.alloc (.cells #[.bool n.leaf,.slice ae n.es.length ce,.slice (some ⟨rr,ro,none⟩) n.ks.length ck,.slice az n.ss.length cz] 74)) (DL C Sc d2 P1 (aF v3.heap.size (.cells #[.bool n.leaf,.slice ae n.es.length ce,.slice (some ⟨rr,ro,none⟩) n.ks.length ck,.slice az n.ss.length cz] 74)::l))):=Sep.pb [_,_,_,_,_] (S3.out.aP _);have KD:Hid _:=vz S4.out HW.out Xa.out;have WK:Hid (Wf (n.ks.getD 0 0)):=(fR FN.out).2.2 _ (dK (by omega));have ID:Hid (DI (Sc.drop ic) d.room):=HI.out.drop ic;have hbb:Hid ((Sc.drop ic).bot=S.bot):=(Dr.Ij Sc ic).trans HB.out;have KK:Hid (∀u,Sep B w0 u (DL C (Sc.drop ic) d2 P1 (aF v3.heap.size (.cells #[.bool n.leaf,.slice ae n.es.length ce,.slice (some ⟨rr,ro,none⟩) n.ks.length ck,.slice az n.ss.length cz] 74)::l))->rr<u.heap.size∧u.cell? ⟨rr,ro,none⟩=some (.int .i64 (n.ks.getD 0 0))):=fun u hu=>by
      obtain⟨r',ro',hak,k1,k2⟩:=NV.kid (p:=(⟨ae,ce,some ⟨rr,ro,none⟩,ck,az,cz,n⟩:NV)) (DL.nd hu MK.out) (i:=0) (by simp only;omega);cases hak;exact⟨k1,by simpa using k2⟩
     have hE2:Hid (dB d g (Sc.drop ic) (n.ks.getD 0 0) ((k:Int)+1)=some ((r,er),S')):=hE;generalize n.ks.getD 0 0=kid at*;generalize Sc.drop ic=Sd at*;clear hE S3;have hlp:(0:Int)< (n.ks.length:Int):=by omega
     have HLN:Hid (n.ks.length=1):=h1;clear h1
     go_wp2_with fail
     generalize v3.alloc (.cells #[.bool n.leaf,.slice ae n.es.length ce,.slice (some ⟨rr,ro,none⟩) n.ks.length ck,.slice az n.ss.length cz] 74)=v4 at*;generalize v3.heap.size=q7 at*;refine Calls.mono KD.out ?_;rintro e v5 ⟨rfl,s5⟩;obtain⟨k1,k2⟩:=KK.out _ s5;obtain⟨_,⟨y0,y1,y2,y3⟩,_⟩:=Sep.c4 (Sep.pk [_,_,_,_,_] (s5));have SF:Hid (Sep B w0 v5 (DL C Sd d2 P1 l)):=Sep.drop (Sep.pk [_,_,_,_,_] (s5));clear s5 KD KK S4;have wk:IntKind.i64.wrap ((k:Int)+1)=((k+1:Nat):Int):=by rw[bE (by omega) (by omega)];rfl
     go_wp2
     all_goals go_roundg (24- (k+1))
     case measure=>omega
     case rel=>exact⟨k+1,kid,Sd,P1,d2,rfl,by go_num,by omega,Nat.le_refl _,WK.out,by show _=_;rw[show 24- (k+1)=g by omega];exact hE2.out,ID.out,M1.out,D2.out,hbb.out,SF.out⟩
    ·rw[if_neg h1]at hE;have h1I:((pn.n.ks.length:Int)==1)=false:=by simp;omega
     obtain⟨mm,va,vb,qs,⟨x0,x1,x2,x3,x4⟩,_⟩:=DL.pD S3.out;have hbt:Hid (Sc.bot=S.bot):=HB.out;have wb:IntKind.i64.wrap (Sc.bot- (k:Int))=Sc.bot- (k:Int):=by
      have h2:=HX.out;have h3:=hbt.out;exact bE (by omega) (by omega)
     have SF:Hid (Sep B w0 (v3.alloc (.cells #[.bool pn.n.leaf,.slice pn.ae pn.n.es.length pn.ce,.slice pn.ak pn.n.ks.length pn.ck,.slice pn.az pn.n.ss.length pn.cz] 74)) (DL C Sc d2 P1 l)):=S3.out.alloc _;clear h1 S3 HB;generalize hbo:Sc.bot=bo at*;by_cases h2:24<=bo- (k:Int)
     ·rw[if_pos h2]at hE;obtain⟨hr',he',hS⟩:0=r∧3=er∧Sc=S':=by
       cases hE;exact⟨rfl,rfl,rfl⟩
      subst hr' he' hS;clear hE;go_wp2;go_ret2;exact⟨P1,d2,M1.out,rfl,D2.out,SF.out⟩
     ·rw[if_neg h2]at hE;obtain⟨hr',he',hS⟩:ic=r∧0=er∧Sc=S':=by
       cases hE;exact⟨rfl,rfl,rfl⟩
      subst hr' he' hS;clear hE;go_wp2;go_ret2;exact⟨P1,d2,M1.out,rfl,D2.out,SF.out⟩
  ·have hltz:¬(k:Int)<24:=by omega
   have hE:=HE.out;rw[show 24-k=0 by omega]at hE;obtain⟨hr',he',hS⟩:0=r∧3=er∧Sc=S':=by
    cases hE;exact⟨rfl,rfl,rfl⟩
   subst hr' he' hS;clear hE HE;go_wp2;go_ret2;exact⟨Pc,dc,HM.out,rfl,HD.out,HS.out⟩
end
end
end Go.Proofs.YtceoeaemenhbhaaGreatDoor
namespace Go.Proofs.YtceoeaemenhbhaaGreatDoor
section
open Go.Shelf Go.RowKit Go.Lib Go.Sort Go.Maps
open N (Nd nd0 cA cQ dM iR fQ Sm cY En)
def Dr.wx (S:Dr)(x:TX):Dr:=⟨x,S.nodes,S.cnt,S.taken,S.spare,S.bot⟩
theorem k7 {room:Nat}:∀(l:List Int) {x:TX},x.Ok room->(aH x l).Ok room
 |[],x,h=>h
 |a::l,x,h=>k7 l (x:=x.drop a) (TX.A6 h a)
theorem mv (x:TX)(l:List Int)(a:Int):aH x (l++[a])=(aH x l).drop a:=by unfold aH;rw[List.foldl_append];rfl
theorem nJ {l:List Int}{k:Nat}(h:k<l.length):l.take (k+1)=l.take k++[l.getD k 0]:=tC h
section
variable {B:Nat}{w0 w w':World}{l:List aO}{P:List NV}{C:Cx}{S S':Dr}{d d1:Dk}
theorem DL.open (h:Sep B w0 w (DL C S d1 P l)):∃g m av cv bv bw,DY P S.nodes g∧Sep B w0 w (Tx C.t C.f S.x::File C.f C.b d1::kJ C::Pl P::aF C.q (lF C.tq m (.slice av S.taken.length cv) (.slice bv S.spare.length bw) S.bot)::cP m g S.cnt::aM 3 (.slice av S.taken.length cv) (S.taken.map (Value.int .i64))::aM 3 (.slice bv S.spare.length bw) (S.spare.map (Value.int .i64))::l):=by
 obtain⟨g,m,va,vb,hl,ho⟩:=Sep.il (Sep.pk [_,_,_,_] h);obtain⟨_,av,cv,rfl⟩:=Sep.ints (Sep.pk [_,_] ho);obtain⟨_,bv,bw,rfl⟩:=Sep.ints (Sep.pk [_,_,_] ho);exact⟨g,m,av,cv,bv,bw,hl,Sep.pb [_,_,_,_,_,_,_] (Sep.pb [_,_,_,_,_,_,_] (Sep.pb [_,_,_,_,_,_,_] (Sep.pb [_,_,_,_,_,_,_] ho)))⟩
theorem DL.shut {x:TX}{g:Gv}{m cv bw:Nat}{av bv:Option Addr}(hl:DY P S.nodes g)(h:Sep B w0 w (Tx C.t C.f x::File C.f C.b d1::kJ C::Pl P::aF C.q (lF C.tq m (.slice av S.taken.length cv) (.slice bv S.spare.length bw) S.bot)::cP m g S.cnt::aM 3 (.slice av S.taken.length cv) (S.taken.map (Value.int .i64))::aM 3 (.slice bv S.spare.length bw) (S.spare.map (Value.int .i64))::l)):Sep B w0 w (DL C (S.wx x) d1 P l):=
 Sep.pb [_,_,_,_] (Sep.nH (C:=C) (S:=S.wx x) hl (Sep.pk [_,_,_,_,_,_,_] (Sep.pk [_,_,_,_,_,_,_] (Sep.pk [_,_,_,_,_,_,_] (Sep.pk [_,_,_,_,_,_,_] h)))))
theorem QK {room:Nat}(h:Sep B w0 w (DL C S d1 P l))(ok:S.x.Ok room)(hr:room<=16384)(ht:S.taken.length<=100000)(hw:∀k∈S.taken,Wf k):
  Calls Tryz.prog 79 #[ptr C.q] w fun e w'=>e=.returned (.tuple #[])∧Sep B w0 w' (DL C (S.wx (aH S.x S.taken)) d1 P l):=by
 obtain⟨g,m,av,cv,bv,bw,hl,ho⟩:=DL.open h;have HO:Hid (Sep B w0 w (Tx C.t C.f S.x::File C.f C.b d1::kJ C::Pl P::aF C.q (lF C.tq m (.slice av S.taken.length cv) (.slice bv S.spare.length bw) S.bot)::cP m g S.cnt::aM 3 (.slice av S.taken.length cv) (S.taken.map (Value.int .i64))::aM 3 (.slice bv S.spare.length bw) (S.spare.map (Value.int .i64))::l)):=ho;have HL:Hid (DY P S.nodes g):=hl;have HW:Hid (∀k∈S.taken,Wf k):=hw;have HX:Hid (S.x.Ok room∧room<=16384∧S.taken.length<=100000):=⟨ok,hr,ht⟩;obtain⟨qs,⟨x0,x1,x2,x3,x4⟩,_⟩:=Sep.pD (Sep.pk [_,_,_,_] (ho));clear h hl ho hw ok hr ht;go_enter Tryz.func79,Tryz.ntmps79;go_wp2;clear x0 x1 x2 x3 x4 qs
 go_loopg [3,9] S.taken.length (fun kx s3 s9 wr=>∃(k:Nat),s9=.int .i64 (k:Int)∧k<=S.taken.length∧S.taken.length-k<=kx∧Hid (Sep B w0 wr (Tx C.t C.f (aH S.x (S.taken.take k))::File C.f C.b d1::kJ C::Pl P::aF C.q (lF C.tq m (.slice av S.taken.length cv) (.slice bv S.spare.length bw) S.bot)::cP m g S.cnt::aM 3 (.slice av S.taken.length cv) (S.taken.map (Value.int .i64))::aM 3 (.slice bv S.spare.length bw) (S.spare.map (Value.int .i64))::l)))
 case atStart=>exact⟨0,rfl,Nat.zero_le _,Nat.le_refl _,by show Sep _ _ _ _;exact HO.out⟩
 case round=>
  clear HO;obtain⟨k,rfl,hk,hkx,HS⟩:=hrel;by_cases hlt:k<S.taken.length
  ·have hltz:(k:Int)< (S.taken.length:Int):=by omega
   obtain⟨rr,ro,er,hrs,hrc⟩:=(Sep.ints (Sep.pk [_,_,_,_,_,_] (HS.out))).1.at hlt;subst er;have WK:Hid (Wf (S.taken.getD k 0)):=HW.out _ (dK hlt);have KD:Hid (∀u,Sep B w0 u (Tx C.t C.f (aH S.x (S.taken.take k))::File C.f C.b d1::kJ C::Pl P::aF C.q (lF C.tq m (.slice (some ⟨rr,ro,none⟩) S.taken.length cv) (.slice bv S.spare.length bw) S.bot)::cP m g S.cnt::aM 3 (.slice (some ⟨rr,ro,none⟩) S.taken.length cv) (S.taken.map (Value.int .i64))::aM 3 (.slice bv S.spare.length bw) (S.spare.map (Value.int .i64))::l)->Calls Tryz.prog 119 #[ptr C.t,.int .i64 (S.taken.getD k 0)] u fun e w'=>e=.returned (.tuple #[])∧Sep B w0 w' (Tx C.t C.f (aH S.x (S.taken.take (k+1)))::File C.f C.b d1::kJ C::Pl P::aF C.q (lF C.tq m (.slice (some ⟨rr,ro,none⟩) S.taken.length cv) (.slice bv S.spare.length bw) S.bot)::cP m g S.cnt::aM 3 (.slice (some ⟨rr,ro,none⟩) S.taken.length cv) (S.taken.map (Value.int .i64))::aM 3 (.slice bv S.spare.length bw) (S.spare.map (Value.int .i64))::l)):=fun u hu=>by
    have h1:=N5 (id:=S.taken.getD k 0) hu WK.out (by have h2:=(k7 (S.taken.take k) HX.out.1);have h3:=h2.len;have h4:=h2.pr;have h5:=HX.out.2;omega);rw[nJ hlt,mv];exact h1
   generalize S.taken.getD k 0=kid at*;obtain⟨qs,⟨x0,x1,x2,x3,x4⟩,_⟩:=Sep.pD (Sep.pk [_,_,_,_] (HS.out));obtain⟨ts,⟨t0,t1,t2⟩,_⟩:=Sep.vx (Sep.pk [_,_] (HS.out));have KX:Hid _:=KD.out _ HS.out;have wk:IntKind.i64.wrap ((k:Int)+1)=((k+1:Nat):Int):=by rw[bE (by omega) (by have:=HX.out;omega)];rfl
   clear HS KD
   go_wp2_with fail
   clear x0 x1 x2 x3 x4 t0 t1 t2 hrs hrc;refine Calls.mono KX.out ?_;rintro e v3 ⟨rfl,s3⟩;have SF:Hid _:=s3;clear KX s3;go_wp2
   all_goals go_roundg (S.taken.length- (k+1))
   case measure=>omega
   case rel=>exact⟨k+1,by go_num,by omega,Nat.le_refl _,SF⟩
  ·have hltz:¬(k:Int)< (S.taken.length:Int):=by omega
   obtain rfl:k=S.taken.length:=by omega
   have HS2:Hid (Sep B w0 wr (Tx C.t C.f (aH S.x S.taken)::File C.f C.b d1::kJ C::Pl P::aF C.q (lF C.tq m (.slice av S.taken.length cv) (.slice bv S.spare.length bw) S.bot)::cP m g S.cnt::aM 3 (.slice av S.taken.length cv) (S.taken.map (Value.int .i64))::aM 3 (.slice bv S.spare.length bw) (S.spare.map (Value.int .i64))::l)):=by
    have:=HS.out;rw[List.take_length]at this;exact this
   clear HS;go_wp2
   first|go_end0|refine bodyPost_ret (results_none rfl _ _ _) rfl ?_
   exact⟨rfl,DL.shut HL.out HS2.out⟩
theorem Eg {m n:Nat}{g:Gv}(h:Sep B w0 w (cP m g n::l))(hn:n<=1000000):
  Calls Tryz.prog 120 #[.map (some m)] w (fun e w'=>e=.returned (.func (.func 159) #[] #[.pointer (some ⟨w.heap.size,0,none⟩)])∧w'=w.alloc (.cells #[.map (some m)] 145))∧
  Calls Tryz.prog 76 #[.func (.func 159) #[] #[.pointer (some ⟨w.heap.size,0,none⟩)]] (w.alloc (.cells #[.map (some m)] 145)) (fun e w'=>∃(v:Value) (L:List Int),e=.returned v∧Fp g L∧L.length<=n∧w'.ownsRow w.heap.size 3 1 v L.length (L.map (Value.int .i64))∧Below w.heap.size w w'):=by
 obtain⟨D0,hown,BQ⟩:=h.qw;have hsz:=hown.size_le;have hbl:=hown.lt;have hseq:SeqGives Fence.wide 2 Tryz.prog 159 #[.pointer (some ⟨w.heap.size,0,none⟩)] encZ (fun ss=>ss.Perm (intKeys D0)) (Maps.size D0) (w.alloc (.cells #[.map (some m)] 145)):=
  AnyZI.keys_gives (ρ:=Tryz.ub) {Tryz.N7 with} Fence.wide _ trivial rfl (by omega) w.heap.size m n D0 _ (by simp) (by simp) (by
   obtain⟨es,clock,hb,Ft,hs,hD⟩:=hown
   exact⟨es,clock,(Below.heap_alloc _ _ m hbl).trans hb,Ft,hs,hD⟩)
 have cK:CallsIn Fence.wide 5 Tryz.prog 120 #[.map (some m)] w fun e w'=>e=.returned (.func (.func 159) #[] #[.pointer (some ⟨w.heap.size,0,none⟩)])∧w'=w.alloc (.cells #[.map (some m)] 145):=AnyZI.keys_in Tryz.N7 Fence.wide 5 trivial rfl (some m) w;have cS:=AnyZI.sorted_in Tryz.BP Fence.wide 5 trivial trivial trivial trivial rfl (by omega) (Hs _) (enters_of Tryz.func114 (by kernel_rfl) rfl) 159 #[.pointer (some ⟨w.heap.size,0,none⟩)] trivial (enters_of Tryz.func159 (by kernel_rfl) rfl) _ _ (Nat.le_trans hsz (Nat.le_trans hn (by decide))) (by omega) _ hseq;change CallsIn _ _ Tryz.prog 76 _ _ _ at cS;refine⟨callsIn_wide.1 cK,(callsIn_wide.1 cS).mono fun e w' hh=>?_⟩;obtain⟨v,ss,rfl,hS,hrow,hnil,hb⟩:=hh;have hk:=uB hown BQ hS;refine⟨v,ss.mergeSort (fun x y=>decide (x<=y)),rfl,hk.1,?_,?_,((Below.refl _ w).alloc (Nat.le_refl _) _).trans (hb.mono (by simp))⟩
 ·rw[List.length_mergeSort];exact hk.2
 ·rw[List.length_mergeSort];exact ownsRow_base_a hrow (by simp)
end
end
section
open Go.Shelf Go.RowKit Go.Lib Go.Sort Go.Maps
open N (Nd nd0 cA cQ dM iR fQ Sm cY En jq ia kX)
theorem rK (nodes:Int->Option Nd):∀(l:List Int) (x:TX) (a:Int),cH nodes x (l++[a])=((cH nodes x l).put a (jq ((nodes a).getD nd0)).toNat.toUInt8 (ia ((nodes a).getD nd0))).2
 |[],x,a=>rfl
 |b::l,x,a=>rK nodes l _ a
theorem Il (x:TX)(id:Int):(x.drop id).cnt=x.cnt:=by unfold TX.drop;split<;>rfl
theorem ou:∀(l:List Int) (x:TX),(aH x l).cnt=x.cnt
 |[],x=>rfl
 |a::l,x=>(ou l (x.drop a)).trans (Il x a)
theorem Mx (x:TX)(id:Int)(k:UInt8)(s:ByteArray):(x.put id k s).2.cnt<=x.cnt+1:=by
 unfold TX.put;split
 ·split
  ·exact Nat.le_succ _
  ·exact Nat.le_refl _
 ·exact Nat.le_succ _
theorem ug (nodes:Int->Option Nd):∀(l:List Int) (x:TX),(cH nodes x l).cnt<=x.cnt+l.length
 |[],x=>Nat.le_refl _
 |a::l,x=>by
  have h1:=ug nodes l (x.put a (jq ((nodes a).getD nd0)).toNat.toUInt8 (ia ((nodes a).getD nd0))).2;have h2:=Mx x a (jq ((nodes a).getD nd0)).toNat.toUInt8 (ia ((nodes a).getD nd0));simp only[List.length_cons];show(cH nodes _ l).cnt<=_;omega
theorem Im {n:Nd}:((jq n).toNat.toUInt8.toNat:Int)=jq n:=by
 unfold jq N.vZ;split
 ·split<;>rfl
 ·rfl
theorem my {n:Nd}(h:cA n=true):(ia n).size<=maxLen:=by
 unfold cA at h;simp only[Bool.and_eq_true,decide_eq_true_eq]at h;have:=(N.NY h.1 h.2).2.2.2;unfold maxLen;omega
theorem Sep.My {B:Nat}{w0 w w':World}{l:List aO}{e:TypeId}{v:Value}{cs:List Value}(h:Sep B w0 w l)(hb:Below w.heap.size w w')(o:w'.ownsRow w.heap.size e 1 v cs.length cs):Sep B w0 w' (aM e v cs::l):=
 h.add hb (good_row _ _ _) (X:=fun q=>v.ownBlock=some q) ⟨ownsRow_base_a o (Nat.zero_le _),fun _=>Iff.rfl⟩ (fun q hq=>by
  rcases o.2 with⟨e,_⟩| ⟨g,cap,cur,e,hg,_⟩
  ·rw[e]at hq;simp[Value.ownBlock]at hq
  ·rw[e]at hq;simp[Value.ownBlock]at hq;omega)
section
variable {B:Nat}{w0 w w':World}{l:List aO}{P:List NV}{C:Cx}{S S':Dr}{d d1:Dk}
theorem Mz {room:Nat}(h:Sep B w0 w (DL C S d1 P l))(I:DI S room)(hr:room<=16384)(ht:S.spare.length<=100000)(hw:∀k∈S.spare,Wf k)(hc:S.cnt<=100000)(hx:S.x.cnt+S.cnt<1000000)(hk:∀k,(S.nodes k).isSome=true->Wf k):
  Calls Tryz.prog 80 #[ptr C.q] w fun e w'=>e=.returned (.tuple #[])∧∃L,(L.Pairwise (· < ·)∧∀k,k∈L↔(S.nodes k).isSome=true)∧Sep B w0 w' (DL C (S.wx (cH S.nodes (aH S.x S.spare) L)) d1 P l):=by
 obtain⟨g,m,av,cv,bv,bw,hl,ho⟩:=DL.open h;have HO:Hid (Sep B w0 w (Tx C.t C.f S.x::File C.f C.b d1::kJ C::Pl P::aF C.q (lF C.tq m (.slice av S.taken.length cv) (.slice bv S.spare.length bw) S.bot)::cP m g S.cnt::aM 3 (.slice av S.taken.length cv) (S.taken.map (Value.int .i64))::aM 3 (.slice bv S.spare.length bw) (S.spare.map (Value.int .i64))::l)):=ho;have HL:Hid (DY P S.nodes g):=hl;have HW:Hid (∀k∈S.spare,Wf k):=hw;have HX:Hid (S.x.Ok room∧room<=16384∧S.spare.length<=100000):=⟨I.ok,hr,ht⟩;have HN:Hid (S.cnt<=100000∧S.x.cnt+S.cnt<1000000∧(∀k n,S.nodes k=some n->cA n=true)∧∀k,(S.nodes k).isSome=true->Wf k):=⟨hc,hx,I.ns,hk⟩;obtain⟨qs,⟨x0,x1,x2,x3,x4⟩,_⟩:=Sep.pD (Sep.kj (ho));clear h hl ho hw I hr ht hc hx hk;go_enter Tryz.func80,Tryz.ntmps80;go_wp2;clear x0 x1 x2 x3 x4 qs
 go_loopg [3,14] S.spare.length (fun kx s3 Wh wr=>∃(k:Nat),Wh=.int .i64 (k:Int)∧k<=S.spare.length∧S.spare.length-k<=kx∧Hid (Sep B w0 wr (Tx C.t C.f (aH S.x (S.spare.take k))::File C.f C.b d1::kJ C::Pl P::aF C.q (lF C.tq m (.slice av S.taken.length cv) (.slice bv S.spare.length bw) S.bot)::cP m g S.cnt::aM 3 (.slice av S.taken.length cv) (S.taken.map (Value.int .i64))::aM 3 (.slice bv S.spare.length bw) (S.spare.map (Value.int .i64))::l)))
 case atStart=>exact⟨0,rfl,Nat.zero_le _,Nat.le_refl _,by show Sep _ _ _ _;exact HO.out⟩
 case round=>
  clear HO;obtain⟨k,rfl,hk,hkx,HS⟩:=hrel;by_cases hlt:k<S.spare.length
  ·have hltz:(k:Int)< (S.spare.length:Int):=by omega
   obtain⟨rr,ro,er,hrs,hrc⟩:=(Sep.ints (Sep.eh (HS.out))).1.at hlt;subst er;have WK:Hid (Wf (S.spare.getD k 0)):=HW.out _ (dK hlt);have KD:Hid (∀u,Sep B w0 u (Tx C.t C.f (aH S.x (S.spare.take k))::File C.f C.b d1::kJ C::Pl P::aF C.q (lF C.tq m (.slice av S.taken.length cv) (.slice (some ⟨rr,ro,none⟩) S.spare.length bw) S.bot)::cP m g S.cnt::aM 3 (.slice av S.taken.length cv) (S.taken.map (Value.int .i64))::aM 3 (.slice (some ⟨rr,ro,none⟩) S.spare.length bw) (S.spare.map (Value.int .i64))::l)->Calls Tryz.prog 119 #[ptr C.t,.int .i64 (S.spare.getD k 0)] u fun e w'=>e=.returned (.tuple #[])∧Sep B w0 w' (Tx C.t C.f (aH S.x (S.spare.take (k+1)))::File C.f C.b d1::kJ C::Pl P::aF C.q (lF C.tq m (.slice av S.taken.length cv) (.slice (some ⟨rr,ro,none⟩) S.spare.length bw) S.bot)::cP m g S.cnt::aM 3 (.slice av S.taken.length cv) (S.taken.map (Value.int .i64))::aM 3 (.slice (some ⟨rr,ro,none⟩) S.spare.length bw) (S.spare.map (Value.int .i64))::l)):=fun u hu=>by
    have h1:=N5 (id:=S.spare.getD k 0) hu WK.out (by have h2:=(k7 (S.spare.take k) HX.out.1);have h3:=h2.len;have h4:=h2.pr;have h5:=HX.out.2;omega);rw[nJ hlt,mv];exact h1
   generalize S.spare.getD k 0=kid at*;obtain⟨qs,⟨x0,x1,x2,x3,x4⟩,_⟩:=Sep.pD (Sep.kj (HS.out));obtain⟨ts,⟨t0,t1,t2⟩,_⟩:=Sep.vx (Sep.sZ (HS.out));have KX:Hid _:=KD.out _ HS.out;have wk:IntKind.i64.wrap ((k:Int)+1)=((k+1:Nat):Int):=by rw[bE (by omega) (by have:=HX.out;omega)];rfl
   clear HS KD
   go_wp2_with fail
   clear x0 x1 x2 x3 x4 t0 t1 t2 hrs hrc;refine Calls.mono KX.out ?_;rintro e v3 ⟨rfl,s3⟩;have SF:Hid _:=s3;clear KX s3;go_wp2
   all_goals go_roundg (S.spare.length- (k+1))
   case measure=>omega
   case rel=>exact⟨k+1,by go_num,by omega,Nat.le_refl _,SF⟩
  ·have hltz:¬(k:Int)< (S.spare.length:Int):=by omega
   obtain rfl:k=S.spare.length:=by omega
   have HS2:Hid (Sep B w0 wr (Tx C.t C.f (aH S.x S.spare)::File C.f C.b d1::kJ C::Pl P::aF C.q (lF C.tq m (.slice av S.taken.length cv) (.slice bv S.spare.length bw) S.bot)::cP m g S.cnt::aM 3 (.slice av S.taken.length cv) (S.taken.map (Value.int .i64))::aM 3 (.slice bv S.spare.length bw) (S.spare.map (Value.int .i64))::l)):=by
    have:=HS.out;rw[List.take_length]at this;exact this
   clear HS;obtain⟨qs,⟨x0,x1,x2,x3,x4⟩,_⟩:=Sep.pD (Sep.kj (HS2.out));obtain⟨cK,cS⟩:=Eg (Sep.dH (HS2.out)) (by have:=HN.out;omega);have CK:Hid _:=cK;have CS:Hid _:=cS;clear cK cS;generalize wr=w1 at*
   go_wp2_with fail
   refine Calls.mono CK.out ?_;rintro e v2 ⟨rfl,rfl⟩;clear CK
   go_wp2_with fail
   refine Calls.mono CS.out ?_;rintro e v3 ⟨vL,L,rfl,YY,YZ,hrow,hb3⟩;have KL:Hid (Fp g L):=YY;have LL:Hid (L.length<=S.cnt):=YZ;obtain⟨la,lc,rfl⟩:∃la lc,vL=.slice la L.length lc:=by
    rcases hrow.2 with⟨e1,e2⟩| ⟨gg,cap,cur,e1,_⟩
    ·exact⟨none,0,by rw[e1,e2]⟩
    ·exact⟨_,_,e1⟩
   have S4:Hid (Sep B w0 v3 (Tx C.t C.f (cH S.nodes (aH S.x S.spare) (L.take 0))::File C.f C.b d1::kJ C::Pl P::aF C.q (lF C.tq m (.slice av S.taken.length cv) (.slice bv S.spare.length bw) S.bot)::cP m g S.cnt::aM 3 (.slice av S.taken.length cv) (S.taken.map (Value.int .i64))::aM 3 (.slice bv S.spare.length bw) (S.spare.map (Value.int .i64))::aM 3 (.slice la L.length lc) (L.map (Value.int .i64))::l)):=Sep.JI (Sep.My HS2.out hb3 (by simpa using hrow));clear CS YY YZ hrow hb3 HS2 x0 x1 x2 x3 x4 qs HW;go_wp2
   go_loopg [5,35] L.length (fun kx s5 s35 wr=>∃(k:Nat),s35=.int .i64 (k:Int)∧k<=L.length∧L.length-k<=kx∧Hid (Sep B w0 wr (Tx C.t C.f (cH S.nodes (aH S.x S.spare) (L.take k))::File C.f C.b d1::kJ C::Pl P::aF C.q (lF C.tq m (.slice av S.taken.length cv) (.slice bv S.spare.length bw) S.bot)::cP m g S.cnt::aM 3 (.slice av S.taken.length cv) (S.taken.map (Value.int .i64))::aM 3 (.slice bv S.spare.length bw) (S.spare.map (Value.int .i64))::aM 3 (.slice la L.length lc) (L.map (Value.int .i64))::l)))
   case atStart=>exact⟨0,rfl,Nat.zero_le _,Nat.le_refl _,S4.out⟩
   case round=>
    clear S4;obtain⟨k,rfl,hk,hkx,HS⟩:=hrel;by_cases hlt:k<L.length
    ·have hltz:(k:Int)< (L.length:Int):=by omega
     obtain⟨rr,ro,er,hrs,hrc⟩:=(Sep.ints (Sep.iI (HS.out))).1.at hlt;subst er;have hin:(g (L.getD k 0)).isSome=true:=(KL.out.2 _).1 (dK hlt);obtain⟨p,hp,Vr,Y0⟩:∃p∈P,S.nodes (L.getD k 0)=some p.n∧g (L.getD k 0)=some p.v:=by
      rcases HL.out (L.getD k 0)with⟨_,h2⟩|h2
      ·rw[h2]at hin;cases hin
      ·exact h2
     have WK:Hid (Wf (L.getD k 0)):=HN.out.2.2.2 _ (by rw[Vr];rfl);have FP:Hid (cA p.n=true):=HN.out.2.2.1 _ _ Vr;have hlk:=(Sep.dH (HS.out)).Pm WK.out;rw[Y0]at hlk;have hlk2:(Instr.lookup 145 (.map (some m)) (.int .i64 (L.getD k 0)) false).run Tryz.prog wr=.ok (.agg #[.bool p.n.leaf,.slice p.ae p.n.es.length p.ce,.slice p.ak p.n.ks.length p.ck,.slice p.az p.n.ss.length p.cz]) wr:=hlk;have KE:Hid _:=N.oh p.n _ _ _ wr (Sep.pool (Sep.wy (HS.out)) p hp) (fR FP.out).1;have KP:Hid (∀u,Sep B w0 u (Tx C.t C.f (cH S.nodes (aH S.x S.spare) (L.take k))::File C.f C.b d1::kJ C::Pl P::aF C.q (lF C.tq m (.slice av S.taken.length cv) (.slice bv S.spare.length bw) S.bot)::cP m g S.cnt::aM 3 (.slice av S.taken.length cv) (S.taken.map (Value.int .i64))::aM 3 (.slice bv S.spare.length bw) (S.spare.map (Value.int .i64))::aM 3 (.slice (some ⟨rr,ro,none⟩) L.length lc) (L.map (Value.int .i64))::l)->Calls Tryz.prog 121 #[ptr C.t,.int .i64 (L.getD k 0),.int .u8 (jq p.n),.string (ia p.n)] u fun e w'=>∃er,e=.returned (.int .i64 er)∧Sep B w0 w' (Tx C.t C.f (cH S.nodes (aH S.x S.spare) (L.take (k+1)))::File C.f C.b d1::kJ C::Pl P::aF C.q (lF C.tq m (.slice av S.taken.length cv) (.slice bv S.spare.length bw) S.bot)::cP m g S.cnt::aM 3 (.slice av S.taken.length cv) (S.taken.map (Value.int .i64))::aM 3 (.slice bv S.spare.length bw) (S.spare.map (Value.int .i64))::aM 3 (.slice (some ⟨rr,ro,none⟩) L.length lc) (L.map (Value.int .i64))::l)):=fun u hu=>by
      have h1:=WJ (id:=L.getD k 0) hu WK.out (jq p.n).toNat.toUInt8 (ia p.n) (my FP.out) (by
       have h2:=ug S.nodes (L.take k) (aH S.x S.spare)
       rw[ou]at h2
       have h3:=HN.out
       have h4:=LL.out
       have h5:(L.take k).length<=L.length:=by rw[List.length_take];omega
       omega)
      rw[Im]at h1;rw[nJ hlt,rK,Vr];exact h1.mono fun e w' ⟨h2,h3⟩=>⟨_,h2,h3⟩
     obtain⟨qs,⟨x0,x1,x2,x3,x4⟩,_⟩:=Sep.pD (Sep.kj (HS.out));have Uc:Hid (Sep B w0 wr (Tx C.t C.f (cH S.nodes (aH S.x S.spare) (L.take k))::File C.f C.b d1::kJ C::Pl P::aF C.q (lF C.tq m (.slice av S.taken.length cv) (.slice bv S.spare.length bw) S.bot)::cP m g S.cnt::aM 3 (.slice av S.taken.length cv) (S.taken.map (Value.int .i64))::aM 3 (.slice bv S.spare.length bw) (S.spare.map (Value.int .i64))::aM 3 (.slice (some ⟨rr,ro,none⟩) L.length lc) (L.map (Value.int .i64))::l)):=HS.out;generalize L.getD k 0=id at*;generalize jq p.n=ek at*;generalize ia p.n=es at*;generalize kX p.n=ee at*;have wk:IntKind.i64.wrap ((k:Int)+1)=((k+1:Nat):Int):=by rw[bE (by omega) (by have:=HN.out;have:=LL.out;omega)];rfl
     clear HS hlk Y0 Vr hin hp
     go_wp2_with fail
     clear x0 x1 x2 x3 x4 hrs hrc hlk2;refine Calls.mono KE.out ?_;rintro e v5 ⟨rfl,b5⟩;have S5:Hid _:=Uc.out.below b5;obtain⟨YI,⟨x0,x1,x2,x3,x4⟩,_⟩:=Sep.pD (Sep.kj ((Uc.out.below b5)));obtain⟨ts,⟨t0,t1,t2⟩,_⟩:=Sep.vx (Sep.sZ ((Uc.out.below b5)));have KX:Hid _:=KP.out _ (Uc.out.below b5);clear KE KP Uc b5 S5
     go_wp2_with fail
     clear x0 x1 x2 x3 x4 t0 t1 t2;refine Calls.mono KX.out ?_;rintro e v6 ⟨er,rfl,s6⟩;have SF:Hid _:=s6;clear KX s6;go_wp2
     all_goals go_roundg (L.length- (k+1))
     case measure=>omega
     case rel=>exact⟨k+1,by go_num,by omega,Nat.le_refl _,SF⟩
    ·have hltz:¬(k:Int)< (L.length:Int):=by omega
     obtain rfl:k=L.length:=by omega
     have HS3:Hid (Sep B w0 wr (Tx C.t C.f (cH S.nodes (aH S.x S.spare) L)::File C.f C.b d1::kJ C::Pl P::aF C.q (lF C.tq m (.slice av S.taken.length cv) (.slice bv S.spare.length bw) S.bot)::cP m g S.cnt::aM 3 (.slice av S.taken.length cv) (S.taken.map (Value.int .i64))::aM 3 (.slice bv S.spare.length bw) (S.spare.map (Value.int .i64))::l)):=by
      have:=Sep.drop (Sep.iI (HS.out));rw[List.take_length]at this;exact this
     have KM:Hid (L.Pairwise (· < ·)∧∀k,k∈L↔(S.nodes k).isSome=true):=by
      refine⟨KL.out.1,fun k=>(KL.out.2 k).trans ?_⟩;rcases HL.out k with⟨h1,h2⟩| ⟨p,_,h1,h2⟩
      ·rw[h1,h2];simp
      ·rw[h1,h2];simp
     clear HS KL;go_wp2
     first|go_end0|refine bodyPost_ret (results_none rfl _ _ _) rfl ?_
     exact⟨rfl,L,KM.out,DL.shut HL.out HS3.out⟩
end
end
end Go.Proofs.YtceoeaemenhbhaaGreatDoor
namespace Go.Proofs.YtceoeaemenhbhaaGreatDoor
open Go.Shelf Go.RowKit Go.Lib Go.Sort
section
open N (Nd nd0 cA cQ dM iR fQ Sm cY En)
def jS (st:pC)(room:Nat):Nat->Dr->Nd->NE
 |0,_,_=>none
 |f+1,S,top=>if bS top=false then none else if 1<top.ks.length then
   if S.bot< -1000∨1000<S.bot then none else
   match dX st room ⟨S.x,S.nodes,S.cnt,S.taken,S.spare,S.bot+1⟩ ⟨false,[],[0],[]⟩ 0 (-1) nd0 top with
   |none=>none
   |some ((m,e),S1)=>if e≠0 then some ((m,e),S1)else jS st room f S1 m
  else some ((top,0),S)
def jT (st:pC)(room:Nat)(d:Dk)(key:ByteArray)(ed:List En->List En)(root:Int)(S:Dr):Option ((Int×Int)×Dr):=
 match bn st room d key ed 30 S ⟨false,[],[root],[]⟩ (-1)with
 |none=>none
 |some ((top,ch,e),S1)=>if e≠0∨ch=false then some ((root,e),S1)else
  match jS st room 10 S1 top with
  |none=>none
  |some ((m,e2),S2)=>if e2≠0 then some ((0,e2),S2)else if m.ks.length=0 then some ((0,0),S2)else if S2.bot< -1000∨1000<S2.bot∨bS m=false then none else dB d 24 S2 (m.ks.getD 0 0) 0
section
variable {B:Nat}{w0 w w':World}{l:List aO}{P:List NV}{C:Cx}{S S':Dr}{d d1:Dk}{r er Nb:Int}{bZ:pC}{fn:Nat}{c1 c2:Value}{ed:List En->List En}{U U':aO}{key:ByteArray}{es0:List En}
theorem DL.one (h:Sep B w0 w (DL C S d P l))(x:Int):Sep B w0 (w.alloc (.cells #[.int .i64 x] 3)) (DL C S d ((⟨none,0,some ⟨w.heap.size,0,none⟩,1,none,0,⟨false,[],[x],[]⟩⟩:NV)::P) l):=by
 refine DL.add h ((Below.refl _ w).alloc (Nat.le_refl _) _) ⟨N.Own.nil,?_,N.Own.nil⟩;refine⟨_,1,rfl,Nat.le_refl _,(fun e=>by cases e),fun _=>⟨w.heap.size,0,rfl,Nat.le_refl _,by simp,fun t ht=>?_⟩⟩;have ht':t< [x].toArray.size*1:=by simpa using ht
 have h0:t=0:=by simp at ht';exact ht'
 subst h0;refine⟨?_,by simp⟩;rw[get_flatK _ _ _ _ ht',Nat.div_one,Nat.mod_one];simp[N.encI]
def GT (B:Nat)(w0:World)(C:Cx)(S':Dr)(d:Dk)(P:List NV)(l:List aO)(U U':aO)(r er:Int)(e:Ending)(w':World):Prop:=
 ∃P' d' V,(∀x∈P,x∈P')∧(V=U∨V=U')∧(er=0->V=U')∧e=.returned (.tuple #[.int .i64 r,.int .i64 er])∧bf d d'∧Sep B w0 w' (DL C S' d' P' (V::l))
theorem Ce:(∀(T:bW B w0) (hst:aV B w0 C d Nb bZ) (dU:∀ {S S':Dr} {n:Nd} {depth i tt:Int} {r:Nd×Int},DI S d.room->bZ S n depth i tt=some (r,S')->DI S' d.room) (eN:∀ {S9 S8:Dr} {n9:Nd} {i9 j9 k9:Int} {r9:Nd×Int},bZ S9 n9 i9 j9 k9=some (r9,S8)->bS n9=true) (rJ:mn B w0 C 44 c1 c2 ed es0 U U') (hlf:sF d key es0 30 S ⟨false,[],[C.root],[]⟩ (-1)) (hel:∀es,(ed es).length<=es.length+1) (hr:d.room<=16384) (hNb:Nb<=1000000) (hN0:29<=Nb) (hd:bf d d1) (h:Sep B w0 w (DL C S d1 P (U::l))) (I:DI S d.room) (he:jT bZ d.room d key ed C.root S=some ((r,er),S')),Calls Tryz.prog 78 #[ptr C.q,.string key,.func (.func 44) #[] #[c1,c2]] w (GT B w0 C S' d P l U U' r er))∧
  (∀(T:bW B w0) (hst:aV B w0 C d Nb bZ) (dU:∀ {S S':Dr} {n:Nd} {depth i tt:Int} {r:Nd×Int},DI S d.room->bZ S n depth i tt=some (r,S')->DI S' d.room) (eN:∀ {S9 S8:Dr} {n9:Nd} {i9 j9 k9:Int} {r9:Nd×Int},bZ S9 n9 i9 j9 k9=some (r9,S8)->bS n9=true) (rJ:mn B w0 C 46 c1 c2 ed es0 U U') (hlf:sF d key es0 30 S ⟨false,[],[C.root],[]⟩ (-1)) (hel:∀es,(ed es).length<=es.length+1) (hr:d.room<=16384) (hNb:Nb<=1000000) (hN0:29<=Nb) (hd:bf d d1) (h:Sep B w0 w (DL C S d1 P (U::l))) (I:DI S d.room) (he:jT bZ d.room d key ed C.root S=some ((r,er),S')),Calls Tryz.prog 78 #[ptr C.q,.string key,.func (.func 46) #[] #[c1,c2]] w (GT B w0 C S' d P l U U' r er)):=by
 refine⟨have iT:=trivial; ?_,have fc:=trivial; ?_⟩
 all_goals
  intro T hst dU eN rJ hlf hel hr hNb hN0 hd h I he;have Sr:Hid _:=DL.one h C.root;obtain⟨mm,va,vb,qs,⟨x0,x1,x2,x3,x4⟩,_⟩:=DL.pD h;obtain⟨ts,⟨t0,t1,t2⟩,_⟩:=Sep.vx (Sep.pk [_,_] (h));have HD:Hid (bf d d1):=hd;have HI:Hid (DI S d.room):=I;have HT:Hid (aV B w0 C d Nb bZ):=hst;have Ua:Hid (∀(S S':Dr) (n:Nd) (depth i tt:Int) (r:Nd×Int),DI S d.room->bZ S n depth i tt=some (r,S')->DI S' d.room):=fun _ _ _ _ _ _ _ h1 h2=>dU h1 h2;have Xg:Hid (∀(S9 S8:Dr) (n9:Nd) (i9 j9 k9:Int) (r9:Nd×Int),bZ S9 n9 i9 j9 k9=some (r9,S8)->bS n9=true):=fun _ _ _ _ _ _ _ h=>eN h;have HX:Hid (d.room<=16384∧Nb<=1000000∧29<=Nb):=⟨hr,hNb,hN0⟩;have hE:=he;unfold jT at hE;cases hcd:bn bZ d.room d key ed 30 S ⟨false,[],[C.root],[]⟩ (-1)with
  |none=>
   rw[hcd]at hE;cases hE
  |some rr=>
  obtain⟨⟨top,c9,e9⟩,S9⟩:=rr;rw[hcd]at hE;simp only at hE;have I9:Hid (DI S9 d.room):=DI.changed (fun h1 h2=>dU h1 h2) 30 I hcd
  first
   |have zz:=iT
    have KC:Hid (Calls Tryz.prog 116 #[ptr C.q,.agg #[.bool false,.slice none 0 0,.slice (some ⟨w.heap.size,0,none⟩) 1 1,.slice none 0 0],.int .i64 (-1),.string key,.func (.func 44) #[] #[c1,c2]] (w.alloc (.cells #[.int .i64 C.root] 3)) (GC B w0 C S9 d ((⟨none,0,some ⟨w.heap.size,0,none⟩,1,none,0,⟨false,[],[C.root],[]⟩⟩:NV)::P) l U U' top c9 e9)):=mo T hst (fun h1 h2=>dU h1 h2) (fun h=>eN h) rJ hel hr hNb 30 (p:=(⟨none,0,some ⟨w.heap.size,0,none⟩,1,none,0,⟨false,[],[C.root],[]⟩⟩:NV)) (by omega) (by omega) Sr.out hd List.mem_cons_self I hlf hcd
   |have KC:Hid (Calls Tryz.prog 116 #[ptr C.q,.agg #[.bool false,.slice none 0 0,.slice (some ⟨w.heap.size,0,none⟩) 1 1,.slice none 0 0],.int .i64 (-1),.string key,.func (.func 46) #[] #[c1,c2]] (w.alloc (.cells #[.int .i64 C.root] 3)) (GC B w0 C S9 d ((⟨none,0,some ⟨w.heap.size,0,none⟩,1,none,0,⟨false,[],[C.root],[]⟩⟩:NV)::P) l U U' top c9 e9)):=mq T hst (fun h1 h2=>dU h1 h2) (fun h=>eN h) rJ hel hr hNb 30 (p:=(⟨none,0,some ⟨w.heap.size,0,none⟩,1,none,0,⟨false,[],[C.root],[]⟩⟩:NV)) (by omega) (by omega) Sr.out hd List.mem_cons_self I hlf hcd
  have hE':Hid ((if e9≠0∨c9=false then some ((C.root,e9),S9)else match jS bZ d.room 10 S9 top with|none=>none|some ((m,e2),S2)=>if e2≠0 then some ((0,e2),S2)else if m.ks.length=0 then some ((0,0),S2)else if S2.bot< -1000∨1000<S2.bot∨bS m=false then none else dB d 24 S2 (m.ks.getD 0 0) 0)=some ((r,er),S')):=hE;clear hlf h hd I he hE hcd hst dU eN rJ hel hr hNb hN0;go_enter Tryz.func78,Tryz.ntmps78
  go_wp2_with fail
  clear x0 x1 x2 x3 x4 t0 t1 t2 qs ts Sr;refine Calls.mono KC.out ?_;rintro e v2 ⟨pt,P1,d2,V,hn,hm,hs,hV,Oe,rfl,hd2,s2⟩;subst hn;have D2:Hid (bf d d2):=hd2;have M1:Hid (∀x∈P,x∈P1):=fun x hx=>hs x (List.mem_cons_of_mem _ hx);have MT:Hid (pt∈P1):=hm;have HV:Hid ((V=U∨V=U')∧(e9=0->V=U')):=⟨hV,Oe⟩;clear KC hd2 hs hm hV Oe;by_cases h9:e9≠0∨c9=false
  ·have hE:=hE'.out;rw[if_pos h9]at hE;obtain⟨hr',he',hS⟩:C.root=r∧e9=er∧S9=S':=by
    cases hE;exact⟨rfl,rfl,rfl⟩
   have HRR:Hid (C.root=r):=hr';subst he' hS;have SF:Hid (Sep B w0 (v2.alloc (.cells (cN pt) 74)) (DL C S9 d2 P1 (V::l))):=s2.alloc _;obtain⟨mm,va,vb,qs,⟨x0,x1,x2,x3,x4⟩,_⟩:=DL.pD s2;obtain⟨ts,⟨t0,t1,t2⟩,_⟩:=Sep.vx (Sep.pk [_,_] (s2));rw[hr']at t1;clear s2 hE hE' hr';by_cases h8:e9≠0
   ·have hne:(e9 != 0)=true:=bne_iff_ne.2 h8;clear h8 h9;go_wp2;go_ret2;exact⟨P1,d2,V,M1.out,HV.out.1,HV.out.2,rfl,D2.out,SF.out⟩
   ·have QI:e9=0:=by simpa using h8
    have QJ:c9=false:=by
     rcases h9 with h|h
     ·exact absurd h h8
     ·exact h
    subst QI QJ;have wA:Hid (V=U'):=HV.out.2 rfl;clear h8 h9 HV;go_wp2;go_ret2;exact⟨P1,d2,V,M1.out,.inr wA.out,fun _=>wA.out,rfl,D2.out,SF.out⟩
  ·have QI:e9=0:=by
    by_cases h:e9=0
    ·exact h
    ·exact absurd (.inl h) h9
   have QJ:c9=true:=by
    cases hc:c9
    ·exact absurd (.inr hc) h9
    ·rfl
   subst QI QJ;have wA:Hid (V=U'):=HV.out.2 rfl;have hE:=hE'.out;rw[if_neg h9]at hE;have HE:Hid ((match jS bZ d.room 10 S9 pt.n with|none=>none|some ((m,e2),S2)=>if e2≠0 then some ((0,e2),S2)else if m.ks.length=0 then some ((0,0),S2)else if S2.bot< -1000∨1000<S2.bot∨bS m=false then none else dB d 24 S2 (m.ks.getD 0 0) 0)=some ((r,er),S')):=hE;have S3:Hid (Sep B w0 (v2.alloc (.cells (cN pt) 74)) (DL C S9 d2 P1 (V::aF v2.heap.size (.cells (cN pt) 74)::l))):=Sep.pb [_,_,_,_,_,_] (s2.aP _);clear s2 hE hE' h9 HV;go_wp2;generalize World.alloc _ _=v3 at*;generalize v2.heap.size=q8 at*
   go_loopg [10] 10 (fun kx s10 wr=>∃(f:Nat) (Sc:Dr) (pc:NV) (Pc:List NV) (dc:Dk),f<=kx∧Hid ((match jS bZ d.room f Sc pc.n with|none=>none|some ((m,e2),S2)=>if e2≠0 then some ((0,e2),S2)else if m.ks.length=0 then some ((0,0),S2)else if S2.bot< -1000∨1000<S2.bot∨bS m=false then none else dB d 24 S2 (m.ks.getD 0 0) 0)=some ((r,er),S'))∧Hid (DI Sc d.room)∧Hid (pc∈Pc∧∀x∈P,x∈Pc)∧Hid (bf d dc)∧Hid (Sep B w0 wr (DL C Sc dc Pc (V::aF q8 (.cells (cN pc) 74)::l))))
   case atStart=>exact⟨10,S9,pt,P1,d2,Nat.le_refl _,HE.out,I9.out,⟨MT.out,M1.out⟩,D2.out,S3.out⟩
   case round=>
    clear S3 D2 MT M1 I9 HE;obtain⟨f,Sc,pc,Pc,dc,hfk,HE,IC,ot,HD2,HS⟩:=hrel;cases f with
    |zero=>
     have:=HE.out;cases this
    |succ f=>
    have hE:=HE.out;unfold jS at hE;by_cases hsm:bS pc.n=false
    ·rw[if_pos hsm]at hE;cases hE
    rw[if_neg hsm]at hE;have SMC:Hid (bS pc.n=true):=by show _=true;simpa using hsm
    clear hsm HE;obtain⟨_,⟨y0,y1,y2,y3⟩,g0,g1,g2,g3⟩:=Sep.c4 (Sep.pk [_,_,_,_,_,_] (HS.out));by_cases hks:1<pc.n.ks.length
    ·rw[if_pos hks]at hE;have Xi:(1:Int)< (pc.n.ks.length:Int):=by omega
     by_cases hb:Sc.bot< -1000∨1000<Sc.bot
     ·rw[if_pos hb]at hE;cases hE
     rw[if_neg hb]at hE;cases hpl:dX bZ d.room ⟨Sc.x,Sc.nodes,Sc.cnt,Sc.taken,Sc.spare,Sc.bot+1⟩ ⟨false,[],[0],[]⟩ 0 (-1) nd0 pc.n with
     |none=>
      rw[hpl]at hE;cases hE
     |some rr=>
     obtain⟨⟨m1,e1⟩,S1⟩:=rr;rw[hpl]at hE;have IP:Hid (DI S1 d.room):=DI.place (bZ:=bZ) (S:=⟨Sc.x,Sc.nodes,Sc.cnt,Sc.taken,Sc.spare,Sc.bot+1⟩) (fun h1 h2=>Ua.out _ _ _ _ _ _ _ h1 h2) ⟨IC.out.ok,IC.out.sz,IC.out.ns⟩ hpl;obtain⟨mm,va,vb,qs,⟨x0,x1,x2,x3,x4⟩,xf,_⟩:=DL.pD HS.out;have f4:=xf 4;have wb:IntKind.i64.wrap (Sc.bot+1)=Sc.bot+1:=bE (by omega) (by omega);have S5:Hid (Sep B w0 ((wr.setCell ⟨C.q,4,none⟩ (.int .i64 (Sc.bot+1))).alloc (.cells #[.int .i64 0] 3)) (DL C ⟨Sc.x,Sc.nodes,Sc.cnt,Sc.taken,Sc.spare,Sc.bot+1⟩ dc (pZ::(⟨none,0,some ⟨wr.heap.size,0,none⟩,1,none,0,⟨false,[],[0],[]⟩⟩:NV)::Pc) (V::aF q8 (.cells (cN pc) 74)::l))):=by
      have h1:=DL.zero (DL.one (Sep.Am HS.out (Sc.bot+1)) 0);rw[show(wr.setCell ⟨C.q,4,none⟩ (.int .i64 (Sc.bot+1))).heap.size=wr.heap.size by simp]at h1;exact h1
     have KP:Hid (Calls Tryz.prog 117 #[ptr C.q,.agg #[.bool false,.slice none 0 0,.slice (some ⟨wr.heap.size,0,none⟩) 1 1,.slice none 0 0],.int .i64 0,.int .i64 (-1),.agg cZ,.agg (cN pc)] ((wr.setCell ⟨C.q,4,none⟩ (.int .i64 (Sc.bot+1))).alloc (.cells #[.int .i64 0] 3)) fun e w'=>∃pm P' d',pm.n=m1∧pm∈P'∧(∀x∈pZ::(⟨none,0,some ⟨wr.heap.size,0,none⟩,1,none,0,⟨false,[],[0],[]⟩⟩:NV)::Pc,x∈P')∧e=.returned (.tuple #[.agg (cN pm),.int .i64 e1])∧bf d d'∧Sep B w0 w' (DL C S1 d' P' (V::aF q8 (.cells (cN pc) 74)::l))):=Cc (p:=(⟨none,0,some ⟨wr.heap.size,0,none⟩,1,none,0,⟨false,[],[0],[]⟩⟩:NV)) (pw:=pZ) (pi:=pc) T HT.out (fun h1 h2=>Ua.out _ _ _ _ _ _ _ h1 h2) HD2.out S5.out (List.mem_cons_of_mem _ List.mem_cons_self) List.mem_cons_self (List.mem_cons_of_mem _ (List.mem_cons_of_mem _ ot.out.1)) ⟨IC.out.ok,IC.out.sz,IC.out.ns⟩ HX.out.1 (by omega) (by have:=HX.out;omega) HX.out.2.1 (fun h=>Xg.out _ _ _ _ _ _ _ h) hpl;have hE2:Hid ((match(if e1≠0 then some ((m1,e1),S1)else jS bZ d.room f S1 m1)with|none=>none|some ((m,e2),S2)=>if e2≠0 then some ((0,e2),S2)else if m.ks.length=0 then some ((0,0),S2)else if S2.bot< -1000∨1000<S2.bot∨bS m=false then none else dB d 24 S2 (m.ks.getD 0 0) 0)=some ((r,er),S')):=hE;obtain⟨_,⟨z0,z1,z2,z3⟩,_⟩:=Sep.c4 (Sep.pk [_,_,_,_,_,_] ((Sep.Am HS.out (Sc.bot+1))));clear hE hpl xf HS hb
     go_wp2_with fail
     clear y0 y1 y2 y3 z0 z1 z2 z3 x0 x1 x2 x3 x4 f4 wb qs g0 g1 g2 g3;refine Calls.mono KP.out ?_;rintro e v5 ⟨pm,P4,d4,Xh,Ub,hs4,rfl,hd4,s5⟩;subst Xh;have D4:Hid (bf d d4):=hd4;have M4:Hid (∀x∈P,x∈P4):=fun x hx=>hs4 x (List.mem_cons_of_mem _ (List.mem_cons_of_mem _ (ot.out.2 x hx)));have MM:Hid (pm∈P4):=Ub;obtain⟨_,⟨y0,y1,y2,y3⟩,g0,g1,g2,g3⟩:=Sep.c4 (Sep.pk [_,_,_,_,_,_] (s5));have SF:Hid (Sep B w0 ((((v5.setCell ⟨q8,0,none⟩ (.bool pm.n.leaf)).setCell ⟨q8,1,none⟩ (.slice pm.ae pm.n.es.length pm.ce)).setCell ⟨q8,2,none⟩ (.slice pm.ak pm.n.ks.length pm.ck)).setCell ⟨q8,3,none⟩ (.slice pm.az pm.n.ss.length pm.cz)) (DL C S1 d4 P4 (V::aF q8 (.cells (cN pm) 74)::l))):=Sep.pb [_,_,_,_,_,_] (Sep.s4 (Sep.pk [_,_,_,_,_,_] (s5)) _ _ _ _);clear s5 hd4 hs4 Ub KP S5 HD2 ot;by_cases he1:e1≠0
     ·have hE:=hE2.out;rw[if_pos he1]at hE;simp only[ne_eq,he1,not_false_eq_true,if_true]at hE;obtain⟨hr',he',hS⟩:0=r∧e1=er∧S1=S':=by
       cases hE;exact⟨rfl,rfl,rfl⟩
      subst hr' he' hS;have hne:(e1 != 0)=true:=bne_iff_ne.2 he1;have EG:Hid (e1≠0):=he1;clear hE hE2 he1;go_wp2;go_ret2;exact⟨P4,d4,V,M4.out,.inr wA.out,fun _=>wA.out,rfl,D4.out,Sep.drop (Sep.pk [_,_,_,_,_,_] (SF.out))⟩
     ·have hE:=hE2.out;rw[if_neg he1]at hE;have e10:e1=0:=by simpa using he1
      subst e10;have T8:Hid ((match jS bZ d.room f S1 pm.n with|none=>none|some ((m,e2),S2)=>if e2≠0 then some ((0,e2),S2)else if m.ks.length=0 then some ((0,0),S2)else if S2.bot< -1000∨1000<S2.bot∨bS m=false then none else dB d 24 S2 (m.ks.getD 0 0) 0)=some ((r,er),S')):=hE;clear hE hE2 he1;go_wp2
      all_goals go_roundg f
      case measure=>omega
      case rel=>exact⟨f,S1,pm,P4,d4,Nat.le_refl _,T8.out,IP.out,⟨MM.out,M4.out⟩,D4.out,SF.out⟩
    ·rw[if_neg hks]at hE;simp only[ne_eq,not_true_eq_false,if_false]at hE;have Xi:¬(1:Int)< (pc.n.ks.length:Int):=by omega
     by_cases hk0:pc.n.ks.length=0
     ·rw[if_pos hk0]at hE;obtain⟨hr',he',hS⟩:0=r∧0=er∧Sc=S':=by
       cases hE;exact⟨rfl,rfl,rfl⟩
      subst hr' he' hS;have h0I:((pc.n.ks.length:Int)==0)=true:=by rw[hk0];rfl
      have SF:Hid (Sep B w0 wr (DL C Sc dc Pc (V::l))):=Sep.drop (Sep.pk [_,_,_,_,_,_] (HS.out));clear hE hk0 hks HS;go_wp2;go_ret2;exact⟨Pc,dc,V,ot.out.2,.inr wA.out,fun _=>wA.out,rfl,HD2.out,SF.out⟩
     ·rw[if_neg hk0]at hE;by_cases hb:Sc.bot< -1000∨1000<Sc.bot∨bS pc.n=false
      ·rw[if_pos hb]at hE;cases hE
      rw[if_neg hb]at hE;have WK:Hid (Wf (pc.n.ks.getD 0 0)):=(eH SMC.out).2.2.2.2 _ (dK (by omega));have KL:Hid _:=Ik (id:=pc.n.ks.getD 0 0) T HD2.out HS.out IC.out HX.out.1 WK.out (by omega) (by omega) hE;have h0I:((pc.n.ks.length:Int)==0)=false:=beq_eq_false_iff_ne.2 (by omega);have hlp:(0:Int)< (pc.n.ks.length:Int):=by omega
      have hpos:0<pc.n.ks.length:=by omega
      obtain⟨ae,ce,ak,ck,az,cz,n⟩:=pc;simp only at*;obtain⟨rr,ro,hak,hrs,hrc⟩:=NV.kid (p:=(⟨ae,ce,ak,ck,az,cz,n⟩:NV)) (DL.nd HS.out ot.out.1) (i:=0) hpos;simp only at hak hrc;subst hak;rw[Nat.add_zero]at hrc;generalize n.ks.getD 0 0=kid at*;clear hE hb hk0 hks HS
      go_wp2_with fail
      refine Calls.mono KL.out ?_;rintro e v5 ⟨P5,d5,hs5,rfl,hd5,s5⟩;have SF:Hid (Sep B w0 v5 (DL C S' d5 P5 (V::l))):=Sep.drop (Sep.pk [_,_,_,_,_,_] (s5));have M5:Hid (∀x∈P,x∈P5):=fun x hx=>hs5 x (ot.out.2 x hx);have D5:Hid (bf d d5):=hd5;clear s5 hs5 hd5 KL ot;go_wp2;go_ret2;exact⟨P5,d5,V,M5.out,.inr wA.out,fun _=>wA.out,rfl,D5.out,SF.out⟩
end
end
section
open N (Nd nd0 cA cQ dM iR fQ Sm cY En)
theorem QL (w:World):(Instr.makeMap 145 none).run Tryz.prog w=.ok (.map (some w.heap.size)) (w.alloc (.map #[] 0)):=by kernel_rfl
def Cx.EI (C:Cx)(q:Nat):Cx:=⟨q,C.tq,C.t,C.f,C.b,C.root,C.err⟩
def Cx.eI (C:Cx)(r:Int):Cx:=⟨C.q,C.tq,C.t,C.f,C.b,r,C.err⟩
def Cx.yi (C:Cx)(e:Int):Cx:=⟨C.q,C.tq,C.t,C.f,C.b,C.root,e⟩
structure Fin (S:Dr):Prop where
 tl:S.taken.length<=100000
 tw:∀k∈S.taken,Wf k
 sl:S.spare.length<=100000
 sw:∀k∈S.spare,Wf k
 cn:S.cnt<=100000
 xc:S.x.cnt+S.cnt<1000000
 kw:∀k,(S.nodes k).isSome=true->Wf k
section
variable {B:Nat}{w0 w w':World}{l:List aO}{P:List NV}{C:Cx}{S S':Dr}{x:TX}{d d1:Dk}{r er Nb:Int}{bZ:pC}{c1 c2:Value}{ed:List En->List En}{U U':aO}{key:ByteArray}{es0:List En}
theorem TL.draft (h:Sep B w0 w (TL C x d1 P l)):Sep B w0 ((w.alloc (.map #[] 0)).alloc (.cells #[ptr C.tq,.map (some w.heap.size),.slice none 0 0,.slice none 0 0,.int .i64 0] 147)) (DL (C.EI (w.heap.size+1)) (eR x) d1 P l):=by
 have h1:=Sep.aR (Sep.AZ h) (.cells #[ptr C.tq,.map (some w.heap.size),.slice none 0 0,.slice none 0 0,.int .i64 0] 147) (w.heap.size+1) (by simp);have h2:Sep B w0 ((w.alloc (.map #[] 0)).alloc (.cells #[ptr C.tq,.map (some w.heap.size),.slice none 0 0,.slice none 0 0,.int .i64 0] 147)) (aF (w.heap.size+1) (lF C.tq w.heap.size (.slice none 0 0) (.slice none 0 0) 0)::cP w.heap.size (fun _=>none) 0::aM 3 (.slice none 0 0) []::aM 3 (.slice none 0 0) []::TL C x d1 P l):=Sep.pb [_,_] (Sep.qo (Sep.pb [_,_] (Sep.qo h1 3)) 3);have h3:=Sep.nH (C:=(C.EI (w.heap.size+1))) (S:=eR x) (P:=P) (g:=fun _=>none) (fun k=>.inl ⟨rfl,rfl⟩) h2;exact Sep.pb [_,_,_,_] h3
theorem Sep.QM (h:Sep B w0 w (TL C x d1 P l))(r:Int):Sep B w0 (w.setCell ⟨C.tq,1,none⟩ (.int .i64 r)) (TL (C.eI r) x d1 P l):=Sep.pb [_,_] (Sep.kZ (x:=.int .i64 r) (Sep.pk [_,_] h) 1)
theorem Sep.Ud (h:Sep B w0 w (TL C x d1 P l))(e:Int):Sep B w0 (w.setCell ⟨C.tq,2,none⟩ (.int .i64 e)) (TL (C.yi e) x d1 P l):=Sep.pb [_,_] (Sep.kZ (x:=.int .i64 e) (Sep.pk [_,_] h) 2)
def GH (B:Nat)(w0:World)(C:Cx)(S:Dr)(d:Dk)(P:List NV)(l:List aO)(U U':aO)(r er:Int)(e:Ending)(w':World):Prop:=
 e=.returned (.int .i64 er)∧∃P' d' V,(∀x∈P,x∈P')∧(V=U∨V=U')∧(er=0->V=U')∧bf d d'∧
  ((er≠0∧Sep B w0 w' (TL (C.yi er) (aH S.x S.taken) d' P' (V::l)))∨(er=0∧∃L,(L.Pairwise (· < ·)∧∀k,k∈L↔(S.nodes k).isSome=true)∧Sep B w0 w' (TL (C.eI r) (cH S.nodes (aH S.x S.spare) L) d' P' (V::l))))
theorem uh:(∀(T:bW B w0) (hst:∀C:Cx,aV B w0 C d Nb bZ) (dU:∀ {S S':Dr} {n:Nd} {depth i tt:Int} {r:Nd×Int},DI S d.room->bZ S n depth i tt=some (r,S')->DI S' d.room) (eN:∀ {S9 S8:Dr} {n9:Nd} {i9 j9 k9:Int} {r9:Nd×Int},bZ S9 n9 i9 j9 k9=some (r9,S8)->bS n9=true) (rJ:∀C:Cx,mn B w0 C 44 c1 c2 ed es0 U U') (hlf:sF d key es0 30 (eR x) ⟨false,[],[C.root],[]⟩ (-1)) (hel:∀es,(ed es).length<=es.length+1) (hr:d.room<=16384) (hNb:Nb<=1000000) (hN0:29<=Nb) (hd:bf d d1) (h:Sep B w0 w (TL C x d1 P (U::l))) (I:DI (eR x) d.room) (JK:DI S' d.room) (hF:Fin S') (he:jT bZ d.room d key ed C.root (eR x)=some ((r,er),S')),Calls Tryz.prog 43 #[ptr C.tq,.string key,.func (.func 44) #[] #[c1,c2]] w (GH B w0 C S' d P l U U' r er))∧
  (∀(T:bW B w0) (hst:∀C:Cx,aV B w0 C d Nb bZ) (dU:∀ {S S':Dr} {n:Nd} {depth i tt:Int} {r:Nd×Int},DI S d.room->bZ S n depth i tt=some (r,S')->DI S' d.room) (eN:∀ {S9 S8:Dr} {n9:Nd} {i9 j9 k9:Int} {r9:Nd×Int},bZ S9 n9 i9 j9 k9=some (r9,S8)->bS n9=true) (rJ:∀C:Cx,mn B w0 C 46 c1 c2 ed es0 U U') (hlf:sF d key es0 30 (eR x) ⟨false,[],[C.root],[]⟩ (-1)) (hel:∀es,(ed es).length<=es.length+1) (hr:d.room<=16384) (hNb:Nb<=1000000) (hN0:29<=Nb) (hd:bf d d1) (h:Sep B w0 w (TL C x d1 P (U::l))) (I:DI (eR x) d.room) (JK:DI S' d.room) (hF:Fin S') (he:jT bZ d.room d key ed C.root (eR x)=some ((r,er),S')),Calls Tryz.prog 43 #[ptr C.tq,.string key,.func (.func 46) #[] #[c1,c2]] w (GH B w0 C S' d P l U U' r er)):=by
 refine⟨have iT:=trivial; ?_,have fc:=trivial; ?_⟩
 all_goals
  intro T hst dU eN rJ hlf hel hr hNb hN0 hd h I JK hF he;have S1:Hid (Sep B w0 ((w.alloc (.map #[] 0)).alloc (.cells #[ptr C.tq,.map (some w.heap.size),.slice none 0 0,.slice none 0 0,.int .i64 0] 147)) (DL (C.EI (w.heap.size+1)) (eR x) d1 P (U::l))):=TL.draft h
  first
   |have zz:=iT
    have KR:Hid (Calls Tryz.prog 78 #[ptr (w.heap.size+1),.string key,.func (.func 44) #[] #[c1,c2]] ((w.alloc (.map #[] 0)).alloc (.cells #[ptr C.tq,.map (some w.heap.size),.slice none 0 0,.slice none 0 0,.int .i64 0] 147)) (GT B w0 (C.EI (w.heap.size+1)) S' d P l U U' r er)):=Ce.1 T (hst _) (fun h1 h2=>dU h1 h2) (fun h=>eN h) (rJ _) hlf hel hr hNb hN0 hd S1.out I he
   |have KR:Hid (Calls Tryz.prog 78 #[ptr (w.heap.size+1),.string key,.func (.func 46) #[] #[c1,c2]] ((w.alloc (.map #[] 0)).alloc (.cells #[ptr C.tq,.map (some w.heap.size),.slice none 0 0,.slice none 0 0,.int .i64 0] 147)) (GT B w0 (C.EI (w.heap.size+1)) S' d P l U U' r er)):=Ce.2 T (hst _) (fun h1 h2=>dU h1 h2) (fun h=>eN h) (rJ _) hlf hel hr hNb hN0 hd S1.out I he
  have IS:Hid (DI S' d.room):=JK;have HF:Hid (Fin S'):=hF;have HX:Hid (d.room<=16384):=hr;clear hlf h hd I he hst dU eN rJ hel hr hNb hN0 S1 JK hF;have hmk:=QL w;go_enter Tryz.func43,Tryz.ntmps43
  go_wp2_with fail
  clear hmk;generalize(w.alloc (.map #[] 0)).alloc (.cells #[ptr C.tq,.map (some w.heap.size),.slice none 0 0,.slice none 0 0,.int .i64 0] 147)=v1 at*;generalize w.heap.size+1=q at*;refine Calls.mono KR.out ?_;rintro e v2 ⟨P1,d2,V,hs,hV,Oe,rfl,hd2,s2⟩;have HV:Hid ((V=U∨V=U')∧(er=0->V=U')):=⟨hV,Oe⟩;have M1:Hid (∀x∈P,x∈P1):=hs;have D2:Hid (bf d d2):=hd2;have S2:Hid (Sep B w0 v2 (DL (C.EI q) S' d2 P1 (V::l))):=s2;clear KR hs hV Oe hd2 s2;by_cases e0:er≠0
  ·have hne:(er != 0)=true:=bne_iff_ne.2 e0;have JJ:Hid (er≠0):=e0;have KU:Hid (Calls Tryz.prog 79 #[ptr q] v2 fun e w'=>e=.returned (.tuple #[])∧Sep B w0 w' (DL (C.EI q) (S'.wx (aH S'.x S'.taken)) d2 P1 (V::l))):=QK (room:=d.room) S2.out IS.out.ok HX.out HF.out.tl HF.out.tw;clear e0 S2
   go_wp2_with fail
   refine Calls.mono KU.out ?_;rintro e v3 ⟨rfl,s3⟩;have S3:Hid (Sep B w0 v3 (TL (C.EI q) (aH S'.x S'.taken) d2 P1 (V::l))):=Sep.drop (Sep.pk [_,_,_,_] (s3));obtain⟨ts,⟨t0,t1,t2⟩,tf⟩:=Sep.vx (Sep.pk [_,_] (S3.out));have f2:=tf 2;have ts':C.tq<v3.heap.size:=ts;have t2':v3.cell? ⟨C.tq,2,none⟩=some (.int .i64 C.err):=t2;have f2':v3.frozen? ⟨C.tq,2,none⟩=false:=f2;have SF:Hid (Sep B w0 (v3.setCell ⟨C.tq,2,none⟩ (.int .i64 er)) (TL (C.yi er) (aH S'.x S'.taken) d2 P1 (V::l))):=Sep.Ud (C:=C.EI q) S3.out er;clear KU s3 S3 tf f2 t0 t1 t2 ts;go_wp2;go_ret;exact⟨rfl,P1,d2,V,M1.out,HV.out.1,HV.out.2,D2.out,.inl ⟨JJ.out,SF.out⟩⟩
  ·have ez:er=0:=by simpa using e0
   subst ez;have wA:Hid (V=U'):=HV.out.2 rfl;have KW:Hid (Calls Tryz.prog 80 #[ptr q] v2 fun e w'=>e=.returned (.tuple #[])∧∃L,(L.Pairwise (· < ·)∧∀k,k∈L↔(S'.nodes k).isSome=true)∧Sep B w0 w' (DL (C.EI q) (S'.wx (cH S'.nodes (aH S'.x S'.spare) L)) d2 P1 (V::l))):=Mz (room:=d.room) S2.out IS.out HX.out HF.out.sl HF.out.sw HF.out.cn HF.out.xc HF.out.kw;clear e0 S2 HV
   go_wp2_with fail
   refine Calls.mono KW.out ?_;rintro e v3 ⟨rfl,L,hL,s3⟩;have HL:Hid (L.Pairwise (· < ·)∧∀k,k∈L↔(S'.nodes k).isSome=true):=hL;have S3:Hid (Sep B w0 v3 (TL (C.EI q) (cH S'.nodes (aH S'.x S'.spare) L) d2 P1 (V::l))):=Sep.drop (Sep.pk [_,_,_,_] (s3));obtain⟨ts,⟨t0,t1,t2⟩,tf⟩:=Sep.vx (Sep.pk [_,_] (S3.out));have f1:=tf 1;have ts':C.tq<v3.heap.size:=ts;have t1':v3.cell? ⟨C.tq,1,none⟩=some (.int .i64 C.root):=t1;have f1':v3.frozen? ⟨C.tq,1,none⟩=false:=f1;have SF:Hid (Sep B w0 (v3.setCell ⟨C.tq,1,none⟩ (.int .i64 r)) (TL (C.eI r) (cH S'.nodes (aH S'.x S'.spare) L) d2 P1 (V::l))):=Sep.QM (C:=C.EI q) S3.out r;clear KW s3 S3 tf f1 t0 t1 t2 ts hL;go_wp2;go_ret;exact⟨rfl,P1,d2,V,M1.out,.inr wA.out,fun _=>wA.out,D2.out,.inr ⟨rfl,L,HL.out,SF.out⟩⟩
end
end
end Go.Proofs.YtceoeaemenhbhaaGreatDoor
