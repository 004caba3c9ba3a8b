/- Walks of the package cowtree and of what it stands on: lemmas, made short. -/
import Derived.Test.YtcenfooehjcddaaGreatDoorR11
import Derived.Test.YtcenfooehjcddaaGreatDoorR10
set_option maxHeartbeats 16000000
set_option maxRecDepth 100000
set_option linter.unusedVariables false
set_option linter.unusedSimpArgs false
namespace Go.Proofs.YtcenfooehjcddaaGreatDoor
open Go.Shelf Go.RowKit Go.Lib Go.Sort
section
open N (Nd nd0 cF dF dZ jo gG Sm sA sB sM aL bc hidR ar ai Ch aP ah waits)
section
variable {B:Nat}{w0 w w':World}{l:List aM}{v:Value}{ids:List Int}{ss:List ByteArray}
theorem Sep.NI (h:Sep B w0 w (aR 3 v (ids.map (Value.int .i64))::l)):Row N.encI 1 w v ids:=by
 have o:=h.row;rcases o.2 with⟨h1,h2⟩| ⟨g,cap,cur,h1,h2,h3,h4,h5,h6,h7⟩
 ·have hl:ids=[]:=by simpa using h2
  subst hl;exact⟨none,0,h1,Nat.le_refl _,fun _=>rfl,fun h=>absurd rfl h⟩
 ·refine⟨_,cap,by simpa using h1,by simpa using h4,(fun e=>by cases e),fun hne=>⟨g,0,rfl,(Array.getElem?_eq_some_iff.1 h3).1,fun t ht=>?_⟩⟩;have ht':t<ids.length:=by simpa using ht
  have hs:t<ids.toArray.size*1:=by simpa using ht'
  rw[get_flatK _ _ _ _ hs,Nat.div_one,Nat.mod_one];obtain⟨r',c',e',_,_,hc,_⟩:=h.cell (j:=t) (by simpa using ht');rw[h1]at e';cases e';rw[Nat.zero_add,hc];simp[N.encI,ht']
theorem Sep.Jp (h:Sep B w0 w (aR 9 v (ss.map Value.string)::l)):Row N.encS 1 w v ss:=by
 have o:=h.row;rcases o.2 with⟨h1,h2⟩| ⟨g,cap,cur,h1,h2,h3,h4,h5,h6,h7⟩
 ·have hl:ss=[]:=by simpa using h2
  subst hl;exact⟨none,0,h1,Nat.le_refl _,fun _=>rfl,fun h=>absurd rfl h⟩
 ·refine⟨_,cap,by simpa using h1,by simpa using h4,(fun e=>by cases e),fun hne=>⟨g,0,rfl,(Array.getElem?_eq_some_iff.1 h3).1,fun t ht=>?_⟩⟩;have ht':t<ss.length:=by simpa using ht
  have hs:t<ss.toArray.size*1:=by simpa using ht'
  rw[get_flatK _ _ _ _ hs,Nat.div_one,Nat.mod_one];obtain⟨r',c',e',_,_,hc,_⟩:=h.cell (j:=t) (by simpa using ht');rw[h1]at e';cases e';rw[Nat.zero_add,hc];simp[N.encS,ht']
end
theorem Pn {cq:qV}{S S':Dr}{n:Nd}{depth:Int}{parts:List Nd}{keys:List ByteArray}{er:Int}(he:bY cq S n depth=some ((parts,keys,er),S')):parts.length<=2∧keys.length<=1:=by
 unfold bY at he
 repeat' split at he
 all_goals first
  |(cases he;done)
  |(cases he;simp)
  |skip
theorem Au {P:Program}{ops:Array Oper}{Q:Exit->Act->World->Prop}{id:Nat}{a:Act}{w:World}(L:Nat)(J:List Bool->Act->World->Prop)(hm:P.follows .mixedOrders=true)(ho:N.ahead .any ops=true)
  (h0:J (List.replicate ops.size false) a w.drew)
  (hL:∀f a w,f.length=ops.size->J f a w->L∈Region.ready .any ops f.toArray->f.set L true=List.replicate ops.size true)
  (hstep:∀i f a w,i≠L->f.length=ops.size->J f a w->i∈Region.ready .any ops f.toArray->wpOp P ops Q i (fun a' w'=>J (f.set i true) a' w') a w)
  (hlast:∀f a w,f.length=ops.size->J f a w->L∈Region.ready .any ops f.toArray->wpOp P ops Q L (fun a' w'=>Q .normal a' w') a w)
  (hJ:∀f a w,J f a w->f.getD L true=false):(Code.region id ops true).wp P Q a w:=by
 refine wp_region_any hm ?_;have key:=N.vE (P:=P) (Q:=Q) (md:=.any) ho (fun f a w=>J f a w∨(f=List.replicate ops.size true∧Q .normal a w)) (fun i f a w hl hj hi=>?_) (fun a w hj=>?_) ops.size (List.replicate ops.size false) a w.drew (by simp) (by simp) (Or.inl h0)
 ·simpa using key
 ·rcases hj with hj| ⟨rfl,_⟩
  ·by_cases c:i=L
   ·subst c;exact wpOp_mono (fun a' w' h'=>Or.inr ⟨hL f a w hl hj hi,h'⟩) (hlast f a w hl hj hi)
   ·exact wpOp_mono (fun a' w' h'=>Or.inl h') (hstep i f a w c hl hj hi)
  ·exfalso;obtain⟨h1,h2,_⟩:=aP hi;simp[Array.getD]at h2
 ·rcases hj with hj| ⟨_,hj⟩
  ·exfalso;have:=hJ _ _ _ hj;rw[List.getD_eq_getElem?_getD,List.getElem?_replicate]at this;split at this<;>simp at this
  ·exact hj
theorem mn {P:Program}{ops:Array Oper}{Q:Exit->Act->World->Prop}{id:Nat}{a:Act}{w:World}(L:Nat)(K:(List Bool->Act->Prop)->World->Prop)(hm:P.follows .mixedOrders=true)(ho:N.ahead .any ops=true)(h0:Ch K (List.replicate ops.size false) a w.drew)
  (hL:∀w,K (fun f _=>L∈Region.ready .any ops f.toArray->f.set L true=List.replicate ops.size true) w)
  (hstep:∀i w,i≠L->K (fun f a=>i∈Region.ready .any ops f.toArray->wpOp P ops Q i (fun a' w'=>Ch K (f.set i true) a' w') a w) w)
  (hlast:∀w,K (fun f a=>L∈Region.ready .any ops f.toArray->wpOp P ops Q L (fun a' w'=>Q .normal a' w') a w) w)
  (hJ:∀w,K (fun f _=>f.getD L true=false) w):(Code.region id ops true).wp P Q a w:=
 Au L (Ch K) hm ho h0 (fun _ _ w _ hj=>hj _ (hL w)) (fun i _ _ w hne _ hj=>hj _ (hstep i w hne)) (fun _ _ w _ hj=>hj _ (hlast w)) (fun _ _ w hj=>hj _ (hJ w))
theorem Po {cq:qV}{S S':Dr}{n:Nd}{depth:Int}{keys:List ByteArray}(he:bY cq S n depth=some (([],keys,0),S')):keys=[]∧S'=S:=by
 unfold bY at he
 repeat' split at he
 all_goals first
  |(cases he;done)
  |(cases he;exact⟨rfl,rfl⟩)
  |skip
 all_goals (cases he;exact absurd rfl (by assumption))
def J18 (B:Nat)(w0:World)(CC:Cx)(S:Dr)(d:Dk)(P:List NV)(L:List aM)(q1 q2 g cp zi zw:Nat)(VI VW:Value){y0 y1 y2 y3 y4 y5 y6 y7 y8 y9 tG y13 qi qj tH xD xE y20 y21 y22 y23 y24 y25 zV y27 y28 y29 zW y31 y32 xI y34 uO uP xJ y38 y39 zX zY zZ z6 FV FW FX FY FZ F3 BM BN BO BP BQ BR Jx NT NU NY NZ N0 Te Tf Oc Od Oe Og Oh Oi Oj Ol Om Oo Oq Ot Tb Tc Td N5 y90 y91 N6 y93 Jy y95 y96 WH y98 y99 Tu y101 y102 Tv y104 Tw Ty Tz:Value}(C:List Bool->Act->Prop)(w:World):Prop:=∀{f0 f1 f2 f3 f4 f5 f6 f7 f8 f9:Bool}{L9 Ma Mb BS x80 x81 x82 x83 x84 x85:Value},f9=false->Sep B w0 w (DL CC S d P L)->Hid (f0=true->L9=.slice (some ⟨g,0,none⟩) 1 cp)->Hid (f1=true->f0=true∧Ma=.int .i64 1)->Hid (f2=true->f1=true∧Mb=.bool true)->Hid (f3=true->f2=true∧BS=.bool true)->Hid (f4=true->f3=true∧x80=VI)->Hid (f5=true->f4=true∧x81=.int .i64 (zi:Int))->Hid (f6=true->f3=true∧x82=VW)->Hid (f7=true->f6=true∧x83=.int .i64 (zw:Int))->Hid (f8=true->f5=true∧f7=true∧x84=.bool (decide (zw<=zi)))->C [f0,f1,f2,f3,f4,f5,f6,f7,f8,f9] {tmps:=#[y0,y1,y2,y3,y4,y5,y6,y7,y8,y9,.pointer (some ⟨q1,0,none⟩),.pointer (some ⟨q2,0,none⟩),tG,y13,.slice (some ⟨g,0,none⟩) 1 cp,qi,qj,tH,xD,xE,y20,y21,y22,y23,y24,y25,zV,y27,y28,y29,zW,y31,y32,xI,y34,uO,uP,xJ,y38,y39,zX,zY,zZ,z6,FV,FW,FX,FY,FZ,F3,BM,BN,BO,BP,BQ,BR,Jx,NT,NU,NY,NZ,N0,Te,Tf,Oc,Od,Oe,Og,Oh,Oi,Oj,Ol,Om,Oo,Oq,Ot,L9,Ma,Mb,BS,x80,x81,x82,x83,x84,x85,Tb,Tc,Td,N5,y90,y91,N6,y93,Jy,y95,y96,WH,y98,y99,Tu,y101,y102,Tv,y104,Tw,Ty,Tz],defers:=[]}
section
variable {B:Nat}{w0 w w':World}{l:List aM}{P:List NV}{C:Cx}{S S':Dr}{d d1:Dk}{depth:Int}{ae ak az:Option Addr}{ce ck cz:Nat}{n m:Nd}{pw pi:NV}{er Nb:Int}{cq:qV}
theorem Pp {t:Nat}{parts:List Nd}{keys:List ByteArray}{Hc:Int}{Sf:Dr}(T:bW B w0)(hst:aW B w0 C d Nb cq)(dY:∀ {S S':Dr} {n:Nd} {depth i tt:Int} {r:Nd×Int},DI S d.room->cq S n depth i tt=some (r,S')->DI S' d.room)(hd:bH d d1)(h:Sep B w0 w (DL C S d1 P l))(hp:(⟨ae,ce,ak,ck,az,cz,n⟩:NV)∈P)(hpw:pw∈P)(hpi:pi∈P)(hsm:cB n=true)(hsw:cB pw.n=true)(I:DI S d.room)(hr:d.room<=16384)(hd0:-1<=depth)(hd1:depth+1<=Nb)(hNb:Nb<=1000000)(hok:S.okB=true)(fc:∀ {S9 S8:Dr} {n9:Nd} {i9 j9 k9:Int} {r9:Nd×Int},cq S9 n9 i9 j9 k9=some (r9,S8)->cB n9=true)(ht:t<n.ks.length)(hf:bY cq S pi.n (depth+1)=some ((parts,keys,Hc),Sf))(hzi:cB pi.n=true∨parts.length≠1)(he:(if Hc≠0 then some ((nd0,Hc),Sf)else match eQ d.room (if parts=[]then Sf.drop (n.ks.getD t 0)else Sf) (n.ks.getD t 0) parts []with|none=>none|some ((kids,e2),S2)=>if e2≠0 then some ((nd0,e2),S2)else if parts.length=1∧dZ pw.n<=dZ pi.n then cq S2 (gG n t ((t:Int)+1) kids keys) depth t ((t:Int)+1)else cq S2 (gG n t ((t:Int)+1) kids keys) depth ((t:Int)-1) ((t:Int)+kids.length+1))=some ((m,er),S')):Calls Tryz.prog 91 #[ptr C.q,.agg #[.bool n.leaf,.slice ae n.es.length ce,.slice ak n.ks.length ck,.slice az n.ss.length cz],.int .i64 (t:Int),.int .i64 depth,.agg (cN pw),.agg (cN pi)] w (GD B w0 C S' d P l m er):=by
 obtain⟨WN,hkl,hel,hsl,hks⟩:=fe hsm;obtain⟨r,ro,hak,_⟩:=NV.kid (p:=(⟨ae,ce,ak,ck,az,cz,n⟩:NV)) (DL.nd h hp) (i:=t) ht;simp only at hak;subst hak;have S1:Hid (Sep B w0 ((((w.alloc (.cells #[.bool n.leaf,.slice ae n.es.length ce,.slice (some ⟨r,ro,none⟩) n.ks.length ck,.slice az n.ss.length cz] 170)).alloc (.cells (cN pw) 170)).alloc (.cells (cN pi) 170)).alloc (.cells cZ 170)) (DL C S d1 P (aF w.heap.size (.cells #[.bool n.leaf,.slice ae n.es.length ce,.slice (some ⟨r,ro,none⟩) n.ks.length ck,.slice az n.ss.length cz] 170)::aF (w.heap.size+1) (.cells (cN pw) 170)::aF (w.heap.size+2) (.cells (cN pi) 170)::aF (w.heap.size+3) (.cells cZ 170)::l))):=Sep.Mc (Sep.aZ (Sep.yD (Sep.aZ (Sep.oW (Sep.aZ (Sep.ur (h.aO _)) _ _ (by simp))) _ _ (by simp))) _ _ (by simp));have w1:IntKind.i64.wrap (depth+1)=depth+1:=bM (by omega) (by omega);have hil:(t:Int)< (n.ks.length:Int):=by omega
 have KF:Hid _:=Gr (p:=pi) (depth:=depth+1) T hst hd S1.out hpi I hr (by omega) hd1 hf;have IF:Hid (DI Sf d.room):=DI.fitting dY I hf;have FL:Hid _:=Pn hf;have HP:Hid ((⟨ae,ce,some ⟨r,ro,none⟩,ck,az,cz,n⟩:NV)∈P):=hp;have HPw:Hid (pw∈P):=hpw;have HPi:Hid (pi∈P):=hpi;have HX:Hid (d.room<=16384∧-1<=depth∧depth+1<=Nb∧Sm n∧t<n.ks.length∧cB pw.n=true∧cB n=true∧∀k∈n.ks,Wf k):=⟨hr,hd0,hd1,WN,ht,hsw,hsm,hks⟩;have HT:Hid (aW B w0 C d Nb cq):=hst;have WO:Hid (∀(S S':Dr) (n:Nd) (depth i tt:Int) (r:Nd×Int),DI S d.room->cq S n depth i tt=some (r,S')->DI S' d.room):=fun _ _ _ _ _ _ _ h1 h2=>dY h1 h2;have HNb:Hid (Nb<=1000000):=hNb;have ZZ:Hid (S.okB=true):=hok;have HF:Hid (bY cq S pi.n (depth+1)=some ((parts,keys,Hc),Sf)):=hf;have xU:∀ {S9 S8:Dr} {n9:Nd} {i9 j9 k9:Int} {r9:Nd×Int},cq S9 n9 i9 j9 k9=some (r9,S8)->cB n9=true:=fc;have HZI:Hid (cB pi.n=true∨parts.length≠1):=hzi;have HE:Hid ((if Hc≠0 then some ((nd0,Hc),Sf)else match eQ d.room (if parts=[]then Sf.drop (n.ks.getD t 0)else Sf) (n.ks.getD t 0) parts []with
   |none=>none
   |some ((kids,e2),S2)=>if e2≠0 then some ((nd0,e2),S2)
    else if parts.length=1∧dZ pw.n<=dZ pi.n then cq S2 (gG n t ((t:Int)+1) kids keys) depth t ((t:Int)+1)else cq S2 (gG n t ((t:Int)+1) kids keys) depth ((t:Int)-1) ((t:Int)+kids.length+1))=some ((m,er),S')):=he
 clear hok fc h hd hp hpw hpi I he hst dY hr hsm hsw WN hks hd0 hd1 ht hel hsl hf hNb hzi;go_enter Tryz.func91,Tryz.ntmps91
 go_wp2_with fail
 generalize World.alloc _ _=v1 at*;generalize w.heap.size+3=q3 at*;generalize w.heap.size+2=q2 at*;generalize w.heap.size+1=q1 at*;generalize w.heap.size=q0 at*;refine Calls.mono KF.out ?_;rintro e v2 ⟨ao,ay,cp,ny,cy,ps,P1,d2,hps,hmp,hs1,rfl,hd2,s2⟩;have D2:Hid (bH d d2):=hd2;have M1:Hid (∀x∈P,x∈P1):=hs1;have MP:Hid (∀x∈ps,x∈P1):=hmp;have NP:Hid (ps.map NV.n=parts):=hps;have S2:Hid (Sep B w0 v2 (DL C Sf d2 P1 (RowK 170 4 (.slice ao ps.length cp) ps.length (ps.flatMap fp)::aR 9 (.slice ay ny cy) (keys.map Value.string)::aF q0 (.cells #[.bool n.leaf,.slice ae n.es.length ce,.slice (some ⟨r,ro,none⟩) n.ks.length ck,.slice az n.ss.length cz] 170)::aF q1 (.cells (cN pw) 170)::aF q2 (.cells (cN pi) 170)::aF q3 (.cells cZ 170)::l))):=s2;clear s2 hd2 hs1 hmp hps KF S1;by_cases he0:Hc≠0
 ·have hE:=HE.out;rw[if_pos he0]at hE;obtain⟨hm,hr',hS⟩:nd0=m∧Hc=er∧Sf=S':=by
   cases hE;exact⟨rfl,rfl,rfl⟩
  subst hm hr' hS;have hne:(Hc != 0)=true:=bne_iff_ne.2 he0;clear hE HE he0;obtain⟨_,⟨c0,c1,c2,c3⟩,g0,g1,g2,g3⟩:=Sep.c4 (Sep.e8 (S2.out));have SF:Hid (Sep B w0 ((((v2.setCell ⟨q3,0,none⟩ (.bool false)).setCell ⟨q3,1,none⟩ (.slice none 0 0)).setCell ⟨q3,2,none⟩ (.slice none 0 0)).setCell ⟨q3,3,none⟩ (.slice none 0 0)) _):=Sep.Cm (Sep.s4 (Sep.e8 (S2.out)) _ _ _ _);clear S2;go_wp2
  (try simp only[Exit.inBlock,Exit.then])
  generalize World.setCell _ _ _=vf at*;clear c0 c1 c2 c3 g0 g1 g2 g3;obtain⟨_,⟨c0,c1,c2,c3⟩,g0,g1,g2,g3⟩:=Sep.c4 (Sep.e8 (SF.out));refine bodyPost_ret (v:=.tuple #[.agg cZ,.int .i64 Hc]) ?_ rfl ⟨pZ,pZ::P1,d2,rfl,List.mem_cons_self,fun x hx=>List.mem_cons_of_mem _ (M1.out x hx),rfl,D2.out,DL.zero (Sep.drop (Sep.dS (Sep.drop (Sep.cX (Sep.drop (Sep.eH (Sep.drop (Sep.je (Sep.drop (Sep.qw (Sep.drop (Sep.e8 (SF.out)))))))))))))⟩;rw[aL rfl];go_simp
 ·have e00:Hc=0:=by simpa using he0
  subst e00;have hE:=HE.out;rw[if_neg he0]at hE;obtain⟨r',ro',hak,hrs,hrc⟩:=NV.kid (p:=(⟨ae,ce,some ⟨r,ro,none⟩,ck,az,cz,n⟩:NV)) (DL.nd S2.out (M1.out _ HP.out)) (i:=t) HX.out.2.2.2.2.1;cases hak;simp only at hrc;have WK:Hid (Wf (n.ks.getD t 0)):=HX.out.2.2.2.2.2.2.2 _ (dR HX.out.2.2.2.2.1);generalize xT:n.ks.getD t 0=kid at*;obtain⟨_,⟨c0,c1,c2,c3⟩,_⟩:=Sep.c4 (Sep.eH (S2.out));have Z4:Hid _:=M1.out _ HP.out;clear he0 HE;have hl2:ps.length<=2:=by
   have h1:=FL.out.1;rw[<-NP.out]at h1;simpa using h1
  match ps,hl2 with
  |[],_=>
   have hp0:=NP.out;subst hp0;simp only[List.map_nil,if_true,eQ]at hE;have hk0:keys=[]∧Sf=S:=Po HF.out;have hOK:Sf.okB=true:=by rw[hk0.2];exact ZZ.out
   have S3:Hid _:=S2.out;have KD:Hid _:=xQ S3.out WK.out hOK;have IS:Hid (DI (Sf.drop kid) d.room):=IF.out.drop kid;generalize Sf.drop kid=Sd at*;clear S2 hk0 hOK;rw[if_neg (by simp),if_neg (by simp)]at hE
   go_wp2_with fail
   clear c0 c1 c2 c3 hrs hrc;refine Calls.mono KD.out ?_;rintro e v3 ⟨rfl,s3⟩;have S4:Hid (Sep B w0 v3 (DL C Sd d2 P1 (RowK 170 4 (.slice ao 0 cp) 0 ([])::aR 9 (.slice ay ny cy) (keys.map Value.string)::aF q0 (.cells #[.bool n.leaf,.slice ae n.es.length ce,.slice (some ⟨r,ro,none⟩) n.ks.length ck,.slice az n.ss.length cz] 170)::aF q1 (.cells (cN pw) 170)::aF q2 (.cells (cN pi) 170)::aF q3 (.cells cZ 170)::l))):=s3;clear s3 KD S3;go_wp2;refine wp_loop_rounds 2 ?_;rw[rounds_succ];have KW:Hid _:=rf (p:=(⟨ae,ce,some ⟨r,ro,none⟩,ck,az,cz,n⟩:NV)) S4.out Z4.out HX.out.2.2.2.1 (t:Int) ((t:Int)+1) [] keys (.slice none 0 0) (.slice ay ny cy) N.xn (Sep.Jp (Sep.cX (S4.out))) (by simp) (by have:=FL.out;omega);have wt1:IntKind.i64.wrap ((t:Int)+1)=(t:Int)+1:=bM (by omega) (by omega);obtain⟨_,⟨c0,c1,c2,c3⟩,_⟩:=Sep.c4 (Sep.eH (S4.out))
   go_wp2_with fail
   clear c0 c1 c2 c3;refine Calls.mono KW.out ?_;rintro e u1 ⟨pn,hnn,rfl,s1⟩;have NN:Hid (pn.n=gG n t ((t:Int)+1) [] keys):=hnn;obtain⟨_,⟨c0,c1,c2,c3⟩,g0,g1,g2,g3⟩:=Sep.c4 (Sep.eH (s1));have T1:Hid (Sep B w0 ((((u1.setCell ⟨q0,0,none⟩ (.bool pn.n.leaf)).setCell ⟨q0,1,none⟩ (.slice pn.ae pn.n.es.length pn.ce)).setCell ⟨q0,2,none⟩ (.slice pn.ak pn.n.ks.length pn.ck)).setCell ⟨q0,3,none⟩ (.slice pn.az pn.n.ss.length pn.cz)) _):=Sep.yD (Sep.s4 (Sep.eH (s1)) _ _ _ _);clear s1 hnn KW S4
   go_wp2_with fail
   generalize World.setCell _ _ _=u2 at*;clear c0 c1 c2 c3 g0 g1 g2 g3;have T2:Hid _:=Sep.drew T1.out;clear T1
   go_region
   generalize u2.drew=u3 at*;have hlen:((([]:List Int).length:Nat):Int)=0:=rfl;rw[hlen,Int.add_zero]at hE;cases hst:cq Sd pn.n depth ((t:Int)-1) ((t:Int)+1)with
   |none=>
    rw[<-NN.out,hst]at hE;cases hE
   |some rr=>
   obtain⟨⟨m1,e1⟩,S9⟩:=rr;rw[<-NN.out,hst]at hE;obtain⟨hm,hr',hS⟩:m1=m∧e1=er∧S9=S':=by
    cases hE;exact⟨rfl,rfl,rfl⟩
   subst hm hr' hS;have TM:Hid (cB pn.n=true):=by
    show _=true;exact xU hst
   have KS:Hid (Calls Tryz.prog 124 #[ptr C.q,.agg (cN pn),.int .i64 depth,.int .i64 ((t:Int)-1),.int .i64 ((t:Int)+1)] u3 fun e w'=>∃pm P4 d4,pm.n=m1∧pm∈P4∧(∀x∈pn::P1,x∈P4)∧e=.returned (.tuple #[.agg (cN pm),.int .i64 e1])∧bH d d4∧Sep B w0 w' (DL C S9 d4 P4 (RowK 170 4 (.slice ao 0 cp) 0 ([])::aR 9 (.slice ay ny cy) (keys.map Value.string)::aF q0 (.cells (cN pn) 170)::aF q1 (.cells (cN pw) 170)::aF q2 (.cells (cN pi) 170)::aF q3 (.cells cZ 170)::l))):=HT.out T2.out D2.out List.mem_cons_self TM.out IS.out HX.out.2.1 (by have:=HX.out;omega) (by omega) (by have:=HX.out;omega) (by omega) (by have:=HX.out;omega) hst;have TN:IntKind.i64.wrap ((t:Int)-1)=(t:Int)-1:=bM (by omega) (by omega);have TP:IntKind.i64.wrap ((t:Int)+0)=(t:Int)+0:=bM (by omega) (by omega);have TQ:IntKind.i64.wrap ((t:Int)+0+1)=(t:Int)+0+1:=bM (by omega) (by omega);have TR:IntKind.i64.wrap (t:Int)=(t:Int):=bM (by omega) (by omega);obtain⟨_,⟨c0,c1,c2,c3⟩,_⟩:=Sep.c4 (Sep.eH (T2.out));clear hst hE
   go_wp2_with fail
   clear c0 c1 c2 c3 TN TP TQ TR;refine Calls.mono KS.out ?_;rintro e u9 ⟨pm,P4,d4,hnm,hmm,hs4,rfl,hd4,s9⟩;subst hnm;have D4:Hid (bH d d4):=hd4;have M4:Hid (∀x∈P,x∈P4):=fun x hx=>hs4 x (List.mem_cons_of_mem _ (M1.out x hx));have MM:Hid (pm∈P4):=hmm;obtain⟨_,⟨c0,c1,c2,c3⟩,g0,g1,g2,g3⟩:=Sep.c4 (Sep.e8 (s9));have SF:Hid (Sep B w0 ((((u9.setCell ⟨q3,0,none⟩ (.bool pm.n.leaf)).setCell ⟨q3,1,none⟩ (.slice pm.ae pm.n.es.length pm.ce)).setCell ⟨q3,2,none⟩ (.slice pm.ak pm.n.ks.length pm.ck)).setCell ⟨q3,3,none⟩ (.slice pm.az pm.n.ss.length pm.cz)) _):=Sep.Cm (Sep.s4 (Sep.e8 (s9)) _ _ _ _);clear s9 hd4 hs4 hmm KS T2;go_wp2
   (try simp only[Exit.inBlock,Exit.then])
   generalize World.setCell _ _ _=vf at*;clear c0 c1 c2 c3 g0 g1 g2 g3;obtain⟨_,⟨c0,c1,c2,c3⟩,g0,g1,g2,g3⟩:=Sep.c4 (Sep.e8 (SF.out));refine bodyPost_ret (v:=.tuple #[.agg (cN pm),.int .i64 e1]) ?_ rfl ⟨pm,P4,d4,rfl,MM.out,M4.out,rfl,D4.out,Sep.drop (Sep.dS (Sep.drop (Sep.cX (Sep.drop (Sep.eH (Sep.drop (Sep.je (Sep.drop (Sep.qw (Sep.drop (Sep.e8 (SF.out))))))))))))⟩;rw[aL rfl];go_simp
  |[pa],_=>
   have hp0:=NP.out;subst hp0;simp only[List.map_cons,List.map_nil,List.cons_ne_nil,if_false,eQ]at hE;have S3:Hid (Sep B w0 v2 (DL C Sf d2 P1 (RowK 170 4 (.slice ao 1 cp) 1 (fp pa)::aR 9 (.slice ay ny cy) (keys.map Value.string)::aF q0 (.cells #[.bool n.leaf,.slice ae n.es.length ce,.slice (some ⟨r,ro,none⟩) n.ks.length ck,.slice az n.ss.length cz] 170)::aF q1 (.cells (cN pw) 170)::aF q2 (.cells (cN pi) 170)::aF q3 (.cells cZ 170)::l))):=by
    have hfm:[pa].flatMap fp=fp pa:=by simp
    have:=S2.out;rw[hfm]at this;exact this
   obtain⟨g,c',eg,_,gs,hc⟩:=Sep.gf (Sep.dS (S3.out)) (by simp[fp]);injection eg with Z5 _ Z6;subst Z5;subst Z6;have p0:v2.cell? ⟨g,0,none⟩=some (.bool pa.n.leaf):=hc 0 (by simp[fp]);have p1:v2.cell? ⟨g,1,none⟩=some (.slice pa.ae pa.n.es.length pa.ce):=hc 1 (by simp[fp]);have p2:v2.cell? ⟨g,2,none⟩=some (.slice pa.ak pa.n.ks.length pa.ck):=hc 2 (by simp[fp]);have p3:v2.cell? ⟨g,3,none⟩=some (.slice pa.az pa.n.ss.length pa.cz):=hc 3 (by simp[fp]);have MA:Hid (pa∈P1):=MP.out _ (by simp);cases hput:Sf.put d.room kid pa.n with
   |none=>
    rw[hput]at hE;cases hE
   |some rr=>
   obtain⟨⟨k1,e1⟩,Sa⟩:=rr;rw[hput]at hE;simp only at hE;have IA:Hid (DI Sa d.room):=IF.out.put hput;have S4:Hid (Sep B w0 (v2.alloc (.cells (cN pa) 170)) _):=Sep.Gg (Sep.aO S3.out _);have KP:Hid _:=Ko D2.out S4.out WK.out IF.out HX.out.1 MA.out hput;clear S2 S3 hc hput;go_wp2;refine wp_loop_rounds 3 ?_;rw[rounds_succ]
   go_wp2_with fail
   clear c0 c1 c2 c3 hrs hrc p0 p1 p2 p3;generalize World.alloc _ _=v3 at*;generalize v2.heap.size=qa at*;refine Calls.mono KP.out ?_;rintro e v4 ⟨rfl,s4⟩;have S5:Hid (Sep B w0 v4 (DL C Sa d2 P1 (RowK 170 4 (.slice (some ⟨g,0,none⟩) 1 cp) 1 (fp pa)::aR 9 (.slice ay ny cy) (keys.map Value.string)::aF q0 (.cells #[.bool n.leaf,.slice ae n.es.length ce,.slice (some ⟨r,ro,none⟩) n.ks.length ck,.slice az n.ss.length cz] 170)::aF q1 (.cells (cN pw) 170)::aF q2 (.cells (cN pi) 170)::aF q3 (.cells cZ 170)::aF qa (.cells (cN pa) 170)::l))):=s4;clear s4 S4 KP;by_cases hx1:e1≠0
   ·rw[if_pos hx1]at hE;obtain⟨hm,hr',hS⟩:nd0=m∧e1=er∧Sa=S':=by
     simp only[ne_eq,hx1,not_false_eq_true,if_true]at hE;cases hE;exact⟨rfl,rfl,rfl⟩
    subst hm hr' hS;have hne:(e1 != 0)=true:=bne_iff_ne.2 hx1;clear hE hx1;obtain⟨_,⟨c0,c1,c2,c3⟩,g0,g1,g2,g3⟩:=Sep.c4 (Sep.e8 (S5.out));have SF:Hid (Sep B w0 ((((v4.setCell ⟨q3,0,none⟩ (.bool false)).setCell ⟨q3,1,none⟩ (.slice none 0 0)).setCell ⟨q3,2,none⟩ (.slice none 0 0)).setCell ⟨q3,3,none⟩ (.slice none 0 0)) _):=Sep.Cm (Sep.s4 (Sep.e8 (S5.out)) _ _ _ _);clear S5;go_wp2
    (try simp only[Exit.inBlock,Exit.then])
    generalize World.setCell _ _ _=vf at*;clear c0 c1 c2 c3 g0 g1 g2 g3;obtain⟨_,⟨c0,c1,c2,c3⟩,g0,g1,g2,g3⟩:=Sep.c4 (Sep.e8 (SF.out));refine bodyPost_ret (v:=.tuple #[.agg cZ,.int .i64 e1]) ?_ rfl ⟨pZ,pZ::P1,d2,rfl,List.mem_cons_self,fun x hx=>List.mem_cons_of_mem _ (M1.out x hx),rfl,D2.out,DL.zero (Sep.drop (Sep.dS (Sep.drop (Sep.cX (Sep.drop (Sep.eH (Sep.drop (Sep.je (Sep.drop (Sep.qw (Sep.drop (Sep.e8 (Sep.drop (Sep.jQ (SF.out)))))))))))))))⟩;rw[aL rfl];go_simp
   have Z7:e1=0:=by simpa using hx1
   subst Z7;rw[if_neg hx1]at hE;clear hx1
   go_wp2_with (at_builtin;refine nu rfl _ _ rfl _ _ rfl (Sep.alloc (Sep.sS S5.out 3) _) _ _ k1 rfl (by simp) (by simp) ?_)
   intro um n1 TU v5 s5;obtain rfl:n1=1:=by
    obtain⟨_,_,e⟩:=s5.shape;injection e
   have S6:Hid _:=Sep.ur (s5);clear s5 S5;go_wp2;rw[rounds_succ];have IS:Hid (DI Sa d.room):=IA.out;simp only[List.nil_append]at hE;rw[if_neg (by simp)]at hE;have KW:Hid _:=rf (p:=(⟨ae,ce,some ⟨r,ro,none⟩,ck,az,cz,n⟩:NV)) S6.out Z4.out HX.out.2.2.2.1 (t:Int) ((t:Int)+1) [k1] keys (.slice um 1 TU) (.slice ay ny cy) (Sep.NI (ids:=[k1]) (Sep.dS (S6.out))) (Sep.Jp (Sep.eH (S6.out))) (by simp) (by have:=FL.out;omega);have wt1:IntKind.i64.wrap ((t:Int)+1)=(t:Int)+1:=bM (by omega) (by omega);obtain⟨_,⟨c0,c1,c2,c3⟩,_⟩:=Sep.c4 (Sep.je (S6.out))
   go_wp2_with fail
   clear c0 c1 c2 c3;refine Calls.mono KW.out ?_;rintro e u1 ⟨pn,hnn,rfl,s1⟩;have NN:Hid (pn.n=gG n t ((t:Int)+1) [k1] keys):=hnn;obtain⟨_,⟨c0,c1,c2,c3⟩,g0,g1,g2,g3⟩:=Sep.c4 (Sep.je (s1));have T1:Hid (Sep B w0 ((((u1.setCell ⟨q0,0,none⟩ (.bool pn.n.leaf)).setCell ⟨q0,1,none⟩ (.slice pn.ae pn.n.es.length pn.ce)).setCell ⟨q0,2,none⟩ (.slice pn.ak pn.n.ks.length pn.ck)).setCell ⟨q0,3,none⟩ (.slice pn.az pn.n.ss.length pn.cz)) _):=Sep.Mc (Sep.s4 (Sep.je (s1)) _ _ _ _);clear s1 hnn KW S6
   go_wp2_with fail
   generalize World.setCell _ _ _=u2 at*;clear c0 c1 c2 c3 g0 g1 g2 g3;have SMI:Hid (Sm pi.n):=by
    rcases HZI.out with h|h
    ·exact(fe h).1
    ·exact absurd rfl h
   have SMW:Hid (Sm pw.n):=(fe HX.out.2.2.2.2.2.1).1;have M0:Hid (pi∈pn::P1∧pw∈pn::P1):=⟨List.mem_cons_of_mem _ (M1.out _ HPi.out),List.mem_cons_of_mem _ (M1.out _ HPw.out)⟩;have T1d:Hid _:=Sep.drew T1.out;clear T1;refine mn 9 (J18 B w0 C Sa d2 (pn::P1) (aR 3 (.slice um 1 TU) ([k1].map (Value.int .i64))::RowK 170 4 (.slice (some ⟨g,0,none⟩) 1 cp) 1 (fp pa)::aR 9 (.slice ay ny cy) (keys.map Value.string)::aF q0 (.cells (cN pn) 170)::aF q1 (.cells (cN pw) 170)::aF q2 (.cells (cN pi) 170)::aF q3 (.cells cZ 170)::aF qa (.cells (cN pa) 170)::l) q1 q2 g cp (dZ pi.n) (dZ pw.n) (.agg (cN pi)) (.agg (cN pw))) (by kernel_rfl) (by kernel_rfl) (fun _ k=>k rfl T1d.out ar ar ar ar ar ar ar ar ar) ?_ ?_ ?_ ?_
   ·intro w' f0 f1 f2 f3 f4 f5 f6 f7 f8 f9 L9 Ma Mb BS x80 x81 x82 x83 x84 x85 e9 hB h0 h1 h2 h3 h4 h5 h6 h7 h8 hi;have d8:f8=true:=ah 8 hi (by kernel_rfl);obtain⟨d5,d7,_⟩:=h8.out d8;obtain⟨d4,_⟩:=h5.out d5;obtain⟨d6,_⟩:=h7.out d7;obtain⟨d3,_⟩:=h4.out d4;obtain⟨d2,_⟩:=h3.out d3;obtain⟨d1,_⟩:=h2.out d2;obtain⟨d0,_⟩:=h1.out d1;subst d0 d1 d2 d3 d4 d5 d6 d7 d8;rfl
   ·intro i w' hne f0 f1 f2 f3 f4 f5 f6 f7 f8 f9 L9 Ma Mb BS x80 x81 x82 x83 x84 x85 e9 hB h0 h1 h2 h3 h4 h5 h6 h7 h8 hi;obtain⟨hlt,hun,_⟩:=aP hi;have hlt':i<10:=hlt;clear hlt;rcases(by omega:i=0∨i=1∨i=2∨i=3∨i=4∨i=5∨i=6∨i=7∨i=8)with rfl|rfl|rfl|rfl|rfl|rfl|rfl|rfl|rfl
    ·have un:f0=false:=hun;refine ai rfl fun K HK=>?_;go_simp;exact HK.out _ _ fun _ k=>k e9 hB hidR (fun d=>by have e:=(h1.out d).1;rw[un]at e;cases e) h2 h3 h4 h5 h6 h7 h8
    ·have un:f1=false:=hun;have d0:f0=true:=ah 0 hi (by kernel_rfl);cases h0 d0;refine ai rfl fun K HK=>?_;go_simp;exact HK.out _ _ fun _ k=>k e9 hB h0 (fun _=>⟨d0,rfl⟩) (fun d=>by have e:=(h2.out d).1;rw[un]at e;cases e) h3 h4 h5 h6 h7 h8
    ·have un:f2=false:=hun;have d1:f1=true:=ah 1 hi (by kernel_rfl);obtain⟨_,rfl⟩:=h1.out d1;refine ai rfl fun K HK=>?_;go_simp;exact HK.out _ _ fun _ k=>k e9 hB h0 h1 (fun _=>⟨d1,rfl⟩) (fun d=>by have e:=(h3.out d).1;rw[un]at e;cases e) h4 h5 h6 h7 h8
    ·have un:f3=false:=hun;have d2:f2=true:=ah 2 hi (by kernel_rfl);obtain⟨_,rfl⟩:=h2.out d2;refine ai rfl fun K HK=>?_;go_simp;exact HK.out _ _ fun _ k=>k e9 hB h0 h1 h2 (fun _=>⟨d2,rfl⟩) (fun d=>by have e:=(h4.out d).1;rw[un]at e;cases e) h5 (fun d=>by have e:=(h6.out d).1;rw[un]at e;cases e) h7 h8
    ·have un:f4=false:=hun;have d3:f3=true:=ah 3 hi (by kernel_rfl);obtain⟨_,rfl⟩:=h3.out d3;obtain⟨_,⟨c0,c1,c2,c3⟩,_⟩:=Sep.c4 (Sep.e8 ((id hB:Sep _ _ _ _)));refine ai rfl fun K HK=>?_;go_simp;exact HK.out _ _ fun _ k=>k e9 hB h0 h1 h2 h3 (fun _=>⟨d3,rfl⟩) (fun d=>by have e:=(h5.out d).1;rw[un]at e;cases e) h6 h7 h8
    ·have un:f5=false:=hun;obtain⟨_,rfl⟩:=h3.out (ah 3 hi (by kernel_rfl));have d4:f4=true:=ah 4 hi (by kernel_rfl);obtain⟨_,rfl⟩:=h4.out d4;refine ai rfl fun K HK=>?_;go_simp;refine Calls.mono (Cq (p:=pi) (id hB:Sep _ _ _ _) M0.out.1 SMI.out) ?_;rintro e u4 ⟨rfl,s1⟩;exact HK.out _ _ fun _ k=>k e9 s1 h0 h1 h2 h3 h4 (fun _=>⟨d4,rfl⟩) h6 h7 (fun d=>by have e:=(h8.out d).1;rw[un]at e;cases e)
    ·have un:f6=false:=hun;have d3:f3=true:=ah 3 hi (by kernel_rfl);obtain⟨_,rfl⟩:=h3.out d3;obtain⟨_,⟨c0,c1,c2,c3⟩,_⟩:=Sep.c4 (Sep.qw ((id hB:Sep _ _ _ _)));refine ai rfl fun K HK=>?_;go_simp;exact HK.out _ _ fun _ k=>k e9 hB h0 h1 h2 h3 h4 h5 (fun _=>⟨d3,rfl⟩) (fun d=>by have e:=(h7.out d).1;rw[un]at e;cases e) h8
    ·have un:f7=false:=hun;obtain⟨_,rfl⟩:=h3.out (ah 3 hi (by kernel_rfl));have d6:f6=true:=ah 6 hi (by kernel_rfl);obtain⟨_,rfl⟩:=h6.out d6;refine ai rfl fun K HK=>?_;go_simp;refine Calls.mono (Cq (p:=pw) (id hB:Sep _ _ _ _) M0.out.2 SMW.out) ?_;rintro e u4 ⟨rfl,s1⟩;exact HK.out _ _ fun _ k=>k e9 s1 h0 h1 h2 h3 h4 h5 h6 (fun _=>⟨d6,rfl⟩) (fun d=>by have e:=(h8.out d).2.1;rw[un]at e;cases e)
    ·obtain⟨_,rfl⟩:=h3.out (ah 3 hi (by kernel_rfl));have d5:f5=true:=ah 5 hi (by kernel_rfl);obtain⟨_,rfl⟩:=h5.out d5;have d7:f7=true:=ah 7 hi (by kernel_rfl);obtain⟨_,rfl⟩:=h7.out d7;refine ai rfl fun K HK=>?_;go_simp;exact HK.out _ _ fun _ k=>k e9 hB h0 h1 h2 h3 h4 h5 h6 h7 (fun _=>⟨d5,d7,rfl⟩)
   ·intro w' f0 f1 f2 f3 f4 f5 f6 f7 f8 f9 L9 Ma Mb BS x80 x81 x82 x83 x84 x85 e9 hB h0 h1 h2 h3 h4 h5 h6 h7 h8 hi;have d3:f3=true:=ah 3 hi (by kernel_rfl);obtain⟨_,rfl⟩:=h3.out d3;have d8:f8=true:=ah 8 hi (by kernel_rfl);obtain⟨_,_,rfl⟩:=h8.out d8;clear hi;refine ai rfl fun K HK=>?_;go_simp;refine HK.out _ _ ?_;have T2:Hid (Sep B w0 w' (DL C Sa d2 (pn::P1) (aR 3 (.slice um 1 TU) ([k1].map (Value.int .i64))::RowK 170 4 (.slice (some ⟨g,0,none⟩) 1 cp) 1 (fp pa)::aR 9 (.slice ay ny cy) (keys.map Value.string)::aF q0 (.cells (cN pn) 170)::aF q1 (.cells (cN pw) 170)::aF q2 (.cells (cN pi) 170)::aF q3 (.cells cZ 170)::aF qa (.cells (cN pa) 170)::l))):=hB;clear hB h0 h1 h2 h3 h4 h5 h6 h7 h8 T1d
    (try clear d3 d8)
    by_cases hcz:dZ pw.n<=dZ pi.n
    ·rw[decide_eq_true hcz];rw[if_pos ⟨rfl,hcz⟩]at hE;clear hcz;cases hst:cq Sa pn.n depth ((t:Int)) ((t:Int)+1)with
     |none=>
      rw[<-NN.out,hst]at hE;cases hE
     |some rr=>
     obtain⟨⟨m1,e1⟩,S9⟩:=rr;rw[<-NN.out,hst]at hE;obtain⟨hm,hr',hS⟩:m1=m∧e1=er∧S9=S':=by
      cases hE;exact⟨rfl,rfl,rfl⟩
     subst hm hr' hS;have TM:Hid (cB pn.n=true):=by
      show _=true;exact xU hst
     have KS:Hid (Calls Tryz.prog 124 #[ptr C.q,.agg (cN pn),.int .i64 depth,.int .i64 ((t:Int)),.int .i64 ((t:Int)+1)] w' fun e w'=>∃pm P4 d4,pm.n=m1∧pm∈P4∧(∀x∈pn::P1,x∈P4)∧e=.returned (.tuple #[.agg (cN pm),.int .i64 e1])∧bH d d4∧Sep B w0 w' (DL C S9 d4 P4 (aR 3 (.slice um 1 TU) ([k1].map (Value.int .i64))::RowK 170 4 (.slice (some ⟨g,0,none⟩) 1 cp) 1 (fp pa)::aR 9 (.slice ay ny cy) (keys.map Value.string)::aF q0 (.cells (cN pn) 170)::aF q1 (.cells (cN pw) 170)::aF q2 (.cells (cN pi) 170)::aF q3 (.cells cZ 170)::aF qa (.cells (cN pa) 170)::l))):=HT.out T2.out D2.out List.mem_cons_self TM.out IS.out HX.out.2.1 (by have:=HX.out;omega) (by omega) (by have:=HX.out;omega) (by omega) (by have:=HX.out;omega) hst;have TN:IntKind.i64.wrap ((t:Int)-1)=(t:Int)-1:=bM (by omega) (by omega);have TP:IntKind.i64.wrap ((t:Int)+1)=(t:Int)+1:=bM (by omega) (by omega);have TQ:IntKind.i64.wrap ((t:Int)+1+1)=(t:Int)+1+1:=bM (by omega) (by omega);have TR:IntKind.i64.wrap (t:Int)=(t:Int):=bM (by omega) (by omega);obtain⟨_,⟨c0,c1,c2,c3⟩,_⟩:=Sep.c4 (Sep.je (T2.out));clear hst hE
     go_wp2_with fail
     clear c0 c1 c2 c3 TN TP TQ TR;refine Calls.mono KS.out ?_;rintro e u9 ⟨pm,P4,d4,hnm,hmm,hs4,rfl,hd4,s9⟩;subst hnm;have D4:Hid (bH d d4):=hd4;have M4:Hid (∀x∈P,x∈P4):=fun x hx=>hs4 x (List.mem_cons_of_mem _ (M1.out x hx));have MM:Hid (pm∈P4):=hmm;obtain⟨_,⟨c0,c1,c2,c3⟩,g0,g1,g2,g3⟩:=Sep.c4 (Sep.jQ (s9));have SF:Hid (Sep B w0 ((((u9.setCell ⟨q3,0,none⟩ (.bool pm.n.leaf)).setCell ⟨q3,1,none⟩ (.slice pm.ae pm.n.es.length pm.ce)).setCell ⟨q3,2,none⟩ (.slice pm.ak pm.n.ks.length pm.ck)).setCell ⟨q3,3,none⟩ (.slice pm.az pm.n.ss.length pm.cz)) _):=Sep.Gg (Sep.s4 (Sep.jQ (s9)) _ _ _ _);clear s9 hd4 hs4 hmm KS T2;go_wp2
     (try simp only[Exit.inBlock,Exit.then])
     generalize World.setCell _ _ _=vf at*;clear c0 c1 c2 c3 g0 g1 g2 g3;obtain⟨_,⟨c0,c1,c2,c3⟩,g0,g1,g2,g3⟩:=Sep.c4 (Sep.jQ (SF.out));refine bodyPost_ret (v:=.tuple #[.agg (cN pm),.int .i64 e1]) ?_ rfl ⟨pm,P4,d4,rfl,MM.out,M4.out,rfl,D4.out,Sep.drop (Sep.dS (Sep.drop (Sep.cX (Sep.drop (Sep.eH (Sep.drop (Sep.je (Sep.drop (Sep.qw (Sep.drop (Sep.e8 (Sep.drop (Sep.jQ (Sep.drop (Sep.OJ (SF.out))))))))))))))))⟩;rw[aL rfl];go_simp
    ·rw[decide_eq_false hcz];rw[if_neg (fun h=>hcz h.2)]at hE;have hlen:((([k1]:List Int).length:Nat):Int)=1:=rfl;rw[hlen]at hE;clear hcz;cases hst:cq Sa pn.n depth ((t:Int)-1) ((t:Int)+1+1)with
     |none=>
      rw[<-NN.out,hst]at hE;cases hE
     |some rr=>
     obtain⟨⟨m1,e1⟩,S9⟩:=rr;rw[<-NN.out,hst]at hE;obtain⟨hm,hr',hS⟩:m1=m∧e1=er∧S9=S':=by
      cases hE;exact⟨rfl,rfl,rfl⟩
     subst hm hr' hS;have TM:Hid (cB pn.n=true):=by
      show _=true;exact xU hst
     have KS:Hid (Calls Tryz.prog 124 #[ptr C.q,.agg (cN pn),.int .i64 depth,.int .i64 ((t:Int)-1),.int .i64 ((t:Int)+1+1)] w' fun e w'=>∃pm P4 d4,pm.n=m1∧pm∈P4∧(∀x∈pn::P1,x∈P4)∧e=.returned (.tuple #[.agg (cN pm),.int .i64 e1])∧bH d d4∧Sep B w0 w' (DL C S9 d4 P4 (aR 3 (.slice um 1 TU) ([k1].map (Value.int .i64))::RowK 170 4 (.slice (some ⟨g,0,none⟩) 1 cp) 1 (fp pa)::aR 9 (.slice ay ny cy) (keys.map Value.string)::aF q0 (.cells (cN pn) 170)::aF q1 (.cells (cN pw) 170)::aF q2 (.cells (cN pi) 170)::aF q3 (.cells cZ 170)::aF qa (.cells (cN pa) 170)::l))):=HT.out T2.out D2.out List.mem_cons_self TM.out IS.out HX.out.2.1 (by have:=HX.out;omega) (by omega) (by have:=HX.out;omega) (by omega) (by have:=HX.out;omega) hst;have TN:IntKind.i64.wrap ((t:Int)-1)=(t:Int)-1:=bM (by omega) (by omega);have TP:IntKind.i64.wrap ((t:Int)+1)=(t:Int)+1:=bM (by omega) (by omega);have TQ:IntKind.i64.wrap ((t:Int)+1+1)=(t:Int)+1+1:=bM (by omega) (by omega);have TR:IntKind.i64.wrap (t:Int)=(t:Int):=bM (by omega) (by omega);obtain⟨_,⟨c0,c1,c2,c3⟩,_⟩:=Sep.c4 (Sep.je (T2.out));clear hst hE
     go_wp2_with fail
     clear c0 c1 c2 c3 TN TP TQ TR;refine Calls.mono KS.out ?_;rintro e u9 ⟨pm,P4,d4,hnm,hmm,hs4,rfl,hd4,s9⟩;subst hnm;have D4:Hid (bH d d4):=hd4;have M4:Hid (∀x∈P,x∈P4):=fun x hx=>hs4 x (List.mem_cons_of_mem _ (M1.out x hx));have MM:Hid (pm∈P4):=hmm;obtain⟨_,⟨c0,c1,c2,c3⟩,g0,g1,g2,g3⟩:=Sep.c4 (Sep.jQ (s9));have SF:Hid (Sep B w0 ((((u9.setCell ⟨q3,0,none⟩ (.bool pm.n.leaf)).setCell ⟨q3,1,none⟩ (.slice pm.ae pm.n.es.length pm.ce)).setCell ⟨q3,2,none⟩ (.slice pm.ak pm.n.ks.length pm.ck)).setCell ⟨q3,3,none⟩ (.slice pm.az pm.n.ss.length pm.cz)) _):=Sep.Gg (Sep.s4 (Sep.jQ (s9)) _ _ _ _);clear s9 hd4 hs4 hmm KS T2;go_wp2
     (try simp only[Exit.inBlock,Exit.then])
     generalize World.setCell _ _ _=vf at*;clear c0 c1 c2 c3 g0 g1 g2 g3;obtain⟨_,⟨c0,c1,c2,c3⟩,g0,g1,g2,g3⟩:=Sep.c4 (Sep.jQ (SF.out));refine bodyPost_ret (v:=.tuple #[.agg (cN pm),.int .i64 e1]) ?_ rfl ⟨pm,P4,d4,rfl,MM.out,M4.out,rfl,D4.out,Sep.drop (Sep.dS (Sep.drop (Sep.cX (Sep.drop (Sep.eH (Sep.drop (Sep.je (Sep.drop (Sep.qw (Sep.drop (Sep.e8 (Sep.drop (Sep.jQ (Sep.drop (Sep.OJ (SF.out))))))))))))))))⟩;rw[aL rfl];go_simp
   ·intro _ _;intros;assumption
  |[pa,pb],_=>
   have hp0:=NP.out;subst hp0;simp only[List.map_cons,List.map_nil,List.cons_ne_nil,if_false,eQ]at hE;have S3:Hid (Sep B w0 v2 (DL C Sf d2 P1 (RowK 170 4 (.slice ao 2 cp) 2 (fp pa++fp pb)::aR 9 (.slice ay ny cy) (keys.map Value.string)::aF q0 (.cells #[.bool n.leaf,.slice ae n.es.length ce,.slice (some ⟨r,ro,none⟩) n.ks.length ck,.slice az n.ss.length cz] 170)::aF q1 (.cells (cN pw) 170)::aF q2 (.cells (cN pi) 170)::aF q3 (.cells cZ 170)::l))):=by
    have hfm:[pa,pb].flatMap fp=fp pa++fp pb:=by simp
    have:=S2.out;rw[hfm]at this;exact this
   obtain⟨g,c',eg,_,gs,hc⟩:=Sep.gf (Sep.dS (S3.out)) (by simp[fp]);injection eg with Z5 _ Z6;subst Z5;subst Z6;have p0:v2.cell? ⟨g,0,none⟩=some (.bool pa.n.leaf):=hc 0 (by simp[fp]);have p1:v2.cell? ⟨g,1,none⟩=some (.slice pa.ae pa.n.es.length pa.ce):=hc 1 (by simp[fp]);have p2:v2.cell? ⟨g,2,none⟩=some (.slice pa.ak pa.n.ks.length pa.ck):=hc 2 (by simp[fp]);have p3:v2.cell? ⟨g,3,none⟩=some (.slice pa.az pa.n.ss.length pa.cz):=hc 3 (by simp[fp]);have MA:Hid (pa∈P1):=MP.out _ (by simp);have MB:Hid (pb∈P1):=MP.out _ (by simp);cases hput:Sf.put d.room kid pa.n with
   |none=>
    rw[hput]at hE;cases hE
   |some rr=>
   obtain⟨⟨k1,e1⟩,Sa⟩:=rr;rw[hput]at hE;simp only at hE;have IA:Hid (DI Sa d.room):=IF.out.put hput;have S4:Hid (Sep B w0 (v2.alloc (.cells (cN pa) 170)) _):=Sep.Gg (Sep.aO S3.out _);have KP:Hid _:=Ko D2.out S4.out WK.out IF.out HX.out.1 MA.out hput;clear S2 S3 hc hput;go_wp2;refine wp_loop_rounds 4 ?_;rw[rounds_succ]
   go_wp2_with fail
   clear c0 c1 c2 c3 hrs hrc p0 p1 p2 p3;generalize World.alloc _ _=v3 at*;generalize v2.heap.size=qa at*;refine Calls.mono KP.out ?_;rintro e v4 ⟨rfl,s4⟩;have S5:Hid (Sep B w0 v4 (DL C Sa d2 P1 (RowK 170 4 (.slice (some ⟨g,0,none⟩) 2 cp) 2 (fp pa++fp pb)::aR 9 (.slice ay ny cy) (keys.map Value.string)::aF q0 (.cells #[.bool n.leaf,.slice ae n.es.length ce,.slice (some ⟨r,ro,none⟩) n.ks.length ck,.slice az n.ss.length cz] 170)::aF q1 (.cells (cN pw) 170)::aF q2 (.cells (cN pi) 170)::aF q3 (.cells cZ 170)::aF qa (.cells (cN pa) 170)::l))):=s4;clear s4 S4 KP;by_cases hx1:e1≠0
   ·rw[if_pos hx1]at hE;obtain⟨hm,hr',hS⟩:nd0=m∧e1=er∧Sa=S':=by
     simp only[ne_eq,hx1,not_false_eq_true,if_true]at hE;cases hE;exact⟨rfl,rfl,rfl⟩
    subst hm hr' hS;have hne:(e1 != 0)=true:=bne_iff_ne.2 hx1;clear hE hx1;obtain⟨_,⟨c0,c1,c2,c3⟩,g0,g1,g2,g3⟩:=Sep.c4 (Sep.e8 (S5.out));have SF:Hid (Sep B w0 ((((v4.setCell ⟨q3,0,none⟩ (.bool false)).setCell ⟨q3,1,none⟩ (.slice none 0 0)).setCell ⟨q3,2,none⟩ (.slice none 0 0)).setCell ⟨q3,3,none⟩ (.slice none 0 0)) _):=Sep.Cm (Sep.s4 (Sep.e8 (S5.out)) _ _ _ _);clear S5;go_wp2
    (try simp only[Exit.inBlock,Exit.then])
    generalize World.setCell _ _ _=vf at*;clear c0 c1 c2 c3 g0 g1 g2 g3;obtain⟨_,⟨c0,c1,c2,c3⟩,g0,g1,g2,g3⟩:=Sep.c4 (Sep.e8 (SF.out));refine bodyPost_ret (v:=.tuple #[.agg cZ,.int .i64 e1]) ?_ rfl ⟨pZ,pZ::P1,d2,rfl,List.mem_cons_self,fun x hx=>List.mem_cons_of_mem _ (M1.out x hx),rfl,D2.out,DL.zero (Sep.drop (Sep.dS (Sep.drop (Sep.cX (Sep.drop (Sep.eH (Sep.drop (Sep.je (Sep.drop (Sep.qw (Sep.drop (Sep.e8 (Sep.drop (Sep.jQ (SF.out)))))))))))))))⟩;rw[aL rfl];go_simp
   have Z7:e1=0:=by simpa using hx1
   subst Z7;rw[if_neg hx1]at hE;clear hx1
   go_wp2_with (at_builtin;refine nu rfl _ _ rfl _ _ rfl (Sep.alloc (Sep.sS S5.out 3) _) _ _ k1 rfl (by simp) (by simp) ?_)
   intro um n1 TU v5 s5;obtain rfl:n1=1:=by
    obtain⟨_,_,e⟩:=s5.shape;injection e
   have S6:Hid _:=Sep.ur (s5);clear s5 S5;go_wp2;rw[rounds_succ];obtain⟨g',c',eg,_,gs',hc⟩:=Sep.gf (Sep.cX (S6.out)) (by simp[fp]);cases eg;have p4:v5.cell? ⟨g,4,none⟩=some (.bool pb.n.leaf):=hc 4 (by simp[fp]);have p5:v5.cell? ⟨g,5,none⟩=some (.slice pb.ae pb.n.es.length pb.ce):=hc 5 (by simp[fp]);have p6:v5.cell? ⟨g,6,none⟩=some (.slice pb.ak pb.n.ks.length pb.ck):=hc 6 (by simp[fp]);have p7:v5.cell? ⟨g,7,none⟩=some (.slice pb.az pb.n.ss.length pb.cz):=hc 7 (by simp[fp]);cases hput:Sa.put d.room 0 pb.n with
   |none=>
    rw[hput]at hE;cases hE
   |some rr=>
   obtain⟨⟨k2,e2⟩,Sb⟩:=rr;rw[hput]at hE;simp only at hE;have IS:Hid (DI Sb d.room):=IA.out.put hput;have S7:Hid (Sep B w0 (v5.alloc (.cells (cN pb) 170)) _):=Sep.ZF (Sep.aO S6.out _);have KQ:Hid _:=Ko D2.out S7.out (Wf.of_lt (by omega) (by omega)) IA.out HX.out.1 MB.out hput;clear S6 hc hput
   go_wp2_with fail
   clear p4 p5 p6 p7;generalize World.alloc _ _=v6 at*;generalize v5.heap.size=qb at*;refine Calls.mono KQ.out ?_;rintro e v7 ⟨rfl,s7⟩;have S8:Hid (Sep B w0 v7 (DL C Sb d2 P1 (aR 3 (.slice um 1 TU) ([k1].map (Value.int .i64))::RowK 170 4 (.slice (some ⟨g,0,none⟩) 2 cp) 2 (fp pa++fp pb)::aR 9 (.slice ay ny cy) (keys.map Value.string)::aF q0 (.cells #[.bool n.leaf,.slice ae n.es.length ce,.slice (some ⟨r,ro,none⟩) n.ks.length ck,.slice az n.ss.length cz] 170)::aF q1 (.cells (cN pw) 170)::aF q2 (.cells (cN pi) 170)::aF q3 (.cells cZ 170)::aF qa (.cells (cN pa) 170)::aF qb (.cells (cN pb) 170)::l))):=s7;clear s7 S7 KQ;by_cases hx2:e2≠0
   ·rw[if_pos hx2]at hE;obtain⟨hm,hr',hS⟩:nd0=m∧e2=er∧Sb=S':=by
     simp only[ne_eq,hx2,not_false_eq_true,if_true]at hE;cases hE;exact⟨rfl,rfl,rfl⟩
    subst hm hr' hS;have hne:(e2 != 0)=true:=bne_iff_ne.2 hx2;clear hE hx2;obtain⟨_,⟨c0,c1,c2,c3⟩,g0,g1,g2,g3⟩:=Sep.c4 (Sep.jQ (S8.out));have SF:Hid (Sep B w0 ((((v7.setCell ⟨q3,0,none⟩ (.bool false)).setCell ⟨q3,1,none⟩ (.slice none 0 0)).setCell ⟨q3,2,none⟩ (.slice none 0 0)).setCell ⟨q3,3,none⟩ (.slice none 0 0)) _):=Sep.Gg (Sep.s4 (Sep.jQ (S8.out)) _ _ _ _);clear S8;go_wp2
    (try simp only[Exit.inBlock,Exit.then])
    generalize World.setCell _ _ _=vf at*;clear c0 c1 c2 c3 g0 g1 g2 g3;obtain⟨_,⟨c0,c1,c2,c3⟩,g0,g1,g2,g3⟩:=Sep.c4 (Sep.jQ (SF.out));refine bodyPost_ret (v:=.tuple #[.agg cZ,.int .i64 e2]) ?_ rfl ⟨pZ,pZ::P1,d2,rfl,List.mem_cons_self,fun x hx=>List.mem_cons_of_mem _ (M1.out x hx),rfl,D2.out,DL.zero (Sep.drop (Sep.dS (Sep.drop (Sep.cX (Sep.drop (Sep.eH (Sep.drop (Sep.je (Sep.drop (Sep.qw (Sep.drop (Sep.e8 (Sep.drop (Sep.jQ (Sep.drop (Sep.OJ (Sep.drop (Sep.WD (SF.out)))))))))))))))))))⟩;rw[aL rfl];go_simp
   have ex2:e2=0:=by simpa using hx2
   subst ex2;rw[if_neg hx2]at hE;clear hx2
   go_wp2_with (at_builtin;refine nu rfl _ _ rfl _ _ rfl (Sep.alloc (Sep.dS (S8.out)) _) _ _ k2 rfl (by simp) (by simp) ?_)
   intro gR n2 kc2 v8 s8;obtain rfl:n2=2:=by
    obtain⟨_,_,e⟩:=s8.shape;injection e
   have S9:Hid _:=Sep.ur (s8);clear s8 S8;go_wp2;rw[rounds_succ];simp only[List.nil_append,List.cons_append]at hE;rw[if_neg (by simp),if_neg (by simp)]at hE;have KW:Hid _:=rf (p:=(⟨ae,ce,some ⟨r,ro,none⟩,ck,az,cz,n⟩:NV)) S9.out Z4.out HX.out.2.2.2.1 (t:Int) ((t:Int)+1) [k1,k2] keys (.slice gR 2 kc2) (.slice ay ny cy) (Sep.NI (ids:=[k1,k2]) (Sep.dS (S9.out))) (Sep.Jp (Sep.eH (S9.out))) (by simp) (by have:=FL.out;omega);have wt1:IntKind.i64.wrap ((t:Int)+1)=(t:Int)+1:=bM (by omega) (by omega);obtain⟨_,⟨c0,c1,c2,c3⟩,_⟩:=Sep.c4 (Sep.je (S9.out))
   go_wp2_with fail
   clear c0 c1 c2 c3;refine Calls.mono KW.out ?_;rintro e u1 ⟨pn,hnn,rfl,s1⟩;have NN:Hid (pn.n=gG n t ((t:Int)+1) [k1,k2] keys):=hnn;obtain⟨_,⟨c0,c1,c2,c3⟩,g0,g1,g2,g3⟩:=Sep.c4 (Sep.je (s1));have T1:Hid (Sep B w0 ((((u1.setCell ⟨q0,0,none⟩ (.bool pn.n.leaf)).setCell ⟨q0,1,none⟩ (.slice pn.ae pn.n.es.length pn.ce)).setCell ⟨q0,2,none⟩ (.slice pn.ak pn.n.ks.length pn.ck)).setCell ⟨q0,3,none⟩ (.slice pn.az pn.n.ss.length pn.cz)) _):=Sep.Mc (Sep.s4 (Sep.je (s1)) _ _ _ _);clear s1 hnn KW S9
   go_wp2_with fail
   generalize World.setCell _ _ _=u2 at*;clear c0 c1 c2 c3 g0 g1 g2 g3;have T2:Hid _:=Sep.drew T1.out;clear T1
   go_region
   generalize u2.drew=u3 at*;have hlen:((([k1,k2]:List Int).length:Nat):Int)=2:=rfl;rw[hlen]at hE;cases hst:cq Sb pn.n depth ((t:Int)-1) ((t:Int)+2+1)with
   |none=>
    rw[<-NN.out,hst]at hE;cases hE
   |some rr=>
   obtain⟨⟨m1,e1⟩,S9⟩:=rr;rw[<-NN.out,hst]at hE;obtain⟨hm,hr',hS⟩:m1=m∧e1=er∧S9=S':=by
    cases hE;exact⟨rfl,rfl,rfl⟩
   subst hm hr' hS;have TM:Hid (cB pn.n=true):=by
    show _=true;exact xU hst
   have KS:Hid (Calls Tryz.prog 124 #[ptr C.q,.agg (cN pn),.int .i64 depth,.int .i64 ((t:Int)-1),.int .i64 ((t:Int)+2+1)] u3 fun e w'=>∃pm P4 d4,pm.n=m1∧pm∈P4∧(∀x∈pn::P1,x∈P4)∧e=.returned (.tuple #[.agg (cN pm),.int .i64 e1])∧bH d d4∧Sep B w0 w' (DL C S9 d4 P4 (aR 3 (.slice gR 2 kc2) ([k1,k2].map (Value.int .i64))::RowK 170 4 (.slice (some ⟨g,0,none⟩) 2 cp) 2 (fp pa++fp pb)::aR 9 (.slice ay ny cy) (keys.map Value.string)::aF q0 (.cells (cN pn) 170)::aF q1 (.cells (cN pw) 170)::aF q2 (.cells (cN pi) 170)::aF q3 (.cells cZ 170)::aF qa (.cells (cN pa) 170)::aF qb (.cells (cN pb) 170)::l))):=HT.out T2.out D2.out List.mem_cons_self TM.out IS.out HX.out.2.1 (by have:=HX.out;omega) (by omega) (by have:=HX.out;omega) (by omega) (by have:=HX.out;omega) hst;have TN:IntKind.i64.wrap ((t:Int)-1)=(t:Int)-1:=bM (by omega) (by omega);have TP:IntKind.i64.wrap ((t:Int)+2)=(t:Int)+2:=bM (by omega) (by omega);have TQ:IntKind.i64.wrap ((t:Int)+2+1)=(t:Int)+2+1:=bM (by omega) (by omega);have TR:IntKind.i64.wrap (t:Int)=(t:Int):=bM (by omega) (by omega);obtain⟨_,⟨c0,c1,c2,c3⟩,_⟩:=Sep.c4 (Sep.je (T2.out));clear hst hE
   go_wp2_with fail
   clear c0 c1 c2 c3 TN TP TQ TR;refine Calls.mono KS.out ?_;rintro e u9 ⟨pm,P4,d4,hnm,hmm,hs4,rfl,hd4,s9⟩;subst hnm;have D4:Hid (bH d d4):=hd4;have M4:Hid (∀x∈P,x∈P4):=fun x hx=>hs4 x (List.mem_cons_of_mem _ (M1.out x hx));have MM:Hid (pm∈P4):=hmm;obtain⟨_,⟨c0,c1,c2,c3⟩,g0,g1,g2,g3⟩:=Sep.c4 (Sep.jQ (s9));have SF:Hid (Sep B w0 ((((u9.setCell ⟨q3,0,none⟩ (.bool pm.n.leaf)).setCell ⟨q3,1,none⟩ (.slice pm.ae pm.n.es.length pm.ce)).setCell ⟨q3,2,none⟩ (.slice pm.ak pm.n.ks.length pm.ck)).setCell ⟨q3,3,none⟩ (.slice pm.az pm.n.ss.length pm.cz)) _):=Sep.Gg (Sep.s4 (Sep.jQ (s9)) _ _ _ _);clear s9 hd4 hs4 hmm KS T2;go_wp2
   (try simp only[Exit.inBlock,Exit.then])
   generalize World.setCell _ _ _=vf at*;clear c0 c1 c2 c3 g0 g1 g2 g3;obtain⟨_,⟨c0,c1,c2,c3⟩,g0,g1,g2,g3⟩:=Sep.c4 (Sep.jQ (SF.out));refine bodyPost_ret (v:=.tuple #[.agg (cN pm),.int .i64 e1]) ?_ rfl ⟨pm,P4,d4,rfl,MM.out,M4.out,rfl,D4.out,Sep.drop (Sep.dS (Sep.drop (Sep.cX (Sep.drop (Sep.eH (Sep.drop (Sep.je (Sep.drop (Sep.qw (Sep.drop (Sep.e8 (Sep.drop (Sep.jQ (Sep.drop (Sep.OJ (Sep.drop (Sep.WD (SF.out))))))))))))))))))⟩;rw[aL rfl];go_simp
  |a::b::c::ps,hx=>exact absurd hx (by simp)
theorem TV {cq:qV}{S S':Dr}{n:Nd}{depth:Int}{parts:List Nd}{keys:List ByteArray}{er:Int}(he:bY cq S n depth=some ((parts,keys,er),S')):cB n=true∨parts.length≠1:=by
 unfold bY at he;split at he
 ·cases he;exact .inr (by simp)
 ·split at he
  ·cases he
  ·rename_i h
   exact .inl (by simpa using h)
theorem DI.eQ {room:Nat}:∀ {parts:List Nd} {S S':Dr} {page:Int} {ks:List Int} {r:List Int×Int},DI S room->eQ room S page parts ks=some (r,S')->DI S' room
 |[],S,S',page,ks,r,I,he=>by unfold Go.Proofs.YtcenfooehjcddaaGreatDoor.eQ at he;cases he;exact I
 |a::parts,S,S',page,ks,r,I,he=>by
  unfold Go.Proofs.YtcenfooehjcddaaGreatDoor.eQ at he;split at he
  ·cases he
  ·rename_i hx
   split at he
   ·cases he;exact I.put hx
   ·exact DI.eQ (I.put hx) he
theorem DI.place {room:Nat}{S S':Dr}{n was is:Nd}{i depth:Int}{r:Nd×Int}(hI:∀ {S S':Dr} {n:Nd} {depth i tt:Int} {r:Nd×Int},DI S room->cq S n depth i tt=some (r,S')->DI S' room)(I:DI S room)(he:ei cq room S n i depth was is=some (r,S')):DI S' room:=by
 unfold ei at he;split at he
 ·cases he
 ·split at he
  ·cases he
  ·rename_i hf
   have I1:=DI.fitting hI I hf;split at he
   ·cases he;exact I1
   ·split at he
    ·cases he
    ·rename_i hp
     have I2:DI _ room:=DI.eQ (by split;exact I1.drop _;exact I1) hp;split at he
     ·cases he;exact I2
     ·split at he
      ·exact hI I2 he
      ·exact hI I2 he
theorem Ey {p:NV}{i:Int}(T:bW B w0)(hst:aW B w0 C d Nb cq)(dY:∀ {S S':Dr} {n:Nd} {depth i tt:Int} {r:Nd×Int},DI S d.room->cq S n depth i tt=some (r,S')->DI S' d.room)(hd:bH d d1)(h:Sep B w0 w (DL C S d1 P l))(hp:p∈P)(hpw:pw∈P)(hpi:pi∈P)(I:DI S d.room)(hr:d.room<=16384)(hd0:-1<=depth)(hd1:depth+1<=Nb)(hNb:Nb<=1000000)(fc:∀ {S9 S8:Dr} {n9:Nd} {i9 j9 k9:Int} {r9:Nd×Int},cq S9 n9 i9 j9 k9=some (r9,S8)->cB n9=true)(he:ei cq d.room S p.n i depth pw.n pi.n=some ((m,er),S')):
  Calls Tryz.prog 91 #[ptr C.q,.agg (cN p),.int .i64 i,.int .i64 depth,.agg (cN pw),.agg (cN pi)] w fun e w'=>∃pm P' d',pm.n=m∧pm∈P'∧(∀x∈P,x∈P')∧e=.returned (.tuple #[.agg (cN pm),.int .i64 er])∧bH d d'∧Sep B w0 w' (DL C S' d' P' l):=by
 obtain⟨ae,ce,ak,ck,az,cz,n⟩:=p;simp only at he;unfold ei at he;by_cases hg:(S.okB&&cB n&&cB pw.n)=false∨i<0∨(n.ks.length:Int)<=i
 ·rw[if_pos hg]at he;cases he
 ·rw[if_neg hg]at he;have hb:S.okB=true∧cB n=true∧cB pw.n=true:=by
   have h1:¬(S.okB&&cB n&&cB pw.n)=false:=fun e=>hg (.inl e);simp only[Bool.not_eq_false,Bool.and_eq_true]at h1;exact⟨h1.1.1,h1.1.2,h1.2⟩
  obtain⟨t,rfl⟩:=Int.eq_ofNat_of_zero_le (by omega:0<=i);cases hf:bY cq S pi.n (depth+1)with
  |none=>rw[hf]at he;cases he
  |some rr=>
   obtain⟨⟨parts,keys,Hc⟩,Sf⟩:=rr;rw[hf]at he;exact Pp T hst dY hd h hp hpw hpi hb.2.1 hb.2.2 I hr hd0 hd1 hNb hb.1 fc (by show t<n.ks.length;omega) hf (TV hf) he
end
end
section
open N (Nd nd0 cF dF dZ jo gG Sm dD En)
section
variable {B:Nat}{w0 w w':World}{l:List aM}{P:List NV}{C:Cx}{S S':Dr}{d d1:Dk}{depth:Int}{p:NV}{m:Nd}{ch:Bool}{er Nb:Int}{cq:qV}{fn:Nat}{c1 c2:Value}{ed:List En->List En}{U U':aM}{key:ByteArray}{es0:List En}
theorem Sep.Cu (h:Sep B w0 w (DL C S d P l))(bot:Int):Sep B w0 (w.setCell ⟨C.q,4,none⟩ (.int .i64 bot)) (DL C ⟨S.x,S.nodes,S.cnt,S.taken,S.spare,bot⟩ d P l):=by
 obtain⟨g,m,va,vb,hl,ho⟩:=Sep.iI (Sep.qu h);exact Sep.WC (Sep.oV (C:=C) (S:=⟨S.x,S.nodes,S.cnt,S.taken,S.spare,bot⟩) hl (Sep.ml (x:=.int .i64 bot) ho 4))
theorem DL.qY (h:Sep B w0 w (DL C S d P l)):∃m va vb,C.q<w.heap.size∧(w.cell? ⟨C.q,0,none⟩=some (ptr C.tq)∧w.cell? ⟨C.q,1,none⟩=some (.map (some m))∧w.cell? ⟨C.q,2,none⟩=some va∧w.cell? ⟨C.q,3,none⟩=some vb∧w.cell? ⟨C.q,4,none⟩=some (.int .i64 S.bot))∧(∀i,w.frozen? ⟨C.q,i,none⟩=false)∧∃a1 k1 a2 k2,va=.slice a1 S.taken.length k1∧vb=.slice a2 S.spare.length k2:=by
 obtain⟨g,m,va,vb,hl,ho⟩:=Sep.iI (Sep.qu h);obtain⟨_,a1,k1,e1⟩:=Sep.ints (Sep.El ho);obtain⟨_,a2,k2,e2⟩:=Sep.ints (Sep.Ck ho);obtain⟨h1,h2,h3⟩:=Sep.qY ho;exact⟨m,va,vb,h1,h2,h3,a1,k1,a2,k2,e1,e2⟩
theorem DI.changed {room:Nat}(hI:∀ {S S':Dr} {n:Nd} {depth i tt:Int} {r:Nd×Int},DI S room->cq S n depth i tt=some (r,S')->DI S' room):∀(f:Nat) {S S':Dr} {n:Nd} {depth:Int} {r:Nd×Bool×Int},DI S room->bu cq room d key ed f S n depth=some (r,S')->DI S' room
 |0,_,_,_,_,_,_,he=>by cases he
 |f+1,S,S',n,depth,r,I,he=>by
  unfold bu at he;split at he
  ·cases he
  ·split at he
   ·cases he;exact⟨I.ok,I.sz,I.ns⟩
   ·split at he
    ·cases he
    ·split at he
     ·cases he;exact I
     ·split at he
      ·cases he
      ·rename_i hx
       have I1:=DI.changed hI f I hx;split at he
       ·cases he;exact I1
       ·split at he
        ·cases he
        ·rename_i hy
         cases he;exact DI.place hI I1 hy
def uu (d:Dk)(key:ByteArray)(es0:List En):Nat->Dr->Nd->Int->Prop
 |0,_,_,_=>True
 |f+1,S,n,depth=>if n.leaf=true then n.es=es0 else((S.read d (n.ks.getD (dD n.ss key) 0) (depth+1)).2=0->uu d key es0 f S (S.read d (n.ks.getD (dD n.ss key) 0) (depth+1)).1 (depth+1))
def nN (B:Nat)(w0:World)(C:Cx)(fn:Nat)(c1 c2:Value)(ed:List En->List En)(es0:List En)(U U':aM):Prop:=
 ∀ {w:World} {S:Dr} {d:Dk} {P:List NV} {l:List aM} {p:NV},Sep B w0 w (DL C S d P (U::l))->p∈P->p.n.es.length<=500->p.n.es=es0->
  Calls Tryz.prog fn #[.slice p.ae p.n.es.length p.ce,c1,c2] w fun e w'=>∃ao cc,e=.returned (.slice ao (ed p.n.es).length cc)∧Sep B w0 w' (DL C S d ((⟨ao,cc,none,0,none,0,⟨true,ed p.n.es,[],[]⟩⟩:NV)::P) (U'::l))
def GC (B:Nat)(w0:World)(C:Cx)(S':Dr)(d:Dk)(P:List NV)(l:List aM)(U U':aM)(n:Nd)(ch:Bool)(er:Int)(e:Ending)(w':World):Prop:=
 ∃p P' d' V,p.n=n∧p∈P'∧(∀x∈P,x∈P')∧(V=U∨V=U')∧(er=0->V=U')∧e=.returned (.tuple #[.agg (cN p),.bool ch,.int .i64 er])∧bH d d'∧Sep B w0 w' (DL C S' d' P' (V::l))
theorem gh:(∀(tO:nN B w0 C 46 c1 c2 ed es0 U U') (hel:∀es,(ed es).length<=es.length+1) (hd:bH d d1) (h:Sep B w0 w (DL C S d1 P (U::l))) (hp:p∈P) (hsm:cB p.n=true) (hlf:p.n.leaf=true) (Kt:p.n.es=es0),Calls Tryz.prog 90 #[ptr C.q,.agg (cN p),.int .i64 depth,.string key,.func (.func 46) #[] #[c1,c2]] w (GC B w0 C ⟨S.x,S.nodes,S.cnt,S.taken,S.spare,depth⟩ d P l U U' ⟨true,ed p.n.es,[],[]⟩ (!decide (ed p.n.es=p.n.es)) 0))∧
  (∀(tO:nN B w0 C 62 c1 c2 ed es0 U U') (hel:∀es,(ed es).length<=es.length+1) (hd:bH d d1) (h:Sep B w0 w (DL C S d1 P (U::l))) (hp:p∈P) (hsm:cB p.n=true) (hlf:p.n.leaf=true) (Kt:p.n.es=es0),Calls Tryz.prog 90 #[ptr C.q,.agg (cN p),.int .i64 depth,.string key,.func (.func 62) #[] #[c1,c2]] w (GC B w0 C ⟨S.x,S.nodes,S.cnt,S.taken,S.spare,depth⟩ d P l U U' ⟨true,ed p.n.es,[],[]⟩ (!decide (ed p.n.es=p.n.es)) 0)):=by
 and_intros
 have jq:=trivial
 rotate_left
 have fC:=trivial
 rotate_left
 all_goals
  intro tO hel hd h hp hsm hlf Kt;obtain⟨_,_,hes,_⟩:=fe hsm;obtain⟨ae,ce,ak,ck,az,cz,⟨lf,es,ks,ss⟩⟩:=p;simp only at hlf hes hp Kt⊢;subst hlf;have Md:Hid (es=es0):=Kt;clear Kt;generalize hbq:decide (ed es=es)=bq;have HBQ:Hid (decide (ed es=es)=bq):=hbq;clear hbq;have S1:Hid (Sep B w0 ((w.alloc (.cells #[.bool true,.slice ae es.length ce,.slice ak ks.length ck,.slice az ss.length cz] 170)).alloc (.cells cZ 170)) (DL C S d1 P (U::aF w.heap.size (.cells #[.bool true,.slice ae es.length ce,.slice ak ks.length ck,.slice az ss.length cz] 170)::aF (w.heap.size+1) (.cells cZ 170)::l))):=Sep.yD (Sep.aZ (Sep.oW (h.aO _)) _ _ (by simp));have HP:Hid ((⟨ae,ce,ak,ck,az,cz,⟨true,es,ks,ss⟩⟩:NV)∈P):=hp;have HD:Hid (bH d d1):=hd
  first
   |have zz:=jq
    have Z8:Hid (nN B w0 C 46 c1 c2 ed es0 U U'):=tO
   |have Z8:Hid (nN B w0 C 62 c1 c2 ed es0 U U'):=tO
  have HL:Hid (es.length<=500∧(ed es).length<=501):=⟨hes,by have:=hel es;omega⟩;clear h hd hp tO hsm hel hes;go_enter Tryz.func90,Tryz.ntmps90
  go_upto_region 1 with fail
  generalize World.alloc _ _=v1 at*;generalize w.heap.size+1=q1 at*;generalize w.heap.size=q0 at*;obtain⟨_,⟨y0,y1,y2,y3⟩,_⟩:=Sep.c4 (Sep.cX (S1.out));obtain⟨mm,va,vb,qs,⟨x0,x1,x2,x3,x4⟩,qf,_⟩:=DL.qY S1.out;have f4:=qf 4;have S2:Hid _:=Sep.Cu S1.out depth;obtain⟨_,⟨z0,z1,z2,z3⟩,_⟩:=Sep.c4 (Sep.cX (S2.out));clear qf S1
  go_wp2_with fail
  clear y0 y1 y2 y3 x0 x1 x2 x3 x4 z0 z1 z2 z3 f4 qs;generalize World.setCell _ _ _=v2 at*
  first
   |have zz:=jq
    have KEd:Hid _:=(show nN B w0 C 46 c1 c2 ed es0 U U' from Z8.out) S2.out HP.out HL.out.1 Md.out
   |have KEd:Hid _:=(show nN B w0 C 62 c1 c2 ed es0 U U' from Z8.out) S2.out HP.out HL.out.1 Md.out
  refine Calls.mono KEd.out ?_;rintro e v3 ⟨ao,cc,rfl,s3⟩;have S3:Hid (Sep B w0 v3 (DL C ⟨S.x,S.nodes,S.cnt,S.taken,S.spare,depth⟩ d1 ((⟨ao,cc,none,0,none,0,⟨true,ed es,[],[]⟩⟩:NV)::P) (U'::aF q0 (.cells #[.bool true,.slice ae es.length ce,.slice ak ks.length ck,.slice az ss.length cz] 170)::aF q1 (.cells cZ 170)::l))):=s3;have KE:Hid _:=N.Gj (.slice ao (ed es).length cc) (.slice ae es.length ce) (ed es) es v3 (DL.nd s3 List.mem_cons_self).e (DL.nd s3 (List.mem_cons_of_mem _ HP.out)).e (by have:=HL.out;omega) (by have:=HL.out;omega);rw[HBQ.out]at KE;obtain⟨_,⟨y0,y1,y2,y3⟩,_⟩:=Sep.c4 (Sep.cX (s3));clear s3 S2
  go_wp2_with fail
  clear y0 y1 y2 y3;refine Calls.mono KE.out ?_;rintro e v4 ⟨rfl,b4⟩;have S4:Hid _:=S3.out.below b4;clear S3 KE b4;obtain⟨_,⟨y0,y1,y2,y3⟩,g0,g1,g2,g3⟩:=Sep.c4 (Sep.eH (S4.out));have SF:Hid (Sep B w0 ((((v4.setCell ⟨q1,0,none⟩ (.bool true)).setCell ⟨q1,1,none⟩ (.slice ao (ed es).length cc)).setCell ⟨q1,2,none⟩ (.slice none 0 0)).setCell ⟨q1,3,none⟩ (.slice none 0 0)) _):=Sep.yD (Sep.s4 (Sep.eH (S4.out)) _ _ _ _);clear S4;go_wp2
  (try simp only[Exit.inBlock,Exit.then])
  generalize World.setCell _ _ _=vf at*;clear y0 y1 y2 y3 g0 g1 g2 g3;obtain⟨_,⟨y0,y1,y2,y3⟩,g0,g1,g2,g3⟩:=Sep.c4 (Sep.eH (SF.out));refine bodyPost_ret (v:=.tuple #[.agg #[.bool true,.slice ao (ed es).length cc,.slice none 0 0,.slice none 0 0],.bool (!bq),.int .i64 0]) ?_ rfl ⟨(⟨ao,cc,none,0,none,0,⟨true,ed es,[],[]⟩⟩:NV),(⟨ao,cc,none,0,none,0,⟨true,ed es,[],[]⟩⟩:NV)::P,d1,U',rfl,List.mem_cons_self,fun x hx=>List.mem_cons_of_mem _ hx,.inr rfl,fun _=>rfl,rfl,HD.out,Sep.drop (Sep.cX (Sep.drop (Sep.eH (SF.out))))⟩;rw[bP rfl];go_simp
theorem lL:(∀(T:bW B w0) (hst:aW B w0 C d Nb cq) (dY:∀ {S S':Dr} {n:Nd} {depth i tt:Int} {r:Nd×Int},DI S d.room->cq S n depth i tt=some (r,S')->DI S' d.room) (fc:∀ {S9 S8:Dr} {n9:Nd} {i9 j9 k9:Int} {r9:Nd×Int},cq S9 n9 i9 j9 k9=some (r9,S8)->cB n9=true) {f:Nat} (ih:∀ {w:World} {S S':Dr} {d1:Dk} {P:List NV} {l:List aM} {p:NV} {m:Nd} {ch:Bool} {er:Int},Sep B w0 w (DL C S d1 P (U::l))->bH d d1->p∈P->DI S d.room->uu d key es0 f S p.n (depth+1)->bu cq d.room d key ed f S p.n (depth+1)=some ((m,ch,er),S')->Calls Tryz.prog 90 #[ptr C.q,.agg (cN p),.int .i64 (depth+1),.string key,.func (.func 46) #[] #[c1,c2]] w (GC B w0 C S' d P l U U' m ch er)) (hci:∀(S S':Dr) (n:Nd) (dp:Int) (r:Nd×Bool×Int),DI S d.room->bu cq d.room d key ed f S n dp=some (r,S')->DI S' d.room) (hd:bH d d1) (h:Sep B w0 w (DL C S d1 P (U::l))) (hp:p∈P) (I:DI S d.room) (hr:d.room<=16384) (hd0:-1<=depth) (hd1:depth+1<=Nb) (hNb:Nb<=1000000) (hsm:cB p.n=true) (hlf:p.n.leaf=false) (ht:dD p.n.ss key<p.n.ks.length) (Ku:(S.read d (p.n.ks.getD (dD p.n.ss key) 0) (depth+1)).2=0->uu d key es0 f S (S.read d (p.n.ks.getD (dD p.n.ss key) 0) (depth+1)).1 (depth+1)) (he:(if(S.read d (p.n.ks.getD (dD p.n.ss key) 0) (depth+1)).2≠0 then some ((nd0,false,(S.read d (p.n.ks.getD (dD p.n.ss key) 0) (depth+1)).2),S)else match bu cq d.room d key ed f S (S.read d (p.n.ks.getD (dD p.n.ss key) 0) (depth+1)).1 (depth+1)with|none=>none|some ((is,ch,e),S1)=>if e≠0∨ch=false then some ((nd0,false,e),S1)else match ei cq d.room S1 p.n (dD p.n.ss key) depth (S.read d (p.n.ks.getD (dD p.n.ss key) 0) (depth+1)).1 is with|none=>none|some ((m,e2),S2)=>some ((m,true,e2),S2))=some ((m,ch,er),S')),Calls Tryz.prog 90 #[ptr C.q,.agg (cN p),.int .i64 depth,.string key,.func (.func 46) #[] #[c1,c2]] w (GC B w0 C S' d P l U U' m ch er))∧
  (∀(T:bW B w0) (hst:aW B w0 C d Nb cq) (dY:∀ {S S':Dr} {n:Nd} {depth i tt:Int} {r:Nd×Int},DI S d.room->cq S n depth i tt=some (r,S')->DI S' d.room) (fc:∀ {S9 S8:Dr} {n9:Nd} {i9 j9 k9:Int} {r9:Nd×Int},cq S9 n9 i9 j9 k9=some (r9,S8)->cB n9=true) {f:Nat} (ih:∀ {w:World} {S S':Dr} {d1:Dk} {P:List NV} {l:List aM} {p:NV} {m:Nd} {ch:Bool} {er:Int},Sep B w0 w (DL C S d1 P (U::l))->bH d d1->p∈P->DI S d.room->uu d key es0 f S p.n (depth+1)->bu cq d.room d key ed f S p.n (depth+1)=some ((m,ch,er),S')->Calls Tryz.prog 90 #[ptr C.q,.agg (cN p),.int .i64 (depth+1),.string key,.func (.func 62) #[] #[c1,c2]] w (GC B w0 C S' d P l U U' m ch er)) (hci:∀(S S':Dr) (n:Nd) (dp:Int) (r:Nd×Bool×Int),DI S d.room->bu cq d.room d key ed f S n dp=some (r,S')->DI S' d.room) (hd:bH d d1) (h:Sep B w0 w (DL C S d1 P (U::l))) (hp:p∈P) (I:DI S d.room) (hr:d.room<=16384) (hd0:-1<=depth) (hd1:depth+1<=Nb) (hNb:Nb<=1000000) (hsm:cB p.n=true) (hlf:p.n.leaf=false) (ht:dD p.n.ss key<p.n.ks.length) (Ku:(S.read d (p.n.ks.getD (dD p.n.ss key) 0) (depth+1)).2=0->uu d key es0 f S (S.read d (p.n.ks.getD (dD p.n.ss key) 0) (depth+1)).1 (depth+1)) (he:(if(S.read d (p.n.ks.getD (dD p.n.ss key) 0) (depth+1)).2≠0 then some ((nd0,false,(S.read d (p.n.ks.getD (dD p.n.ss key) 0) (depth+1)).2),S)else match bu cq d.room d key ed f S (S.read d (p.n.ks.getD (dD p.n.ss key) 0) (depth+1)).1 (depth+1)with|none=>none|some ((is,ch,e),S1)=>if e≠0∨ch=false then some ((nd0,false,e),S1)else match ei cq d.room S1 p.n (dD p.n.ss key) depth (S.read d (p.n.ks.getD (dD p.n.ss key) 0) (depth+1)).1 is with|none=>none|some ((m,e2),S2)=>some ((m,true,e2),S2))=some ((m,ch,er),S')),Calls Tryz.prog 90 #[ptr C.q,.agg (cN p),.int .i64 depth,.string key,.func (.func 62) #[] #[c1,c2]] w (GC B w0 C S' d P l U U' m ch er)):=by
 and_intros
 have jq:=trivial
 rotate_left
 have fC:=trivial
 rotate_left
 all_goals
  intro T hst dY fc f ih hci hd h hp I hr hd0 hd1 hNb hsm hlf ht Ku he;obtain⟨lF,hkl,_,_,hks⟩:=fe hsm;obtain⟨ae,ce,ak,ck,az,cz,n⟩:=p;simp only at hlf hp hsm hkl hks lF he ht Ku⊢;obtain⟨r,ro,hak,_⟩:=NV.kid (p:=(⟨ae,ce,ak,ck,az,cz,n⟩:NV)) (DL.nd h hp) (i:=dD n.ss key) ht;simp only at hak;subst hak;have S1:Hid (Sep B w0 ((w.alloc (.cells #[.bool n.leaf,.slice ae n.es.length ce,.slice (some ⟨r,ro,none⟩) n.ks.length ck,.slice az n.ss.length cz] 170)).alloc (.cells cZ 170)) (DL C S d1 P (U::aF w.heap.size (.cells #[.bool n.leaf,.slice ae n.es.length ce,.slice (some ⟨r,ro,none⟩) n.ks.length ck,.slice az n.ss.length cz] 170)::aF (w.heap.size+1) (.cells cZ 170)::l))):=Sep.yD (Sep.aZ (Sep.oW (h.aO _)) _ _ (by simp));have HP:Hid ((⟨ae,ce,some ⟨r,ro,none⟩,ck,az,cz,n⟩:NV)∈P):=hp;have HD:Hid (bH d d1):=hd;have HI:Hid (DI S d.room):=I;have HX:Hid (d.room<=16384∧-1<=depth∧depth+1<=Nb∧Nb<=1000000∧Sm n∧dD n.ss key<n.ks.length∧∀k∈n.ks,Wf k):=⟨hr,hd0,hd1,hNb,lF,ht,hks⟩;have HE:Hid ((if(S.read d (n.ks.getD (dD n.ss key) 0) (depth+1)).2≠0 then some ((nd0,false,(S.read d (n.ks.getD (dD n.ss key) 0) (depth+1)).2),S)
    else match bu cq d.room d key ed f S (S.read d (n.ks.getD (dD n.ss key) 0) (depth+1)).1 (depth+1)with
    |none=>none
    |some ((is,ch,e),S1)=>if e≠0∨ch=false then some ((nd0,false,e),S1)else
     match ei cq d.room S1 n (dD n.ss key) depth (S.read d (n.ks.getD (dD n.ss key) 0) (depth+1)).1 is with
     |none=>none
     |some ((m,e2),S2)=>some ((m,true,e2),S2))=some ((m,ch,er),S')):=he
  first
   |have zz:=jq
    have HIH:Hid (∀ {w:World} {S S':Dr} {d1:Dk} {P:List NV} {l:List aM} {p:NV} {m:Nd} {ch:Bool} {er:Int},Sep B w0 w (DL C S d1 P (U::l))->bH d d1->p∈P->DI S d.room->uu d key es0 f S p.n (depth+1)->bu cq d.room d key ed f S p.n (depth+1)=some ((m,ch,er),S')->Calls Tryz.prog 90 #[ptr C.q,.agg (cN p),.int .i64 (depth+1),.string key,.func (.func 46) #[] #[c1,c2]] w (GC B w0 C S' d P l U U' m ch er)):=fun h1 h2 h3 h4 h6 h5=>ih h1 h2 h3 h4 h6 h5
   |have HIH:Hid (∀ {w:World} {S S':Dr} {d1:Dk} {P:List NV} {l:List aM} {p:NV} {m:Nd} {ch:Bool} {er:Int},Sep B w0 w (DL C S d1 P (U::l))->bH d d1->p∈P->DI S d.room->uu d key es0 f S p.n (depth+1)->bu cq d.room d key ed f S p.n (depth+1)=some ((m,ch,er),S')->Calls Tryz.prog 90 #[ptr C.q,.agg (cN p),.int .i64 (depth+1),.string key,.func (.func 62) #[] #[c1,c2]] w (GC B w0 C S' d P l U U' m ch er)):=fun h1 h2 h3 h4 h6 h5=>ih h1 h2 h3 h4 h6 h5
  have HLf:Hid ((S.read d (n.ks.getD (dD n.ss key) 0) (depth+1)).2=0->uu d key es0 f S (S.read d (n.ks.getD (dD n.ss key) 0) (depth+1)).1 (depth+1)):=Ku;have HT:Hid (aW B w0 C d Nb cq):=hst;have WO:Hid (∀(S S':Dr) (n:Nd) (depth i tt:Int) (r:Nd×Int),DI S d.room->cq S n depth i tt=some (r,S')->DI S' d.room):=fun _ _ _ _ _ _ _ h1 h2=>dY h1 h2;have Z9:Hid (∀(S9 S8:Dr) (n9:Nd) (i9 j9 k9:Int) (r9:Nd×Int),cq S9 n9 i9 j9 k9=some (r9,S8)->cB n9=true):=fun _ _ _ _ _ _ _ h=>fc h;have HCI:Hid (∀(S S':Dr) (n:Nd) (dp:Int) (r:Nd×Bool×Int),DI S d.room->bu cq d.room d key ed f S n dp=some (r,S')->DI S' d.room):=hci;have w1:IntKind.i64.wrap (depth+1)=depth+1:=bM (by omega) (by omega);have KC:Hid (∀u,Sep B w0 u (DL C S d1 P (U::aF w.heap.size (.cells #[.bool n.leaf,.slice ae n.es.length ce,.slice (some ⟨r,ro,none⟩) n.ks.length ck,.slice az n.ss.length cz] 170)::aF (w.heap.size+1) (.cells cZ 170)::l))->Calls Tryz.prog 103 #[.agg #[.bool n.leaf,.slice ae n.es.length ce,.slice (some ⟨r,ro,none⟩) n.ks.length ck,.slice az n.ss.length cz],.string key] u fun e w'=>e=.returned (.int .i64 ((dD n.ss key:Nat):Int))∧Sep B w0 w' (DL C S d1 P (U::aF w.heap.size (.cells #[.bool n.leaf,.slice ae n.es.length ce,.slice (some ⟨r,ro,none⟩) n.ks.length ck,.slice az n.ss.length cz] 170)::aF (w.heap.size+1) (.cells cZ 170)::l))):=fun u hu=>O0 (p:=(⟨ae,ce,some ⟨r,ro,none⟩,ck,az,cz,n⟩:NV)) hu hp lF key;generalize hct:dD n.ss key=t at*;have KR:Hid (∀u d' P' L,bH d d'->Sep B w0 u (DL C S d' P' L)->Calls Tryz.prog 118 #[ptr C.q,.int .i64 (n.ks.getD t 0),.int .i64 (depth+1)] u fun e w'=>∃pa P2 d2,pa.n=(S.read d (n.ks.getD t 0) (depth+1)).1∧pa∈P2∧(∀x∈P',x∈P2)∧e=.returned (.tuple #[.agg (cN pa),.int .i64 (S.read d (n.ks.getD t 0) (depth+1)).2])∧bH d d2∧Sep B w0 w' (DL C S d2 P2 L)):=fun u d' P' L hd hu=>xS T hd hu (hks _ (dR ht)) I hr;have hil:(t:Int)< (n.ks.length:Int):=by omega
  have HLF:Hid (n.leaf=false):=hlf;clear Ku h hd hp I he ih hst dY fc hci hr hsm lF hks hd0 hd1 hNb ht hlf;go_enter Tryz.func90,Tryz.ntmps90
  go_upto_region 1 with fail
  generalize World.alloc _ _=v1 at*;generalize w.heap.size+1=q1 at*;generalize w.heap.size=q0 at*;obtain⟨_,⟨y0,_⟩,_⟩:=Sep.c4 (Sep.cX (S1.out));rw[HLF.out]at y0
  go_upto_region 5 with fail
  clear y0;obtain⟨_,⟨y0,y1,y2,y3⟩,_⟩:=Sep.c4 (Sep.cX (S1.out))
  go_wp2_with fail
  clear y0 y1 y2 y3;refine Calls.mono (KC.out _ S1.out) ?_;rintro e v2 ⟨rfl,s2⟩;have S2:Hid (Sep B w0 v2 (DL C S d1 P (U::aF q0 (.cells #[.bool n.leaf,.slice ae n.es.length ce,.slice (some ⟨r,ro,none⟩) n.ks.length ck,.slice az n.ss.length cz] 170)::aF q1 (.cells cZ 170)::l))):=s2;clear s2 S1 KC;obtain⟨r',ro',hak,hrs,hrc⟩:=NV.kid (p:=(⟨ae,ce,some ⟨r,ro,none⟩,ck,az,cz,n⟩:NV)) (DL.nd S2.out HP.out) (i:=t) HX.out.2.2.2.2.2.1;cases hak;simp only at hrc;generalize xT:n.ks.getD t 0=kid at*;generalize hrd:S.read d kid (depth+1)=rd at*;obtain⟨nk,ek⟩:=rd;simp only at HE KR HLf;obtain⟨_,⟨y0,y1,y2,y3⟩,_⟩:=Sep.c4 (Sep.cX (S2.out))
  go_wp2_with fail
  clear y0 y1 y2 y3 hrs hrc;refine Calls.mono (KR.out _ _ _ _ HD.out S2.out) ?_;rintro e v3 ⟨k8,P1,d2,hn1,hm1,hs1,rfl,hd2,s3⟩;subst hn1;have D2:Hid (bH d d2):=hd2;have M1:Hid (∀x∈P,x∈P1):=hs1;have MK:Hid (k8∈P1):=hm1;have S3:Hid (Sep B w0 v3 (DL C S d2 P1 (U::aF q0 (.cells #[.bool n.leaf,.slice ae n.es.length ce,.slice (some ⟨r,ro,none⟩) n.ks.length ck,.slice az n.ss.length cz] 170)::aF q1 (.cells cZ 170)::l))):=s3;clear s3 hd2 hs1 hm1 S2 KR HD;by_cases e0:ek≠0
  ·have hE:=HE.out;rw[if_pos e0]at hE;obtain⟨hm,hj,hr',hS⟩:nd0=m∧false=ch∧ek=er∧S=S':=by
    cases hE;exact⟨rfl,rfl,rfl,rfl⟩
   subst hm hj hr' hS;have hne:(ek != 0)=true:=bne_iff_ne.2 e0;have Md:Hid (ek≠0):=e0;clear hE HE e0;obtain⟨_,⟨y0,y1,y2,y3⟩,g0,g1,g2,g3⟩:=Sep.c4 (Sep.eH (S3.out));have SF:Hid (Sep B w0 (((((v3.setCell ⟨q1,0,none⟩ (.bool false)).setCell ⟨q1,1,none⟩ (.slice none 0 0)).setCell ⟨q1,2,none⟩ (.slice none 0 0)).setCell ⟨q1,3,none⟩ (.slice none 0 0)).alloc (.cells #[.bool k8.n.leaf,.slice k8.ae k8.n.es.length k8.ce,.slice k8.ak k8.n.ks.length k8.ck,.slice k8.az k8.n.ss.length k8.cz] 170)) _):=Sep.alloc (Sep.yD (Sep.s4 (Sep.eH (S3.out)) _ _ _ _)) _;clear S3;go_wp2
   (try simp only[Exit.inBlock,Exit.then])
   generalize World.setCell _ _ _=vf at*;clear y0 y1 y2 y3 g0 g1 g2 g3;obtain⟨_,⟨y0,y1,y2,y3⟩,g0,g1,g2,g3⟩:=Sep.c4 (Sep.eH (SF.out));refine bodyPost_ret (v:=.tuple #[.agg cZ,.bool false,.int .i64 ek]) ?_ rfl ⟨pZ,pZ::P1,d2,U,rfl,List.mem_cons_self,fun x hx=>List.mem_cons_of_mem _ (M1.out x hx),.inl rfl,fun h=>absurd h Md.out,rfl,D2.out,DL.zero (Sep.drop (Sep.cX (Sep.drop (Sep.eH (SF.out)))))⟩;rw[bP rfl];go_simp
  ·have hE:=HE.out;rw[if_neg e0]at hE;have ez:ek=0:=by simpa using e0
   subst ez;cases hcd:bu cq d.room d key ed f S k8.n (depth+1)with
   |none=>
    rw[hcd]at hE;cases hE
   |some rr=>
   obtain⟨⟨is,c9,e9⟩,S9⟩:=rr;rw[hcd]at hE;simp only at hE;have I9:Hid (DI S9 d.room):=HCI.out _ _ _ _ _ HI.out hcd;have S4:Hid (Sep B w0 (v3.alloc (.cells #[.bool k8.n.leaf,.slice k8.ae k8.n.es.length k8.ce,.slice k8.ak k8.n.ks.length k8.ck,.slice k8.az k8.n.ss.length k8.cz] 170)) _):=Sep.Mc (Sep.aO S3.out _);have KX:Hid _:=HIH.out S4.out D2.out MK.out HI.out (HLf.out rfl) hcd;clear S3 HE e0 hcd
   go_wp2_with fail
   generalize World.alloc _ _=v4 at*;generalize v3.heap.size=q2 at*;refine Calls.mono KX.out ?_;rintro e v5 ⟨Vf,P2,d3,V,hn2,hm2,hs2,hV,QE,rfl,hd3,s5⟩;subst hn2;have D3:Hid (bH d d3):=hd3;have M2:Hid (∀x∈P1,x∈P2):=hs2;have MI:Hid (Vf∈P2):=hm2;have HV:Hid ((V=U∨V=U')∧(e9=0->V=U')):=⟨hV,QE⟩;have S5:Hid (Sep B w0 v5 (DL C S9 d3 P2 (V::aF q0 (.cells #[.bool n.leaf,.slice ae n.es.length ce,.slice (some ⟨r,ro,none⟩) n.ks.length ck,.slice az n.ss.length cz] 170)::aF q1 (.cells cZ 170)::aF q2 (.cells #[.bool k8.n.leaf,.slice k8.ae k8.n.es.length k8.ce,.slice k8.ak k8.n.ks.length k8.ck,.slice k8.az k8.n.ss.length k8.cz] 170)::l))):=s5;clear s5 hd3 hs2 hm2 S4 KX D2 hV QE;have D2:Hid (bH d d3):=D3.out;clear D3;have M3:Hid (∀x∈P,x∈P2):=fun x hx=>M2.out x (M1.out x hx);by_cases h9:e9≠0∨c9=false
   ·rw[if_pos h9]at hE;obtain⟨hm,hj,hr',hS⟩:nd0=m∧false=ch∧e9=er∧S9=S':=by
     cases hE;exact⟨rfl,rfl,rfl,rfl⟩
    subst hm hj hr' hS;clear hE;by_cases h8:e9≠0
    ·have hne:(e9 != 0)=true:=bne_iff_ne.2 h8;clear h8 h9;obtain⟨_,⟨y0,y1,y2,y3⟩,g0,g1,g2,g3⟩:=Sep.c4 (Sep.eH (S5.out));have SF:Hid (Sep B w0 (((((v5.setCell ⟨q1,0,none⟩ (.bool false)).setCell ⟨q1,1,none⟩ (.slice none 0 0)).setCell ⟨q1,2,none⟩ (.slice none 0 0)).setCell ⟨q1,3,none⟩ (.slice none 0 0)).alloc (.cells (cN Vf) 170)) _):=Sep.alloc (Sep.yD (Sep.s4 (Sep.eH (S5.out)) _ _ _ _)) _;clear S5;go_wp2
     (try simp only[Exit.inBlock,Exit.then])
     generalize World.setCell _ _ _=vf at*;clear y0 y1 y2 y3 g0 g1 g2 g3;obtain⟨_,⟨y0,y1,y2,y3⟩,g0,g1,g2,g3⟩:=Sep.c4 (Sep.eH (SF.out));refine bodyPost_ret (v:=.tuple #[.agg cZ,.bool false,.int .i64 e9]) ?_ rfl ⟨pZ,pZ::P2,d3,V,rfl,List.mem_cons_self,fun x hx=>List.mem_cons_of_mem _ (M3.out x hx),HV.out.1,HV.out.2,rfl,D2.out,DL.zero (Sep.drop (Sep.cX (Sep.drop (Sep.eH (Sep.drop (Sep.je (SF.out)))))))⟩;rw[bP rfl];go_simp
    ·have TW:e9=0:=by simpa using h8
     have TY:c9=false:=by
      rcases h9 with h|h
      ·exact absurd h h8
      ·exact h
     subst TW TY;have yE:Hid (V=U'):=HV.out.2 rfl;clear h8 h9 HV;obtain⟨_,⟨y0,y1,y2,y3⟩,g0,g1,g2,g3⟩:=Sep.c4 (Sep.eH (S5.out));have SF:Hid (Sep B w0 (((((v5.setCell ⟨q1,0,none⟩ (.bool false)).setCell ⟨q1,1,none⟩ (.slice none 0 0)).setCell ⟨q1,2,none⟩ (.slice none 0 0)).setCell ⟨q1,3,none⟩ (.slice none 0 0)).alloc (.cells (cN Vf) 170)) _):=Sep.alloc (Sep.yD (Sep.s4 (Sep.eH (S5.out)) _ _ _ _)) _;clear S5;go_wp2
     (try simp only[Exit.inBlock,Exit.then])
     generalize World.setCell _ _ _=vf at*;clear y0 y1 y2 y3 g0 g1 g2 g3;obtain⟨_,⟨y0,y1,y2,y3⟩,g0,g1,g2,g3⟩:=Sep.c4 (Sep.eH (SF.out));refine bodyPost_ret (v:=.tuple #[.agg cZ,.bool false,.int .i64 0]) ?_ rfl ⟨pZ,pZ::P2,d3,V,rfl,List.mem_cons_self,fun x hx=>List.mem_cons_of_mem _ (M3.out x hx),.inr yE.out,fun _=>yE.out,rfl,D2.out,DL.zero (Sep.drop (Sep.cX (Sep.drop (Sep.eH (Sep.drop (Sep.je (SF.out)))))))⟩;rw[bP rfl];go_simp
   ·rw[if_neg h9]at hE;have TW:e9=0:=by
     by_cases h:e9=0
     ·exact h
     ·exact absurd (.inl h) h9
    have TY:c9=true:=by
     cases hc:c9
     ·exact absurd (.inr hc) h9
     ·rfl
    subst TW TY;have yE:Hid (V=U'):=HV.out.2 rfl;clear HV;cases hpl:ei cq d.room S9 n (t:Int) depth k8.n Vf.n with
    |none=>
     rw[hpl]at hE;cases hE
    |some rr=>
    obtain⟨⟨m2,e2⟩,Ep⟩:=rr;rw[hpl]at hE;obtain⟨hm,hj,hr',hS⟩:m2=m∧true=ch∧e2=er∧Ep=S':=by
     cases hE;exact⟨rfl,rfl,rfl,rfl⟩
    subst hm hj hr' hS;have S6:Hid (Sep B w0 (v5.alloc (.cells (cN Vf) 170)) _):=Sep.Yc (Sep.aO S5.out _);have KP:Hid _:=Ey (p:=(⟨ae,ce,some ⟨r,ro,none⟩,ck,az,cz,n⟩:NV)) (pw:=k8) (pi:=Vf) T HT.out (fun h1 h2=>WO.out _ _ _ _ _ _ _ h1 h2) D2.out S6.out (M3.out _ HP.out) (M2.out _ MK.out) MI.out I9.out HX.out.1 HX.out.2.1 HX.out.2.2.1 HX.out.2.2.2.1 (fun h=>Z9.out _ _ _ _ _ _ _ h) hpl;obtain⟨_,⟨y0,y1,y2,y3⟩,_⟩:=Sep.c4 (Sep.cX (S5.out));obtain⟨_,⟨z0,z1,z2,z3⟩,_⟩:=Sep.c4 (Sep.je (S5.out));clear S5 hE hpl h9
    go_wp2_with fail
    clear y0 y1 y2 y3 z0 z1 z2 z3;generalize World.alloc _ _=v6 at*;generalize v5.heap.size=q3 at*;refine Calls.mono KP.out ?_;rintro e v7 ⟨pm,P4,d4,hn4,WQ,hs4,rfl,hd4,s7⟩;subst hn4;have D4:Hid (bH d d4):=hd4;have M4:Hid (∀x∈P,x∈P4):=fun x hx=>hs4 x (M3.out x hx);have MM:Hid (pm∈P4):=WQ;obtain⟨_,⟨y0,y1,y2,y3⟩,g0,g1,g2,g3⟩:=Sep.c4 (Sep.cX (s7));obtain⟨_,⟨z0,z1,z2,z3⟩,j0,j1,j2,j3⟩:=Sep.c4 (Sep.eH (s7));have Aq:q0≠q1:=Sep.ne (Sep.eH (Sep.eH (s7)));have n10:=Aq.symm;have SF:Hid (Sep B w0 ((((((((v7.setCell ⟨q0,0,none⟩ (.bool pm.n.leaf)).setCell ⟨q0,1,none⟩ (.slice pm.ae pm.n.es.length pm.ce)).setCell ⟨q0,2,none⟩ (.slice pm.ak pm.n.ks.length pm.ck)).setCell ⟨q0,3,none⟩ (.slice pm.az pm.n.ss.length pm.cz)).setCell ⟨q1,0,none⟩ (.bool pm.n.leaf)).setCell ⟨q1,1,none⟩ (.slice pm.ae pm.n.es.length pm.ce)).setCell ⟨q1,2,none⟩ (.slice pm.ak pm.n.ks.length pm.ck)).setCell ⟨q1,3,none⟩ (.slice pm.az pm.n.ss.length pm.cz)) _):=Sep.yD (Sep.s4 (Sep.eH (Sep.oW (Sep.s4 (Sep.cX (s7)) _ _ _ _))) _ _ _ _);clear s7 hd4 hs4 WQ KP S6;go_wp2
    (try simp only[Exit.inBlock,Exit.then])
    generalize World.setCell _ _ _=vf at*;clear y0 y1 y2 y3 g0 g1 g2 g3 z0 z1 z2 z3 j0 j1 j2 j3;obtain⟨_,⟨y0,y1,y2,y3⟩,g0,g1,g2,g3⟩:=Sep.c4 (Sep.eH (SF.out));refine bodyPost_ret (v:=.tuple #[.agg (cN pm),.bool true,.int .i64 e2]) ?_ rfl ⟨pm,P4,d4,V,rfl,MM.out,M4.out,.inr yE.out,fun _=>yE.out,rfl,D4.out,Sep.drop (Sep.cX (Sep.drop (Sep.eH (Sep.drop (Sep.je (Sep.drop (Sep.qw (SF.out))))))))⟩;rw[bP rfl];go_simp
theorem nO (T:bW B w0)(hst:aW B w0 C d Nb cq)(dY:∀ {S S':Dr} {n:Nd} {depth i tt:Int} {r:Nd×Int},DI S d.room->cq S n depth i tt=some (r,S')->DI S' d.room)(fc:∀ {S9 S8:Dr} {n9:Nd} {i9 j9 k9:Int} {r9:Nd×Int},cq S9 n9 i9 j9 k9=some (r9,S8)->cB n9=true)(tO:nN B w0 C 46 c1 c2 ed es0 U U')(hel:∀es,(ed es).length<=es.length+1)(hr:d.room<=16384)(hNb:Nb<=1000000):∀(f:Nat) {w:World} {S S':Dr} {d1:Dk} {P:List NV} {l:List aM} {p:NV} {depth:Int} {m:Nd} {ch:Bool} {er:Int},-1<=depth->depth+f<=Nb->Sep B w0 w (DL C S d1 P (U::l))->bH d d1->p∈P->DI S d.room->uu d key es0 f S p.n depth->bu cq d.room d key ed f S p.n depth=some ((m,ch,er),S')->Calls Tryz.prog 90 #[ptr C.q,.agg (cN p),.int .i64 depth,.string key,.func (.func 46) #[] #[c1,c2]] w (GC B w0 C S' d P l U U' m ch er)
 |0,_,_,_,_,_,_,_,_,_,_,_,_,_,_,_,_,_,_,he=>by cases he
 |f+1,w,S,S',d1,P,l,p,depth,m,ch,er,hd0,hd1,h,hd,hp,I,hlf,he=>by
  unfold bu at he;by_cases hs:cB p.n=false
  ·rw[if_pos hs]at he;cases he
  ·rw[if_neg hs]at he;have hsm:cB p.n=true:=by simpa using hs
   by_cases hl:p.n.leaf=true
   ·rw[if_pos hl]at he;obtain⟨hm,hj,hr',hS⟩:(⟨true,ed p.n.es,[],[]⟩:Nd)=m∧(!decide (ed p.n.es=p.n.es))=ch∧(0:Int)=er∧(⟨S.x,S.nodes,S.cnt,S.taken,S.spare,depth⟩:Dr)=S':=by
     cases he;exact⟨rfl,rfl,rfl,rfl⟩
    subst hm hj hr' hS;exact gh.1 tO hel hd h hp hsm hl (by unfold uu at hlf;rw[if_pos hl]at hlf;exact hlf)
   ·rw[if_neg hl]at he;have hl':p.n.leaf=false:=by simpa using hl
    by_cases ht:p.n.ks.length<=dD p.n.ss key
    ·rw[if_pos ht]at he;cases he
    ·rw[if_neg ht]at he;exact lL.1 T hst dY fc (fun h1 h2 h3 h4 h6 h5=>nO T hst dY fc tO hel hr hNb f (by omega) (by omega) h1 h2 h3 h4 h6 h5) (fun S S' n dp r hI he=>DI.changed (fun h1 h2=>dY h1 h2) f hI he) hd h hp I hr hd0 (by omega) hNb hsm hl' (by omega) (by unfold uu at hlf;rw[if_neg hl]at hlf;exact hlf) he
theorem nP (T:bW B w0)(hst:aW B w0 C d Nb cq)(dY:∀ {S S':Dr} {n:Nd} {depth i tt:Int} {r:Nd×Int},DI S d.room->cq S n depth i tt=some (r,S')->DI S' d.room)(fc:∀ {S9 S8:Dr} {n9:Nd} {i9 j9 k9:Int} {r9:Nd×Int},cq S9 n9 i9 j9 k9=some (r9,S8)->cB n9=true)(tO:nN B w0 C 62 c1 c2 ed es0 U U')(hel:∀es,(ed es).length<=es.length+1)(hr:d.room<=16384)(hNb:Nb<=1000000):∀(f:Nat) {w:World} {S S':Dr} {d1:Dk} {P:List NV} {l:List aM} {p:NV} {depth:Int} {m:Nd} {ch:Bool} {er:Int},-1<=depth->depth+f<=Nb->Sep B w0 w (DL C S d1 P (U::l))->bH d d1->p∈P->DI S d.room->uu d key es0 f S p.n depth->bu cq d.room d key ed f S p.n depth=some ((m,ch,er),S')->Calls Tryz.prog 90 #[ptr C.q,.agg (cN p),.int .i64 depth,.string key,.func (.func 62) #[] #[c1,c2]] w (GC B w0 C S' d P l U U' m ch er)
 |0,_,_,_,_,_,_,_,_,_,_,_,_,_,_,_,_,_,_,he=>by cases he
 |f+1,w,S,S',d1,P,l,p,depth,m,ch,er,hd0,hd1,h,hd,hp,I,hlf,he=>by
  unfold bu at he;by_cases hs:cB p.n=false
  ·rw[if_pos hs]at he;cases he
  ·rw[if_neg hs]at he;have hsm:cB p.n=true:=by simpa using hs
   by_cases hl:p.n.leaf=true
   ·rw[if_pos hl]at he;obtain⟨hm,hj,hr',hS⟩:(⟨true,ed p.n.es,[],[]⟩:Nd)=m∧(!decide (ed p.n.es=p.n.es))=ch∧(0:Int)=er∧(⟨S.x,S.nodes,S.cnt,S.taken,S.spare,depth⟩:Dr)=S':=by
     cases he;exact⟨rfl,rfl,rfl,rfl⟩
    subst hm hj hr' hS;exact gh.2 tO hel hd h hp hsm hl (by unfold uu at hlf;rw[if_pos hl]at hlf;exact hlf)
   ·rw[if_neg hl]at he;have hl':p.n.leaf=false:=by simpa using hl
    by_cases ht:p.n.ks.length<=dD p.n.ss key
    ·rw[if_pos ht]at he;cases he
    ·rw[if_neg ht]at he;exact lL.2 T hst dY fc (fun h1 h2 h3 h4 h6 h5=>nP T hst dY fc tO hel hr hNb f (by omega) (by omega) h1 h2 h3 h4 h6 h5) (fun S S' n dp r hI he=>DI.changed (fun h1 h2=>dY h1 h2) f hI he) hd h hp I hr hd0 (by omega) hNb hsm hl' (by omega) (by unfold uu at hlf;rw[if_neg hl]at hlf;exact hlf) he
end
end
section
open N (Nd nd0 cF dF dZ jo gG Sm dD En)
theorem Dr.Kv (S:Dr)(id:Int):(S.drop id).bot=S.bot:=by unfold Dr.drop;split<;>rfl
def GL (B:Nat)(w0:World)(C:Cx)(S':Dr)(d:Dk)(P:List NV)(l:List aM)(r er:Int)(e:Ending)(w':World):Prop:=∃P' d',(∀x∈P,x∈P')∧e=.returned (.tuple #[.int .i64 r,.int .i64 er])∧bH d d'∧Sep B w0 w' (DL C S' d' P' l)
section
variable {B:Nat}{w0 w w':World}{l:List aM}{P:List NV}{C:Cx}{S S':Dr}{d d1:Dk}{r er:Int}
theorem Kw {id:Int}(T:bW B w0)(hd:bH d d1)(h:Sep B w0 w (DL C S d1 P l))(I:DI S d.room)(hr:d.room<=16384)(hid:Wf id)(hb0:-1000000<=S.bot)(hb1:S.bot<=1000000)(he:dM d 24 S id 0=some ((r,er),S')):
  Calls Tryz.prog 92 #[ptr C.q,.int .i64 id] w (GL B w0 C S' d P l r er):=by
 have Hd:Hid (Sep B w0 w (DL C S d1 P l)):=h;have HD:Hid (bH d d1):=hd;have HI:Hid (DI S d.room):=I;have HE:Hid (dM d 24 S id 0=some ((r,er),S')):=he;have HW:Hid (Wf id):=hid;have HX:Hid (d.room<=16384∧-1000000<=S.bot∧S.bot<=1000000):=⟨hr,hb0,hb1⟩;clear h hd I he hid hr hb0 hb1;go_enter Tryz.func92,Tryz.ntmps92;go_wp2
 go_loopg [1,9] 24 (fun kx s1 s9 wr=>∃(k:Nat) (ic:Int) (Sc:Dr) (Pc:List NV) (dc:Dk),s1=.int .i64 ic∧s9=.int .i64 (k:Int)∧k<=24∧24-k<=kx∧Hid (Wf ic)∧Hid (dM d (24-k) Sc ic (k:Int)=some ((r,er),S'))∧Hid (DI Sc d.room)∧Hid (∀x∈P,x∈Pc)∧Hid (bH d dc)∧Hid (Sc.bot=S.bot)∧Hid (Sep B w0 wr (DL C Sc dc Pc l)))
 case atStart=>exact⟨0,id,S,P,d1,rfl,rfl,by omega,by omega,HW.out,HE.out,HI.out,fun _ h=>h,HD.out,rfl,Hd.out⟩
 case round=>
  clear Hd HD HI HE HW;obtain⟨k,ic,Sc,Pc,dc,rfl,rfl,hk,hkx,HW,HE,HI,HM,HD,HB,HS⟩:=hrel;by_cases hlt:k<24
  ·have hE:=HE.out;obtain⟨g,hg⟩:∃g,24-k=g+1:=⟨24-k-1,by omega⟩;rw[hg]at hE;unfold dM at hE;have hltz:(k:Int)<24:=by omega
   by_cases hok:Sc.okB=false
   ·rw[if_pos hok]at hE;cases hE
   rw[if_neg hok]at hE;have ZZ:Hid (Sc.okB=true):=by show _=true;simpa using hok
   have KR:Hid (Calls Tryz.prog 118 #[ptr C.q,.int .i64 ic,.int .i64 (k:Int)] wr fun e w'=>∃pa P2 d2,pa.n=(Sc.read d ic (k:Int)).1∧pa∈P2∧(∀x∈Pc,x∈P2)∧e=.returned (.tuple #[.agg #[.bool pa.n.leaf,.slice pa.ae pa.n.es.length pa.ce,.slice pa.ak pa.n.ks.length pa.ck,.slice pa.az pa.n.ss.length pa.cz],.int .i64 (Sc.read d ic (k:Int)).2])∧bH d d2∧Sep B w0 w' (DL C Sc d2 P2 l)):=xS T HD.out HS.out HW.out HI.out HX.out.1;have HF:Hid ((Sc.read d ic (k:Int)).2=0->cF (Sc.read d ic (k:Int)).1=true):=fun h=>HI.out.read h;generalize Sc.read d ic (k:Int)=rd at*;obtain⟨nk,ek⟩:=rd;simp only at hE KR HF;clear hok HE
   go_wp2_with fail
   refine Calls.mono KR.out ?_;rintro e v3 ⟨pn,P1,d2,hn1,hm1,hs1,rfl,hd2,s3⟩;subst hn1;have D2:Hid (bH d d2):=hd2;have M1:Hid (∀x∈P,x∈P1):=fun x hx=>hs1 x (HM.out x hx);have MK:Hid (pn∈P1):=hm1;have S3:Hid (Sep B w0 v3 (DL C Sc d2 P1 l)):=s3;clear s3 hd2 hs1 hm1 KR HD HS HM;by_cases e0:ek≠0
   ·rw[if_pos e0]at hE;obtain⟨hr',he',hS⟩:0=r∧ek=er∧Sc=S':=by
     cases hE;exact⟨rfl,rfl,rfl⟩
    subst hr' he' hS;have hne:(ek != 0)=true:=bne_iff_ne.2 e0;have SF:Hid (Sep B w0 (v3.alloc (.cells #[.bool pn.n.leaf,.slice pn.ae pn.n.es.length pn.ce,.slice pn.ak pn.n.ks.length pn.ck,.slice pn.az pn.n.ss.length pn.cz] 170)) (DL C Sc d2 P1 l)):=S3.out.alloc _;clear hE e0 S3;go_wp2;go_ret2;exact⟨P1,d2,M1.out,rfl,D2.out,SF.out⟩
   ·rw[if_neg e0]at hE;have ez:ek=0:=by simpa using e0
    subst ez;have FN:Hid (cF pn.n=true):=HF.out rfl;clear HF e0;by_cases h1:pn.n.ks.length=1
    ·rw[if_pos h1]at hE;obtain⟨ae,ce,ak,ck,az,cz,n⟩:=pn;simp only at h1 hE FN MK;obtain⟨rr,ro,hak,_⟩:=NV.kid (p:=(⟨ae,ce,ak,ck,az,cz,n⟩:NV)) (DL.nd S3.out MK.out) (i:=0) (by simp only;omega);simp only at hak;subst hak;have h1I:((n.ks.length:Int)==1)=true:=by rw[h1];rfl
     have S4:Hid (Sep B w0 (v3.alloc (.cells #[.bool n.leaf,.slice ae n.es.length ce,.slice (some ⟨rr,ro,none⟩) n.ks.length ck,.slice az n.ss.length cz] 170)) (DL C Sc d2 P1 (aF v3.heap.size (.cells #[.bool n.leaf,.slice ae n.es.length ce,.slice (some ⟨rr,ro,none⟩) n.ks.length ck,.slice az n.ss.length cz] 170)::l))):=Sep.pb [_,_,_,_,_] (S3.out.aO _);have KD:Hid _:=xQ S4.out HW.out ZZ.out;have WK:Hid (Wf (n.ks.getD 0 0)):=(gI FN.out).2.2 _ (dR (by omega));have ID:Hid (DI (Sc.drop ic) d.room):=HI.out.drop ic;have hbb:Hid ((Sc.drop ic).bot=S.bot):=(Dr.Kv Sc ic).trans HB.out;have KK:Hid (∀u,Sep B w0 u (DL C (Sc.drop ic) d2 P1 (aF v3.heap.size (.cells #[.bool n.leaf,.slice ae n.es.length ce,.slice (some ⟨rr,ro,none⟩) n.ks.length ck,.slice az n.ss.length cz] 170)::l))->rr<u.heap.size∧u.cell? ⟨rr,ro,none⟩=some (.int .i64 (n.ks.getD 0 0))):=fun u hu=>by
      obtain⟨r',ro',hak,k1,k2⟩:=NV.kid (p:=(⟨ae,ce,some ⟨rr,ro,none⟩,ck,az,cz,n⟩:NV)) (DL.nd hu MK.out) (i:=0) (by simp only;omega);cases hak;exact⟨k1,by simpa using k2⟩
     have hE2:Hid (dM d g (Sc.drop ic) (n.ks.getD 0 0) ((k:Int)+1)=some ((r,er),S')):=hE;generalize n.ks.getD 0 0=kid at*;generalize Sc.drop ic=Sd at*;clear hE S3;have hlp:(0:Int)< (n.ks.length:Int):=by omega
     have HLN:Hid (n.ks.length=1):=h1;clear h1
     go_wp2_with fail
     generalize v3.alloc (.cells #[.bool n.leaf,.slice ae n.es.length ce,.slice (some ⟨rr,ro,none⟩) n.ks.length ck,.slice az n.ss.length cz] 170)=v4 at*;generalize v3.heap.size=q7 at*;refine Calls.mono KD.out ?_;rintro e v5 ⟨rfl,s5⟩;obtain⟨k1,k2⟩:=KK.out _ s5;obtain⟨_,⟨y0,y1,y2,y3⟩,_⟩:=Sep.c4 (Sep.pk [_,_,_,_,_] (s5));have SF:Hid (Sep B w0 v5 (DL C Sd d2 P1 l)):=Sep.drop (Sep.pk [_,_,_,_,_] (s5));clear s5 KD KK S4;have wk:IntKind.i64.wrap ((k:Int)+1)=((k+1:Nat):Int):=by rw[bM (by omega) (by omega)];rfl
     go_wp2
     all_goals go_roundg (24- (k+1))
     case measure=>omega
     case rel=>exact⟨k+1,kid,Sd,P1,d2,rfl,by go_num,by omega,Nat.le_refl _,WK.out,by show _=_;rw[show 24- (k+1)=g by omega];exact hE2.out,ID.out,M1.out,D2.out,hbb.out,SF.out⟩
    ·rw[if_neg h1]at hE;have h1I:((pn.n.ks.length:Int)==1)=false:=by simp;omega
     obtain⟨mm,va,vb,qs,⟨x0,x1,x2,x3,x4⟩,_⟩:=DL.qY S3.out;have hbt:Hid (Sc.bot=S.bot):=HB.out;have wb:IntKind.i64.wrap (Sc.bot- (k:Int))=Sc.bot- (k:Int):=by
      have h2:=HX.out;have h3:=hbt.out;exact bM (by omega) (by omega)
     have SF:Hid (Sep B w0 (v3.alloc (.cells #[.bool pn.n.leaf,.slice pn.ae pn.n.es.length pn.ce,.slice pn.ak pn.n.ks.length pn.ck,.slice pn.az pn.n.ss.length pn.cz] 170)) (DL C Sc d2 P1 l)):=S3.out.alloc _;clear h1 S3 HB;generalize hbo:Sc.bot=bo at*;by_cases h2:24<=bo- (k:Int)
     ·rw[if_pos h2]at hE;obtain⟨hr',he',hS⟩:0=r∧3=er∧Sc=S':=by
       cases hE;exact⟨rfl,rfl,rfl⟩
      subst hr' he' hS;clear hE;go_wp2;go_ret2;exact⟨P1,d2,M1.out,rfl,D2.out,SF.out⟩
     ·rw[if_neg h2]at hE;obtain⟨hr',he',hS⟩:ic=r∧0=er∧Sc=S':=by
       cases hE;exact⟨rfl,rfl,rfl⟩
      subst hr' he' hS;clear hE;go_wp2;go_ret2;exact⟨P1,d2,M1.out,rfl,D2.out,SF.out⟩
  ·have hltz:¬(k:Int)<24:=by omega
   have hE:=HE.out;rw[show 24-k=0 by omega]at hE;obtain⟨hr',he',hS⟩:0=r∧3=er∧Sc=S':=by
    cases hE;exact⟨rfl,rfl,rfl⟩
   subst hr' he' hS;clear hE HE;go_wp2;go_ret2;exact⟨Pc,dc,HM.out,rfl,HD.out,HS.out⟩
end
end
end Go.Proofs.YtcenfooehjcddaaGreatDoor
namespace Go.Proofs.YtcenfooehjcddaaGreatDoor
section
open Go.Shelf Go.RowKit Go.Lib Go.Sort Go.Maps
open N (Nd nd0 cF dF dZ jo gG Sm dD En)
def Dr.wx (S:Dr)(x:TX):Dr:=⟨x,S.nodes,S.cnt,S.taken,S.spare,S.bot⟩
theorem mo {room:Nat}:∀(l:List Int) {x:TX},x.Ok room->(aJ x l).Ok room
 |[],x,h=>h
 |a::l,x,h=>mo l (x:=x.drop a) (TX.DX h a)
theorem nQ (x:TX)(l:List Int)(a:Int):aJ x (l++[a])=(aJ x l).drop a:=by unfold aJ;rw[List.foldl_append];rfl
theorem oX {l:List Int}{k:Nat}(h:k<l.length):l.take (k+1)=l.take k++[l.getD k 0]:=vJ h
section
variable {B:Nat}{w0 w w':World}{l:List aM}{P:List NV}{C:Cx}{S S':Dr}{d d1:Dk}
theorem DL.open (h:Sep B w0 w (DL C S d1 P l)):∃g m av cv bv bw,Gf P S.nodes g∧Sep B w0 w (Tx C.t C.f S.x::File C.f C.b d1::nM C::Pl P::aF C.q (mH C.tq m (.slice av S.taken.length cv) (.slice bv S.spare.length bw) S.bot)::dh m g S.cnt::aR 3 (.slice av S.taken.length cv) (S.taken.map (Value.int .i64))::aR 3 (.slice bv S.spare.length bw) (S.spare.map (Value.int .i64))::l):=by
 obtain⟨g,m,va,vb,hl,ho⟩:=Sep.iI (Sep.pk [_,_,_,_] h);obtain⟨_,av,cv,rfl⟩:=Sep.ints (Sep.pk [_,_] ho);obtain⟨_,bv,bw,rfl⟩:=Sep.ints (Sep.pk [_,_,_] ho);exact⟨g,m,av,cv,bv,bw,hl,Sep.pb [_,_,_,_,_,_,_] (Sep.pb [_,_,_,_,_,_,_] (Sep.pb [_,_,_,_,_,_,_] (Sep.pb [_,_,_,_,_,_,_] ho)))⟩
theorem DL.shut {x:TX}{g:Gv}{m cv bw:Nat}{av bv:Option Addr}(hl:Gf P S.nodes g)(h:Sep B w0 w (Tx C.t C.f x::File C.f C.b d1::nM C::Pl P::aF C.q (mH C.tq m (.slice av S.taken.length cv) (.slice bv S.spare.length bw) S.bot)::dh m g S.cnt::aR 3 (.slice av S.taken.length cv) (S.taken.map (Value.int .i64))::aR 3 (.slice bv S.spare.length bw) (S.spare.map (Value.int .i64))::l)):Sep B w0 w (DL C (S.wx x) d1 P l):=
 Sep.pb [_,_,_,_] (Sep.oV (C:=C) (S:=S.wx x) hl (Sep.pk [_,_,_,_,_,_,_] (Sep.pk [_,_,_,_,_,_,_] (Sep.pk [_,_,_,_,_,_,_] (Sep.pk [_,_,_,_,_,_,_] h)))))
theorem TZ {room:Nat}(h:Sep B w0 w (DL C S d1 P l))(ok:S.x.Ok room)(hr:room<=16384)(ht:S.taken.length<=100000)(hw:∀k∈S.taken,Wf k):
  Calls Tryz.prog 66 #[ptr C.q] w fun e w'=>e=.returned (.tuple #[])∧Sep B w0 w' (DL C (S.wx (aJ S.x S.taken)) d1 P l):=by
 obtain⟨g,m,av,cv,bv,bw,hl,ho⟩:=DL.open h;have HO:Hid (Sep B w0 w (Tx C.t C.f S.x::File C.f C.b d1::nM C::Pl P::aF C.q (mH C.tq m (.slice av S.taken.length cv) (.slice bv S.spare.length bw) S.bot)::dh m g S.cnt::aR 3 (.slice av S.taken.length cv) (S.taken.map (Value.int .i64))::aR 3 (.slice bv S.spare.length bw) (S.spare.map (Value.int .i64))::l)):=ho;have HL:Hid (Gf P S.nodes g):=hl;have HW:Hid (∀k∈S.taken,Wf k):=hw;have HX:Hid (S.x.Ok room∧room<=16384∧S.taken.length<=100000):=⟨ok,hr,ht⟩;obtain⟨qs,⟨x0,x1,x2,x3,x4⟩,_⟩:=Sep.qY (Sep.pk [_,_,_,_] (ho));clear h hl ho hw ok hr ht;go_enter Tryz.func66,Tryz.ntmps66;go_wp2;clear x0 x1 x2 x3 x4 qs
 go_loopg [3,9] S.taken.length (fun kx s3 s9 wr=>∃(k:Nat),s9=.int .i64 (k:Int)∧k<=S.taken.length∧S.taken.length-k<=kx∧Hid (Sep B w0 wr (Tx C.t C.f (aJ S.x (S.taken.take k))::File C.f C.b d1::nM C::Pl P::aF C.q (mH C.tq m (.slice av S.taken.length cv) (.slice bv S.spare.length bw) S.bot)::dh m g S.cnt::aR 3 (.slice av S.taken.length cv) (S.taken.map (Value.int .i64))::aR 3 (.slice bv S.spare.length bw) (S.spare.map (Value.int .i64))::l)))
 case atStart=>exact⟨0,rfl,Nat.zero_le _,Nat.le_refl _,by show Sep _ _ _ _;exact HO.out⟩
 case round=>
  clear HO;obtain⟨k,rfl,hk,hkx,HS⟩:=hrel;by_cases hlt:k<S.taken.length
  ·have hltz:(k:Int)< (S.taken.length:Int):=by omega
   obtain⟨rr,ro,er,hrs,hrc⟩:=(Sep.ints (Sep.pk [_,_,_,_,_,_] (HS.out))).1.at hlt;subst er;have WK:Hid (Wf (S.taken.getD k 0)):=HW.out _ (dR hlt);have KD:Hid (∀u,Sep B w0 u (Tx C.t C.f (aJ S.x (S.taken.take k))::File C.f C.b d1::nM C::Pl P::aF C.q (mH C.tq m (.slice (some ⟨rr,ro,none⟩) S.taken.length cv) (.slice bv S.spare.length bw) S.bot)::dh m g S.cnt::aR 3 (.slice (some ⟨rr,ro,none⟩) S.taken.length cv) (S.taken.map (Value.int .i64))::aR 3 (.slice bv S.spare.length bw) (S.spare.map (Value.int .i64))::l)->Calls Tryz.prog 93 #[ptr C.t,.int .i64 (S.taken.getD k 0)] u fun e w'=>e=.returned (.tuple #[])∧Sep B w0 w' (Tx C.t C.f (aJ S.x (S.taken.take (k+1)))::File C.f C.b d1::nM C::Pl P::aF C.q (mH C.tq m (.slice (some ⟨rr,ro,none⟩) S.taken.length cv) (.slice bv S.spare.length bw) S.bot)::dh m g S.cnt::aR 3 (.slice (some ⟨rr,ro,none⟩) S.taken.length cv) (S.taken.map (Value.int .i64))::aR 3 (.slice bv S.spare.length bw) (S.spare.map (Value.int .i64))::l)):=fun u hu=>by
    have h1:=Qv (id:=S.taken.getD k 0) hu WK.out (by have h2:=(mo (S.taken.take k) HX.out.1);have h3:=h2.len;have h4:=h2.pr;have h5:=HX.out.2;omega);rw[oX hlt,nQ];exact h1
   generalize S.taken.getD k 0=kid at*;obtain⟨qs,⟨x0,x1,x2,x3,x4⟩,_⟩:=Sep.qY (Sep.pk [_,_,_,_] (HS.out));obtain⟨ts,⟨t0,t1,t2⟩,_⟩:=Sep.Co (Sep.pk [_,_] (HS.out));have KX:Hid _:=KD.out _ HS.out;have wk:IntKind.i64.wrap ((k:Int)+1)=((k+1:Nat):Int):=by rw[bM (by omega) (by have:=HX.out;omega)];rfl
   clear HS KD
   go_wp2_with fail
   clear x0 x1 x2 x3 x4 t0 t1 t2 hrs hrc;refine Calls.mono KX.out ?_;rintro e v3 ⟨rfl,s3⟩;have SF:Hid _:=s3;clear KX s3;go_wp2
   all_goals go_roundg (S.taken.length- (k+1))
   case measure=>omega
   case rel=>exact⟨k+1,by go_num,by omega,Nat.le_refl _,SF⟩
  ·have hltz:¬(k:Int)< (S.taken.length:Int):=by omega
   obtain rfl:k=S.taken.length:=by omega
   have HS2:Hid (Sep B w0 wr (Tx C.t C.f (aJ S.x S.taken)::File C.f C.b d1::nM C::Pl P::aF C.q (mH C.tq m (.slice av S.taken.length cv) (.slice bv S.spare.length bw) S.bot)::dh m g S.cnt::aR 3 (.slice av S.taken.length cv) (S.taken.map (Value.int .i64))::aR 3 (.slice bv S.spare.length bw) (S.spare.map (Value.int .i64))::l)):=by
    have:=HS.out;rw[List.take_length]at this;exact this
   clear HS;go_wp2
   first|go_end0|refine bodyPost_ret (results_none rfl _ _ _) rfl ?_
   exact⟨rfl,DL.shut HL.out HS2.out⟩
theorem Gs {m n:Nat}{g:Gv}(h:Sep B w0 w (dh m g n::l))(hn:n<=1000000):
  Calls Tryz.prog 95 #[.map (some m)] w (fun e w'=>e=.returned (.func (.func 129) #[] #[.pointer (some ⟨w.heap.size,0,none⟩)])∧w'=w.alloc (.cells #[.map (some m)] 138))∧
  Calls Tryz.prog 94 #[.func (.func 129) #[] #[.pointer (some ⟨w.heap.size,0,none⟩)]] (w.alloc (.cells #[.map (some m)] 138)) (fun e w'=>∃(v:Value) (L:List Int),e=.returned v∧Jn g L∧L.length<=n∧w'.ownsRow w.heap.size 3 1 v L.length (L.map (Value.int .i64))∧Below w.heap.size w w'):=by
 obtain⟨D0,hown,WR⟩:=h.tD;have hsz:=hown.size_le;have hbl:=hown.lt;have hseq:SeqGives Fence.wide 2 Tryz.prog 129 #[.pointer (some ⟨w.heap.size,0,none⟩)] encZ (fun ss=>ss.Perm (intKeys D0)) (Maps.size D0) (w.alloc (.cells #[.map (some m)] 138)):=
  AnyZI.keys_gives (ρ:=Tryz.vR) {Tryz.Qw with} Fence.wide _ trivial rfl (by omega) w.heap.size m n D0 _ (by simp) (by simp) (by
   obtain⟨es,clock,hb,Ft,hs,hD⟩:=hown
   exact⟨es,clock,(Below.heap_alloc _ _ m hbl).trans hb,Ft,hs,hD⟩)
 have cK:CallsIn Fence.wide 5 Tryz.prog 95 #[.map (some m)] w fun e w'=>e=.returned (.func (.func 129) #[] #[.pointer (some ⟨w.heap.size,0,none⟩)])∧w'=w.alloc (.cells #[.map (some m)] 138):=AnyZI.keys_in Tryz.Qw Fence.wide 5 trivial rfl (some m) w;have cS:=AnyZI.sorted_in Tryz.OG Fence.wide 5 trivial trivial trivial trivial rfl (by omega) (Tn _) (enters_of Tryz.func128 (by kernel_rfl) rfl) 129 #[.pointer (some ⟨w.heap.size,0,none⟩)] trivial (enters_of Tryz.func129 (by kernel_rfl) rfl) _ _ (Nat.le_trans hsz (Nat.le_trans hn (by decide))) (by omega) _ hseq;change CallsIn _ _ Tryz.prog 94 _ _ _ at cS;refine⟨callsIn_wide.1 cK,(callsIn_wide.1 cS).mono fun e w' hh=>?_⟩;obtain⟨v,ss,rfl,hS,hrow,hnil,hb⟩:=hh;have hk:=xz hown WR hS;refine⟨v,ss.mergeSort (fun x y=>decide (x<=y)),rfl,hk.1,?_,?_,((Below.refl _ w).alloc (Nat.le_refl _) _).trans (hb.mono (by simp))⟩
 ·rw[List.length_mergeSort];exact hk.2
 ·rw[List.length_mergeSort];exact ownsRow_base_a hrow (by simp)
end
end
section
open Go.Shelf Go.RowKit Go.Lib Go.Sort Go.Maps
open N (Nd nd0 cF dF dZ jo gG Sm dD En ov kX uR)
theorem tP (nodes:Int->Option Nd):∀(l:List Int) (x:TX) (a:Int),cQ nodes x (l++[a])=((cQ nodes x l).put a (ov ((nodes a).getD nd0)).toNat.toUInt8 (kX ((nodes a).getD nd0))).2
 |[],x,a=>rfl
 |b::l,x,a=>tP nodes l _ a
theorem Ky (x:TX)(id:Int):(x.drop id).cnt=x.cnt:=by unfold TX.drop;split<;>rfl
theorem pP:∀(l:List Int) (x:TX),(aJ x l).cnt=x.cnt
 |[],x=>rfl
 |a::l,x=>(pP l (x.drop a)).trans (Ky x a)
theorem Pq (x:TX)(id:Int)(k:UInt8)(s:ByteArray):(x.put id k s).2.cnt<=x.cnt+1:=by
 unfold TX.put;split
 ·split
  ·exact Nat.le_succ _
  ·exact Nat.le_refl _
 ·exact Nat.le_succ _
theorem vU (nodes:Int->Option Nd):∀(l:List Int) (x:TX),(cQ nodes x l).cnt<=x.cnt+l.length
 |[],x=>Nat.le_refl _
 |a::l,x=>by
  have h1:=vU nodes l (x.put a (ov ((nodes a).getD nd0)).toNat.toUInt8 (kX ((nodes a).getD nd0))).2;have h2:=Pq x a (ov ((nodes a).getD nd0)).toNat.toUInt8 (kX ((nodes a).getD nd0));simp only[List.length_cons];show(cQ nodes _ l).cnt<=_;omega
theorem T3 {n:Nd}:((ov n).toNat.toUInt8.toNat:Int)=ov n:=by
 unfold ov N.yx;split
 ·split<;>rfl
 ·rfl
theorem nR {n:Nd}(h:cF n=true):(kX n).size<=maxLen:=by
 unfold cF at h;simp only[Bool.and_eq_true,decide_eq_true_eq]at h;have:=(N.Wu h.1 h.2).2.2.2;unfold maxLen;omega
theorem Sep.Ps {B:Nat}{w0 w w':World}{l:List aM}{e:TypeId}{v:Value}{cs:List Value}(h:Sep B w0 w l)(hb:Below w.heap.size w w')(o:w'.ownsRow w.heap.size e 1 v cs.length cs):Sep B w0 w' (aR e v cs::l):=
 h.add hb (good_row _ _ _) (X:=fun q=>v.ownBlock=some q) ⟨ownsRow_base_a o (Nat.zero_le _),fun _=>Iff.rfl⟩ (fun q hq=>by
  rcases o.2 with⟨e,_⟩| ⟨g,cap,cur,e,hg,_⟩
  ·rw[e]at hq;simp[Value.ownBlock]at hq
  ·rw[e]at hq;simp[Value.ownBlock]at hq;omega)
section
variable {B:Nat}{w0 w w':World}{l:List aM}{P:List NV}{C:Cx}{S S':Dr}{d d1:Dk}
theorem Pt {room:Nat}(h:Sep B w0 w (DL C S d1 P l))(I:DI S room)(hr:room<=16384)(ht:S.spare.length<=100000)(hw:∀k∈S.spare,Wf k)(hc:S.cnt<=100000)(hx:S.x.cnt+S.cnt<1000000)(hk:∀k,(S.nodes k).isSome=true->Wf k):
  Calls Tryz.prog 67 #[ptr C.q] w fun e w'=>e=.returned (.tuple #[])∧∃L,(L.Pairwise (· < ·)∧∀k,k∈L↔(S.nodes k).isSome=true)∧Sep B w0 w' (DL C (S.wx (cQ S.nodes (aJ S.x S.spare) L)) d1 P l):=by
 obtain⟨g,m,av,cv,bv,bw,hl,ho⟩:=DL.open h;have HO:Hid (Sep B w0 w (Tx C.t C.f S.x::File C.f C.b d1::nM C::Pl P::aF C.q (mH C.tq m (.slice av S.taken.length cv) (.slice bv S.spare.length bw) S.bot)::dh m g S.cnt::aR 3 (.slice av S.taken.length cv) (S.taken.map (Value.int .i64))::aR 3 (.slice bv S.spare.length bw) (S.spare.map (Value.int .i64))::l)):=ho;have HL:Hid (Gf P S.nodes g):=hl;have HW:Hid (∀k∈S.spare,Wf k):=hw;have HX:Hid (S.x.Ok room∧room<=16384∧S.spare.length<=100000):=⟨I.ok,hr,ht⟩;have HN:Hid (S.cnt<=100000∧S.x.cnt+S.cnt<1000000∧(∀k n,S.nodes k=some n->cF n=true)∧∀k,(S.nodes k).isSome=true->Wf k):=⟨hc,hx,I.ns,hk⟩;obtain⟨qs,⟨x0,x1,x2,x3,x4⟩,_⟩:=Sep.qY (Sep.qu (ho));clear h hl ho hw I hr ht hc hx hk;go_enter Tryz.func67,Tryz.ntmps67;go_wp2;clear x0 x1 x2 x3 x4 qs
 go_loopg [3,14] S.spare.length (fun kx s3 Ze wr=>∃(k:Nat),Ze=.int .i64 (k:Int)∧k<=S.spare.length∧S.spare.length-k<=kx∧Hid (Sep B w0 wr (Tx C.t C.f (aJ S.x (S.spare.take k))::File C.f C.b d1::nM C::Pl P::aF C.q (mH C.tq m (.slice av S.taken.length cv) (.slice bv S.spare.length bw) S.bot)::dh m g S.cnt::aR 3 (.slice av S.taken.length cv) (S.taken.map (Value.int .i64))::aR 3 (.slice bv S.spare.length bw) (S.spare.map (Value.int .i64))::l)))
 case atStart=>exact⟨0,rfl,Nat.zero_le _,Nat.le_refl _,by show Sep _ _ _ _;exact HO.out⟩
 case round=>
  clear HO;obtain⟨k,rfl,hk,hkx,HS⟩:=hrel;by_cases hlt:k<S.spare.length
  ·have hltz:(k:Int)< (S.spare.length:Int):=by omega
   obtain⟨rr,ro,er,hrs,hrc⟩:=(Sep.ints (Sep.eH (HS.out))).1.at hlt;subst er;have WK:Hid (Wf (S.spare.getD k 0)):=HW.out _ (dR hlt);have KD:Hid (∀u,Sep B w0 u (Tx C.t C.f (aJ S.x (S.spare.take k))::File C.f C.b d1::nM C::Pl P::aF C.q (mH C.tq m (.slice av S.taken.length cv) (.slice (some ⟨rr,ro,none⟩) S.spare.length bw) S.bot)::dh m g S.cnt::aR 3 (.slice av S.taken.length cv) (S.taken.map (Value.int .i64))::aR 3 (.slice (some ⟨rr,ro,none⟩) S.spare.length bw) (S.spare.map (Value.int .i64))::l)->Calls Tryz.prog 93 #[ptr C.t,.int .i64 (S.spare.getD k 0)] u fun e w'=>e=.returned (.tuple #[])∧Sep B w0 w' (Tx C.t C.f (aJ S.x (S.spare.take (k+1)))::File C.f C.b d1::nM C::Pl P::aF C.q (mH C.tq m (.slice av S.taken.length cv) (.slice (some ⟨rr,ro,none⟩) S.spare.length bw) S.bot)::dh m g S.cnt::aR 3 (.slice av S.taken.length cv) (S.taken.map (Value.int .i64))::aR 3 (.slice (some ⟨rr,ro,none⟩) S.spare.length bw) (S.spare.map (Value.int .i64))::l)):=fun u hu=>by
    have h1:=Qv (id:=S.spare.getD k 0) hu WK.out (by have h2:=(mo (S.spare.take k) HX.out.1);have h3:=h2.len;have h4:=h2.pr;have h5:=HX.out.2;omega);rw[oX hlt,nQ];exact h1
   generalize S.spare.getD k 0=kid at*;obtain⟨qs,⟨x0,x1,x2,x3,x4⟩,_⟩:=Sep.qY (Sep.qu (HS.out));obtain⟨ts,⟨t0,t1,t2⟩,_⟩:=Sep.Co (Sep.El (HS.out));have KX:Hid _:=KD.out _ HS.out;have wk:IntKind.i64.wrap ((k:Int)+1)=((k+1:Nat):Int):=by rw[bM (by omega) (by have:=HX.out;omega)];rfl
   clear HS KD
   go_wp2_with fail
   clear x0 x1 x2 x3 x4 t0 t1 t2 hrs hrc;refine Calls.mono KX.out ?_;rintro e v3 ⟨rfl,s3⟩;have SF:Hid _:=s3;clear KX s3;go_wp2
   all_goals go_roundg (S.spare.length- (k+1))
   case measure=>omega
   case rel=>exact⟨k+1,by go_num,by omega,Nat.le_refl _,SF⟩
  ·have hltz:¬(k:Int)< (S.spare.length:Int):=by omega
   obtain rfl:k=S.spare.length:=by omega
   have HS2:Hid (Sep B w0 wr (Tx C.t C.f (aJ S.x S.spare)::File C.f C.b d1::nM C::Pl P::aF C.q (mH C.tq m (.slice av S.taken.length cv) (.slice bv S.spare.length bw) S.bot)::dh m g S.cnt::aR 3 (.slice av S.taken.length cv) (S.taken.map (Value.int .i64))::aR 3 (.slice bv S.spare.length bw) (S.spare.map (Value.int .i64))::l)):=by
    have:=HS.out;rw[List.take_length]at this;exact this
   clear HS;obtain⟨qs,⟨x0,x1,x2,x3,x4⟩,_⟩:=Sep.qY (Sep.qu (HS2.out));obtain⟨cK,cS⟩:=Gs (Sep.dS (HS2.out)) (by have:=HN.out;omega);have CK:Hid _:=cK;have CS:Hid _:=cS;clear cK cS;generalize wr=w1 at*
   go_wp2_with fail
   refine Calls.mono CK.out ?_;rintro e v2 ⟨rfl,rfl⟩;clear CK
   go_wp2_with fail
   refine Calls.mono CS.out ?_;rintro e v3 ⟨vL,L,rfl,hkL,hlL,hrow,hb3⟩;have KL:Hid (Jn g L):=hkL;have LL:Hid (L.length<=S.cnt):=hlL;obtain⟨la,lc,rfl⟩:∃la lc,vL=.slice la L.length lc:=by
    rcases hrow.2 with⟨e1,e2⟩| ⟨gg,cap,cur,e1,_⟩
    ·exact⟨none,0,by rw[e1,e2]⟩
    ·exact⟨_,_,e1⟩
   have S4:Hid (Sep B w0 v3 (Tx C.t C.f (cQ S.nodes (aJ S.x S.spare) (L.take 0))::File C.f C.b d1::nM C::Pl P::aF C.q (mH C.tq m (.slice av S.taken.length cv) (.slice bv S.spare.length bw) S.bot)::dh m g S.cnt::aR 3 (.slice av S.taken.length cv) (S.taken.map (Value.int .i64))::aR 3 (.slice bv S.spare.length bw) (S.spare.map (Value.int .i64))::aR 3 (.slice la L.length lc) (L.map (Value.int .i64))::l)):=Sep.Mc (Sep.Ps HS2.out hb3 (by simpa using hrow));clear CS hkL hlL hrow hb3 HS2 x0 x1 x2 x3 x4 qs HW;go_wp2
   go_loopg [5,35] L.length (fun kx s5 s35 wr=>∃(k:Nat),s35=.int .i64 (k:Int)∧k<=L.length∧L.length-k<=kx∧Hid (Sep B w0 wr (Tx C.t C.f (cQ S.nodes (aJ S.x S.spare) (L.take k))::File C.f C.b d1::nM C::Pl P::aF C.q (mH C.tq m (.slice av S.taken.length cv) (.slice bv S.spare.length bw) S.bot)::dh m g S.cnt::aR 3 (.slice av S.taken.length cv) (S.taken.map (Value.int .i64))::aR 3 (.slice bv S.spare.length bw) (S.spare.map (Value.int .i64))::aR 3 (.slice la L.length lc) (L.map (Value.int .i64))::l)))
   case atStart=>exact⟨0,rfl,Nat.zero_le _,Nat.le_refl _,S4.out⟩
   case round=>
    clear S4;obtain⟨k,rfl,hk,hkx,HS⟩:=hrel;by_cases hlt:k<L.length
    ·have hltz:(k:Int)< (L.length:Int):=by omega
     obtain⟨rr,ro,er,hrs,hrc⟩:=(Sep.ints (Sep.je (HS.out))).1.at hlt;subst er;have hin:(g (L.getD k 0)).isSome=true:=(KL.out.2 _).1 (dR hlt);obtain⟨p,hp,Ym,hgp⟩:∃p∈P,S.nodes (L.getD k 0)=some p.n∧g (L.getD k 0)=some p.v:=by
      rcases HL.out (L.getD k 0)with⟨_,h2⟩|h2
      ·rw[h2]at hin;cases hin
      ·exact h2
     have WK:Hid (Wf (L.getD k 0)):=HN.out.2.2.2 _ (by rw[Ym];rfl);have FP:Hid (cF p.n=true):=HN.out.2.2.1 _ _ Ym;have hlk:=(Sep.dS (HS.out)).SI WK.out;rw[hgp]at hlk;have hlk2:(Instr.lookup 138 (.map (some m)) (.int .i64 (L.getD k 0)) false).run Tryz.prog wr=.ok (.agg #[.bool p.n.leaf,.slice p.ae p.n.es.length p.ce,.slice p.ak p.n.ks.length p.ck,.slice p.az p.n.ss.length p.cz]) wr:=hlk;have KE:Hid _:=N.Ab p.n _ _ _ wr (Sep.pool (Sep.Ck (HS.out)) p hp) (gI FP.out).1;have KP:Hid (∀u,Sep B w0 u (Tx C.t C.f (cQ S.nodes (aJ S.x S.spare) (L.take k))::File C.f C.b d1::nM C::Pl P::aF C.q (mH C.tq m (.slice av S.taken.length cv) (.slice bv S.spare.length bw) S.bot)::dh m g S.cnt::aR 3 (.slice av S.taken.length cv) (S.taken.map (Value.int .i64))::aR 3 (.slice bv S.spare.length bw) (S.spare.map (Value.int .i64))::aR 3 (.slice (some ⟨rr,ro,none⟩) L.length lc) (L.map (Value.int .i64))::l)->Calls Tryz.prog 97 #[ptr C.t,.int .i64 (L.getD k 0),.int .u8 (ov p.n),.string (kX p.n)] u fun e w'=>∃er,e=.returned (.int .i64 er)∧Sep B w0 w' (Tx C.t C.f (cQ S.nodes (aJ S.x S.spare) (L.take (k+1)))::File C.f C.b d1::nM C::Pl P::aF C.q (mH C.tq m (.slice av S.taken.length cv) (.slice bv S.spare.length bw) S.bot)::dh m g S.cnt::aR 3 (.slice av S.taken.length cv) (S.taken.map (Value.int .i64))::aR 3 (.slice bv S.spare.length bw) (S.spare.map (Value.int .i64))::aR 3 (.slice (some ⟨rr,ro,none⟩) L.length lc) (L.map (Value.int .i64))::l)):=fun u hu=>by
      have h1:=ZB (id:=L.getD k 0) hu WK.out (ov p.n).toNat.toUInt8 (kX p.n) (nR FP.out) (by
       have h2:=vU S.nodes (L.take k) (aJ S.x S.spare)
       rw[pP]at h2
       have h3:=HN.out
       have h4:=LL.out
       have h5:(L.take k).length<=L.length:=by rw[List.length_take];omega
       omega)
      rw[T3]at h1;rw[oX hlt,tP,Ym];exact h1.mono fun e w' ⟨h2,h3⟩=>⟨_,h2,h3⟩
     obtain⟨qs,⟨x0,x1,x2,x3,x4⟩,_⟩:=Sep.qY (Sep.qu (HS.out));have T4:Hid (Sep B w0 wr (Tx C.t C.f (cQ S.nodes (aJ S.x S.spare) (L.take k))::File C.f C.b d1::nM C::Pl P::aF C.q (mH C.tq m (.slice av S.taken.length cv) (.slice bv S.spare.length bw) S.bot)::dh m g S.cnt::aR 3 (.slice av S.taken.length cv) (S.taken.map (Value.int .i64))::aR 3 (.slice bv S.spare.length bw) (S.spare.map (Value.int .i64))::aR 3 (.slice (some ⟨rr,ro,none⟩) L.length lc) (L.map (Value.int .i64))::l)):=HS.out;generalize L.getD k 0=id at*;generalize ov p.n=ek at*;generalize kX p.n=es at*;generalize uR p.n=ee at*;have wk:IntKind.i64.wrap ((k:Int)+1)=((k+1:Nat):Int):=by rw[bM (by omega) (by have:=HN.out;have:=LL.out;omega)];rfl
     clear HS hlk hgp Ym hin hp
     go_wp2_with fail
     clear x0 x1 x2 x3 x4 hrs hrc hlk2;refine Calls.mono KE.out ?_;rintro e v5 ⟨rfl,b5⟩;have S5:Hid _:=T4.out.below b5;obtain⟨qs',⟨x0,x1,x2,x3,x4⟩,_⟩:=Sep.qY (Sep.qu ((T4.out.below b5)));obtain⟨ts,⟨t0,t1,t2⟩,_⟩:=Sep.Co (Sep.El ((T4.out.below b5)));have KX:Hid _:=KP.out _ (T4.out.below b5);clear KE KP T4 b5 S5
     go_wp2_with fail
     clear x0 x1 x2 x3 x4 t0 t1 t2;refine Calls.mono KX.out ?_;rintro e v6 ⟨er,rfl,s6⟩;have SF:Hid _:=s6;clear KX s6;go_wp2
     all_goals go_roundg (L.length- (k+1))
     case measure=>omega
     case rel=>exact⟨k+1,by go_num,by omega,Nat.le_refl _,SF⟩
    ·have hltz:¬(k:Int)< (L.length:Int):=by omega
     obtain rfl:k=L.length:=by omega
     have HS3:Hid (Sep B w0 wr (Tx C.t C.f (cQ S.nodes (aJ S.x S.spare) L)::File C.f C.b d1::nM C::Pl P::aF C.q (mH C.tq m (.slice av S.taken.length cv) (.slice bv S.spare.length bw) S.bot)::dh m g S.cnt::aR 3 (.slice av S.taken.length cv) (S.taken.map (Value.int .i64))::aR 3 (.slice bv S.spare.length bw) (S.spare.map (Value.int .i64))::l)):=by
      have:=Sep.drop (Sep.je (HS.out));rw[List.take_length]at this;exact this
     have KM:Hid (L.Pairwise (· < ·)∧∀k,k∈L↔(S.nodes k).isSome=true):=by
      refine⟨KL.out.1,fun k=>(KL.out.2 k).trans ?_⟩;rcases HL.out k with⟨h1,h2⟩| ⟨p,_,h1,h2⟩
      ·rw[h1,h2];simp
      ·rw[h1,h2];simp
     clear HS KL;go_wp2
     first|go_end0|refine bodyPost_ret (results_none rfl _ _ _) rfl ?_
     exact⟨rfl,L,KM.out,DL.shut HL.out HS3.out⟩
end
end
end Go.Proofs.YtcenfooehjcddaaGreatDoor
namespace Go.Proofs.YtcenfooehjcddaaGreatDoor
open Go.Shelf Go.RowKit Go.Lib Go.Sort
section
open N (Nd nd0 cF dF dZ jo gG Sm dD En)
def kv (st:qV)(room:Nat):Nat->Dr->Nd->NE
 |0,_,_=>none
 |f+1,S,top=>if cB top=false then none else if 1<top.ks.length then
   if S.bot< -1000∨1000<S.bot then none else
   match ei st room ⟨S.x,S.nodes,S.cnt,S.taken,S.spare,S.bot+1⟩ ⟨false,[],[0],[]⟩ 0 (-1) nd0 top with
   |none=>none
   |some ((m,e),S1)=>if e≠0 then some ((m,e),S1)else kv st room f S1 m
  else some ((top,0),S)
def kA (st:qV)(room:Nat)(d:Dk)(key:ByteArray)(ed:List En->List En)(root:Int)(S:Dr):Option ((Int×Int)×Dr):=
 match bu st room d key ed 30 S ⟨false,[],[root],[]⟩ (-1)with
 |none=>none
 |some ((top,ch,e),S1)=>if e≠0∨ch=false then some ((root,e),S1)else
  match kv st room 10 S1 top with
  |none=>none
  |some ((m,e2),S2)=>if e2≠0 then some ((0,e2),S2)else if m.ks.length=0 then some ((0,0),S2)else if S2.bot< -1000∨1000<S2.bot∨cB m=false then none else dM d 24 S2 (m.ks.getD 0 0) 0
section
variable {B:Nat}{w0 w w':World}{l:List aM}{P:List NV}{C:Cx}{S S':Dr}{d d1:Dk}{r er Nb:Int}{cq:qV}{fn:Nat}{c1 c2:Value}{ed:List En->List En}{U U':aM}{key:ByteArray}{es0:List En}
theorem DL.one (h:Sep B w0 w (DL C S d P l))(x:Int):Sep B w0 (w.alloc (.cells #[.int .i64 x] 3)) (DL C S d ((⟨none,0,some ⟨w.heap.size,0,none⟩,1,none,0,⟨false,[],[x],[]⟩⟩:NV)::P) l):=by
 refine DL.add h ((Below.refl _ w).alloc (Nat.le_refl _) _) ⟨Own.nil,?_,Own.nil⟩;refine⟨_,1,rfl,Nat.le_refl _,(fun e=>by cases e),fun _=>⟨w.heap.size,0,rfl,Nat.le_refl _,by simp,fun t ht=>?_⟩⟩;have ht':t< [x].toArray.size*1:=by simpa using ht
 have h0:t=0:=by simp at ht';exact ht'
 subst h0;refine⟨?_,by simp⟩;rw[get_flatK _ _ _ _ ht',Nat.div_one,Nat.mod_one];simp[N.encI]
def GT (B:Nat)(w0:World)(C:Cx)(S':Dr)(d:Dk)(P:List NV)(l:List aM)(U U':aM)(r er:Int)(e:Ending)(w':World):Prop:=
 ∃P' d' V,(∀x∈P,x∈P')∧(V=U∨V=U')∧(er=0->V=U')∧e=.returned (.tuple #[.int .i64 r,.int .i64 er])∧bH d d'∧Sep B w0 w' (DL C S' d' P' (V::l))
theorem Ez:(∀(T:bW B w0) (hst:aW B w0 C d Nb cq) (dY:∀ {S S':Dr} {n:Nd} {depth i tt:Int} {r:Nd×Int},DI S d.room->cq S n depth i tt=some (r,S')->DI S' d.room) (fc:∀ {S9 S8:Dr} {n9:Nd} {i9 j9 k9:Int} {r9:Nd×Int},cq S9 n9 i9 j9 k9=some (r9,S8)->cB n9=true) (tO:nN B w0 C 46 c1 c2 ed es0 U U') (hlf:uu d key es0 30 S ⟨false,[],[C.root],[]⟩ (-1)) (hel:∀es,(ed es).length<=es.length+1) (hr:d.room<=16384) (hNb:Nb<=1000000) (hN0:29<=Nb) (hd:bH d d1) (h:Sep B w0 w (DL C S d1 P (U::l))) (I:DI S d.room) (he:kA cq d.room d key ed C.root S=some ((r,er),S')),Calls Tryz.prog 65 #[ptr C.q,.string key,.func (.func 46) #[] #[c1,c2]] w (GT B w0 C S' d P l U U' r er))∧
  (∀(T:bW B w0) (hst:aW B w0 C d Nb cq) (dY:∀ {S S':Dr} {n:Nd} {depth i tt:Int} {r:Nd×Int},DI S d.room->cq S n depth i tt=some (r,S')->DI S' d.room) (fc:∀ {S9 S8:Dr} {n9:Nd} {i9 j9 k9:Int} {r9:Nd×Int},cq S9 n9 i9 j9 k9=some (r9,S8)->cB n9=true) (tO:nN B w0 C 62 c1 c2 ed es0 U U') (hlf:uu d key es0 30 S ⟨false,[],[C.root],[]⟩ (-1)) (hel:∀es,(ed es).length<=es.length+1) (hr:d.room<=16384) (hNb:Nb<=1000000) (hN0:29<=Nb) (hd:bH d d1) (h:Sep B w0 w (DL C S d1 P (U::l))) (I:DI S d.room) (he:kA cq d.room d key ed C.root S=some ((r,er),S')),Calls Tryz.prog 65 #[ptr C.q,.string key,.func (.func 62) #[] #[c1,c2]] w (GT B w0 C S' d P l U U' r er)):=by
 refine⟨have jq:=trivial; ?_,have fC:=trivial; ?_⟩
 all_goals
  intro T hst dY fc tO hlf hel hr hNb hN0 hd h I he;have Hd:Hid _:=DL.one h C.root;obtain⟨mm,va,vb,qs,⟨x0,x1,x2,x3,x4⟩,_⟩:=DL.qY h;obtain⟨ts,⟨t0,t1,t2⟩,_⟩:=Sep.Co (Sep.pk [_,_] (h));have HD:Hid (bH d d1):=hd;have HI:Hid (DI S d.room):=I;have HT:Hid (aW B w0 C d Nb cq):=hst;have WO:Hid (∀(S S':Dr) (n:Nd) (depth i tt:Int) (r:Nd×Int),DI S d.room->cq S n depth i tt=some (r,S')->DI S' d.room):=fun _ _ _ _ _ _ _ h1 h2=>dY h1 h2;have Z9:Hid (∀(S9 S8:Dr) (n9:Nd) (i9 j9 k9:Int) (r9:Nd×Int),cq S9 n9 i9 j9 k9=some (r9,S8)->cB n9=true):=fun _ _ _ _ _ _ _ h=>fc h;have HX:Hid (d.room<=16384∧Nb<=1000000∧29<=Nb):=⟨hr,hNb,hN0⟩;have hE:=he;unfold kA at hE;cases hcd:bu cq d.room d key ed 30 S ⟨false,[],[C.root],[]⟩ (-1)with
  |none=>
   rw[hcd]at hE;cases hE
  |some rr=>
  obtain⟨⟨top,c9,e9⟩,S9⟩:=rr;rw[hcd]at hE;simp only at hE;have I9:Hid (DI S9 d.room):=DI.changed (fun h1 h2=>dY h1 h2) 30 I hcd
  first
   |have zz:=jq
    have KC:Hid (Calls Tryz.prog 90 #[ptr C.q,.agg #[.bool false,.slice none 0 0,.slice (some ⟨w.heap.size,0,none⟩) 1 1,.slice none 0 0],.int .i64 (-1),.string key,.func (.func 46) #[] #[c1,c2]] (w.alloc (.cells #[.int .i64 C.root] 3)) (GC B w0 C S9 d ((⟨none,0,some ⟨w.heap.size,0,none⟩,1,none,0,⟨false,[],[C.root],[]⟩⟩:NV)::P) l U U' top c9 e9)):=nO T hst (fun h1 h2=>dY h1 h2) (fun h=>fc h) tO hel hr hNb 30 (p:=(⟨none,0,some ⟨w.heap.size,0,none⟩,1,none,0,⟨false,[],[C.root],[]⟩⟩:NV)) (by omega) (by omega) Hd.out hd List.mem_cons_self I hlf hcd
   |have KC:Hid (Calls Tryz.prog 90 #[ptr C.q,.agg #[.bool false,.slice none 0 0,.slice (some ⟨w.heap.size,0,none⟩) 1 1,.slice none 0 0],.int .i64 (-1),.string key,.func (.func 62) #[] #[c1,c2]] (w.alloc (.cells #[.int .i64 C.root] 3)) (GC B w0 C S9 d ((⟨none,0,some ⟨w.heap.size,0,none⟩,1,none,0,⟨false,[],[C.root],[]⟩⟩:NV)::P) l U U' top c9 e9)):=nP T hst (fun h1 h2=>dY h1 h2) (fun h=>fc h) tO hel hr hNb 30 (p:=(⟨none,0,some ⟨w.heap.size,0,none⟩,1,none,0,⟨false,[],[C.root],[]⟩⟩:NV)) (by omega) (by omega) Hd.out hd List.mem_cons_self I hlf hcd
  have hE':Hid ((if e9≠0∨c9=false then some ((C.root,e9),S9)else match kv cq d.room 10 S9 top with|none=>none|some ((m,e2),S2)=>if e2≠0 then some ((0,e2),S2)else if m.ks.length=0 then some ((0,0),S2)else if S2.bot< -1000∨1000<S2.bot∨cB m=false then none else dM d 24 S2 (m.ks.getD 0 0) 0)=some ((r,er),S')):=hE;clear hlf h hd I he hE hcd hst dY fc tO hel hr hNb hN0;go_enter Tryz.func65,Tryz.ntmps65
  go_wp2_with fail
  clear x0 x1 x2 x3 x4 t0 t1 t2 qs ts Hd;refine Calls.mono KC.out ?_;rintro e v2 ⟨pt,P1,d2,V,hn,hm,hs,hV,QE,rfl,hd2,s2⟩;subst hn;have D2:Hid (bH d d2):=hd2;have M1:Hid (∀x∈P,x∈P1):=fun x hx=>hs x (List.mem_cons_of_mem _ hx);have MT:Hid (pt∈P1):=hm;have HV:Hid ((V=U∨V=U')∧(e9=0->V=U')):=⟨hV,QE⟩;clear KC hd2 hs hm hV QE;by_cases h9:e9≠0∨c9=false
  ·have hE:=hE'.out;rw[if_pos h9]at hE;obtain⟨hr',he',hS⟩:C.root=r∧e9=er∧S9=S':=by
    cases hE;exact⟨rfl,rfl,rfl⟩
   have HRR:Hid (C.root=r):=hr';subst he' hS;have SF:Hid (Sep B w0 (v2.alloc (.cells (cN pt) 170)) (DL C S9 d2 P1 (V::l))):=s2.alloc _;obtain⟨mm,va,vb,qs,⟨x0,x1,x2,x3,x4⟩,_⟩:=DL.qY s2;obtain⟨ts,⟨t0,t1,t2⟩,_⟩:=Sep.Co (Sep.pk [_,_] (s2));rw[hr']at t1;clear s2 hE hE' hr';by_cases h8:e9≠0
   ·have hne:(e9 != 0)=true:=bne_iff_ne.2 h8;clear h8 h9;go_wp2;go_ret2;exact⟨P1,d2,V,M1.out,HV.out.1,HV.out.2,rfl,D2.out,SF.out⟩
   ·have TW:e9=0:=by simpa using h8
    have TY:c9=false:=by
     rcases h9 with h|h
     ·exact absurd h h8
     ·exact h
    subst TW TY;have yE:Hid (V=U'):=HV.out.2 rfl;clear h8 h9 HV;go_wp2;go_ret2;exact⟨P1,d2,V,M1.out,.inr yE.out,fun _=>yE.out,rfl,D2.out,SF.out⟩
  ·have TW:e9=0:=by
    by_cases h:e9=0
    ·exact h
    ·exact absurd (.inl h) h9
   have TY:c9=true:=by
    cases hc:c9
    ·exact absurd (.inr hc) h9
    ·rfl
   subst TW TY;have yE:Hid (V=U'):=HV.out.2 rfl;have hE:=hE'.out;rw[if_neg h9]at hE;have HE:Hid ((match kv cq d.room 10 S9 pt.n with|none=>none|some ((m,e2),S2)=>if e2≠0 then some ((0,e2),S2)else if m.ks.length=0 then some ((0,0),S2)else if S2.bot< -1000∨1000<S2.bot∨cB m=false then none else dM d 24 S2 (m.ks.getD 0 0) 0)=some ((r,er),S')):=hE;have S3:Hid (Sep B w0 (v2.alloc (.cells (cN pt) 170)) (DL C S9 d2 P1 (V::aF v2.heap.size (.cells (cN pt) 170)::l))):=Sep.pb [_,_,_,_,_,_] (s2.aO _);clear s2 hE hE' h9 HV;go_wp2;generalize World.alloc _ _=v3 at*;generalize v2.heap.size=q8 at*
   go_loopg [10] 10 (fun kx s10 wr=>∃(f:Nat) (Sc:Dr) (pc:NV) (Pc:List NV) (dc:Dk),f<=kx∧Hid ((match kv cq d.room f Sc pc.n with|none=>none|some ((m,e2),S2)=>if e2≠0 then some ((0,e2),S2)else if m.ks.length=0 then some ((0,0),S2)else if S2.bot< -1000∨1000<S2.bot∨cB m=false then none else dM d 24 S2 (m.ks.getD 0 0) 0)=some ((r,er),S'))∧Hid (DI Sc d.room)∧Hid (pc∈Pc∧∀x∈P,x∈Pc)∧Hid (bH d dc)∧Hid (Sep B w0 wr (DL C Sc dc Pc (V::aF q8 (.cells (cN pc) 170)::l))))
   case atStart=>exact⟨10,S9,pt,P1,d2,Nat.le_refl _,HE.out,I9.out,⟨MT.out,M1.out⟩,D2.out,S3.out⟩
   case round=>
    clear S3 D2 MT M1 I9 HE;obtain⟨f,Sc,pc,Pc,dc,hfk,HE,IC,uU,HD2,HS⟩:=hrel;cases f with
    |zero=>
     have:=HE.out;cases this
    |succ f=>
    have hE:=HE.out;unfold kv at hE;by_cases hsm:cB pc.n=false
    ·rw[if_pos hsm]at hE;cases hE
    rw[if_neg hsm]at hE;have SMC:Hid (cB pc.n=true):=by show _=true;simpa using hsm
    clear hsm HE;obtain⟨_,⟨y0,y1,y2,y3⟩,g0,g1,g2,g3⟩:=Sep.c4 (Sep.pk [_,_,_,_,_,_] (HS.out));by_cases hks:1<pc.n.ks.length
    ·rw[if_pos hks]at hE;have aaa:(1:Int)< (pc.n.ks.length:Int):=by omega
     by_cases hb:Sc.bot< -1000∨1000<Sc.bot
     ·rw[if_pos hb]at hE;cases hE
     rw[if_neg hb]at hE;cases hpl:ei cq d.room ⟨Sc.x,Sc.nodes,Sc.cnt,Sc.taken,Sc.spare,Sc.bot+1⟩ ⟨false,[],[0],[]⟩ 0 (-1) nd0 pc.n with
     |none=>
      rw[hpl]at hE;cases hE
     |some rr=>
     obtain⟨⟨m1,e1⟩,S1⟩:=rr;rw[hpl]at hE;have IP:Hid (DI S1 d.room):=DI.place (cq:=cq) (S:=⟨Sc.x,Sc.nodes,Sc.cnt,Sc.taken,Sc.spare,Sc.bot+1⟩) (fun h1 h2=>WO.out _ _ _ _ _ _ _ h1 h2) ⟨IC.out.ok,IC.out.sz,IC.out.ns⟩ hpl;obtain⟨mm,va,vb,qs,⟨x0,x1,x2,x3,x4⟩,xf,_⟩:=DL.qY HS.out;have f4:=xf 4;have wb:IntKind.i64.wrap (Sc.bot+1)=Sc.bot+1:=bM (by omega) (by omega);have S5:Hid (Sep B w0 ((wr.setCell ⟨C.q,4,none⟩ (.int .i64 (Sc.bot+1))).alloc (.cells #[.int .i64 0] 3)) (DL C ⟨Sc.x,Sc.nodes,Sc.cnt,Sc.taken,Sc.spare,Sc.bot+1⟩ dc (pZ::(⟨none,0,some ⟨wr.heap.size,0,none⟩,1,none,0,⟨false,[],[0],[]⟩⟩:NV)::Pc) (V::aF q8 (.cells (cN pc) 170)::l))):=by
      have h1:=DL.zero (DL.one (Sep.Cu HS.out (Sc.bot+1)) 0);rw[show(wr.setCell ⟨C.q,4,none⟩ (.int .i64 (Sc.bot+1))).heap.size=wr.heap.size by simp]at h1;exact h1
     have KP:Hid (Calls Tryz.prog 91 #[ptr C.q,.agg #[.bool false,.slice none 0 0,.slice (some ⟨wr.heap.size,0,none⟩) 1 1,.slice none 0 0],.int .i64 0,.int .i64 (-1),.agg cZ,.agg (cN pc)] ((wr.setCell ⟨C.q,4,none⟩ (.int .i64 (Sc.bot+1))).alloc (.cells #[.int .i64 0] 3)) fun e w'=>∃pm P' d',pm.n=m1∧pm∈P'∧(∀x∈pZ::(⟨none,0,some ⟨wr.heap.size,0,none⟩,1,none,0,⟨false,[],[0],[]⟩⟩:NV)::Pc,x∈P')∧e=.returned (.tuple #[.agg (cN pm),.int .i64 e1])∧bH d d'∧Sep B w0 w' (DL C S1 d' P' (V::aF q8 (.cells (cN pc) 170)::l))):=Ey (p:=(⟨none,0,some ⟨wr.heap.size,0,none⟩,1,none,0,⟨false,[],[0],[]⟩⟩:NV)) (pw:=pZ) (pi:=pc) T HT.out (fun h1 h2=>WO.out _ _ _ _ _ _ _ h1 h2) HD2.out S5.out (List.mem_cons_of_mem _ List.mem_cons_self) List.mem_cons_self (List.mem_cons_of_mem _ (List.mem_cons_of_mem _ uU.out.1)) ⟨IC.out.ok,IC.out.sz,IC.out.ns⟩ HX.out.1 (by omega) (by have:=HX.out;omega) HX.out.2.1 (fun h=>Z9.out _ _ _ _ _ _ _ h) hpl;have hE2:Hid ((match(if e1≠0 then some ((m1,e1),S1)else kv cq d.room f S1 m1)with|none=>none|some ((m,e2),S2)=>if e2≠0 then some ((0,e2),S2)else if m.ks.length=0 then some ((0,0),S2)else if S2.bot< -1000∨1000<S2.bot∨cB m=false then none else dM d 24 S2 (m.ks.getD 0 0) 0)=some ((r,er),S')):=hE;obtain⟨_,⟨z0,z1,z2,z3⟩,_⟩:=Sep.c4 (Sep.pk [_,_,_,_,_,_] ((Sep.Cu HS.out (Sc.bot+1))));clear hE hpl xf HS hb
     go_wp2_with fail
     clear y0 y1 y2 y3 z0 z1 z2 z3 x0 x1 x2 x3 x4 f4 wb qs g0 g1 g2 g3;refine Calls.mono KP.out ?_;rintro e v5 ⟨pm,P4,d4,hn4,WQ,hs4,rfl,hd4,s5⟩;subst hn4;have D4:Hid (bH d d4):=hd4;have M4:Hid (∀x∈P,x∈P4):=fun x hx=>hs4 x (List.mem_cons_of_mem _ (List.mem_cons_of_mem _ (uU.out.2 x hx)));have MM:Hid (pm∈P4):=WQ;obtain⟨_,⟨y0,y1,y2,y3⟩,g0,g1,g2,g3⟩:=Sep.c4 (Sep.pk [_,_,_,_,_,_] (s5));have SF:Hid (Sep B w0 ((((v5.setCell ⟨q8,0,none⟩ (.bool pm.n.leaf)).setCell ⟨q8,1,none⟩ (.slice pm.ae pm.n.es.length pm.ce)).setCell ⟨q8,2,none⟩ (.slice pm.ak pm.n.ks.length pm.ck)).setCell ⟨q8,3,none⟩ (.slice pm.az pm.n.ss.length pm.cz)) (DL C S1 d4 P4 (V::aF q8 (.cells (cN pm) 170)::l))):=Sep.pb [_,_,_,_,_,_] (Sep.s4 (Sep.pk [_,_,_,_,_,_] (s5)) _ _ _ _);clear s5 hd4 hs4 WQ KP S5 HD2 uU;by_cases he1:e1≠0
     ·have hE:=hE2.out;rw[if_pos he1]at hE;simp only[ne_eq,he1,not_false_eq_true,if_true]at hE;obtain⟨hr',he',hS⟩:0=r∧e1=er∧S1=S':=by
       cases hE;exact⟨rfl,rfl,rfl⟩
      subst hr' he' hS;have hne:(e1 != 0)=true:=bne_iff_ne.2 he1;have Pu:Hid (e1≠0):=he1;clear hE hE2 he1;go_wp2;go_ret2;exact⟨P4,d4,V,M4.out,.inr yE.out,fun _=>yE.out,rfl,D4.out,Sep.drop (Sep.pk [_,_,_,_,_,_] (SF.out))⟩
     ·have hE:=hE2.out;rw[if_neg he1]at hE;have e10:e1=0:=by simpa using he1
      subst e10;have WM:Hid ((match kv cq d.room f S1 pm.n with|none=>none|some ((m,e2),S2)=>if e2≠0 then some ((0,e2),S2)else if m.ks.length=0 then some ((0,0),S2)else if S2.bot< -1000∨1000<S2.bot∨cB m=false then none else dM d 24 S2 (m.ks.getD 0 0) 0)=some ((r,er),S')):=hE;clear hE hE2 he1;go_wp2
      all_goals go_roundg f
      case measure=>omega
      case rel=>exact⟨f,S1,pm,P4,d4,Nat.le_refl _,WM.out,IP.out,⟨MM.out,M4.out⟩,D4.out,SF.out⟩
    ·rw[if_neg hks]at hE;simp only[ne_eq,not_true_eq_false,if_false]at hE;have aaa:¬(1:Int)< (pc.n.ks.length:Int):=by omega
     by_cases hk0:pc.n.ks.length=0
     ·rw[if_pos hk0]at hE;obtain⟨hr',he',hS⟩:0=r∧0=er∧Sc=S':=by
       cases hE;exact⟨rfl,rfl,rfl⟩
      subst hr' he' hS;have h0I:((pc.n.ks.length:Int)==0)=true:=by rw[hk0];rfl
      have SF:Hid (Sep B w0 wr (DL C Sc dc Pc (V::l))):=Sep.drop (Sep.pk [_,_,_,_,_,_] (HS.out));clear hE hk0 hks HS;go_wp2;go_ret2;exact⟨Pc,dc,V,uU.out.2,.inr yE.out,fun _=>yE.out,rfl,HD2.out,SF.out⟩
     ·rw[if_neg hk0]at hE;by_cases hb:Sc.bot< -1000∨1000<Sc.bot∨cB pc.n=false
      ·rw[if_pos hb]at hE;cases hE
      rw[if_neg hb]at hE;have WK:Hid (Wf (pc.n.ks.getD 0 0)):=(fe SMC.out).2.2.2.2 _ (dR (by omega));have KL:Hid _:=Kw (id:=pc.n.ks.getD 0 0) T HD2.out HS.out IC.out HX.out.1 WK.out (by omega) (by omega) hE;have h0I:((pc.n.ks.length:Int)==0)=false:=beq_eq_false_iff_ne.2 (by omega);have hlp:(0:Int)< (pc.n.ks.length:Int):=by omega
      have hpos:0<pc.n.ks.length:=by omega
      obtain⟨ae,ce,ak,ck,az,cz,n⟩:=pc;simp only at*;obtain⟨rr,ro,hak,hrs,hrc⟩:=NV.kid (p:=(⟨ae,ce,ak,ck,az,cz,n⟩:NV)) (DL.nd HS.out uU.out.1) (i:=0) hpos;simp only at hak hrc;subst hak;rw[Nat.add_zero]at hrc;generalize n.ks.getD 0 0=kid at*;clear hE hb hk0 hks HS
      go_wp2_with fail
      refine Calls.mono KL.out ?_;rintro e v5 ⟨P5,d5,hs5,rfl,hd5,s5⟩;have SF:Hid (Sep B w0 v5 (DL C S' d5 P5 (V::l))):=Sep.drop (Sep.pk [_,_,_,_,_,_] (s5));have M5:Hid (∀x∈P,x∈P5):=fun x hx=>hs5 x (uU.out.2 x hx);have D5:Hid (bH d d5):=hd5;clear s5 hs5 hd5 KL uU;go_wp2;go_ret2;exact⟨P5,d5,V,M5.out,.inr yE.out,fun _=>yE.out,rfl,D5.out,SF.out⟩
end
end
end Go.Proofs.YtcenfooehjcddaaGreatDoor
namespace Go.Proofs.YtcenfooehjcddaaGreatDoor
section
open N
def bG (tt k:ByteArray):Bool:=decide (tt=⟨#[]⟩)||bB k tt
def kB (ss:List ByteArray)(i:Nat)(fr:ByteArray):ByteArray:=if 0<i∧bB fr (ss.getD (i-1) ⟨#[]⟩)=true then ss.getD (i-1) ⟨#[]⟩else fr
def iu (ss:List ByteArray)(i:Nat)(tt:ByteArray):ByteArray:=if i<ss.length∧bG tt (ss.getD i ⟨#[]⟩)=true then ss.getD i ⟨#[]⟩else tt
section
variable {σ:Type}
def xV (st:σ->En->σ×Bool)(tt:ByteArray):List En->σ->σ×Option Bool
 |[],s=>(s,none)
 |e::l,s=>if bG tt e.1=false then(s,some true)else if(st s e).2=false then((st s e).1,some false)else xV st tt l (st s e).1
def jf (rec:σ->Int->ByteArray->ByteArray->Option (σ×(Bool×Int)))(n:Nd)(fr tt:ByteArray):Nat->Nat->σ->Option (σ×(Bool×Int))
 |0,_,s=>some (s,(true,0))
 |k+1,i,s=>if n.ss.length<i then none else if bG (iu n.ss i tt) (kB n.ss i fr)=false then some (s,(true,0))else
  match rec s (n.ks.getD i 0) (kB n.ss i fr) (iu n.ss i tt)with
  |none=>none
  |some (s1,(m,e))=>if e≠0∨m=false then some (s1,(false,e))else jf rec n fr tt k (i+1) s1
def gu (x:TX)(d:Dk)(st:σ->En->σ×Bool):Nat->σ->Int->Int->ByteArray->ByteArray->Option (σ×(Bool×Int))
 |0,_,_,_,_,_=>none
 |f+1,s,id,depth,fr,tt=>
  if(dX x d id depth).2≠0 then some (s,(false,(dX x d id depth).2))
  else if(cB (dX x d id depth).1&&dF (dX x d id depth).1)=false∨1000<depth then none
  else match(xV st tt ((dX x d id depth).1.es.drop (jn (dX x d id depth).1.es fr)) s).2 with
   |some b=>some ((xV st tt ((dX x d id depth).1.es.drop (jn (dX x d id depth).1.es fr)) s).1,(b,0))
   |none=>jf (fun s id fr tt=>gu x d st f s id (depth+1) fr tt) (dX x d id depth).1 fr tt ((dX x d id depth).1.ks.length-dD (dX x d id depth).1.ss fr) (dD (dX x d id depth).1.ss fr) (xV st tt ((dX x d id depth).1.es.drop (jn (dX x d id depth).1.es fr)) s).1
theorem ri {m:σ->Nat}{st:σ->En->σ×Bool}(hm:∀s e,m s<=m (st s e).1)(tt:ByteArray):∀(l:List En) (s:σ),m s<=m (xV st tt l s).1
 |[],s=>Nat.le_refl _
 |e::l,s=>by
  rw[xV];split
  ·exact Nat.le_refl _
  ·split
   ·exact hm s e
   ·exact Nat.le_trans (hm s e) (ri hm tt l _)
theorem lh {m:σ->Nat}{rec:σ->Int->ByteArray->ByteArray->Option (σ×(Bool×Int))}(hr:∀s k f t s' r,rec s k f t=some (s',r)->m s<=m s')(n:Nd)(fr tt:ByteArray):∀(k i:Nat) (s s':σ) (r:Bool×Int),jf rec n fr tt k i s=some (s',r)->m s<=m s'
 |0,i,s,s',r,h=>by cases h;exact Nat.le_refl _
 |k+1,i,s,s',r,h=>by
  rw[jf]at h;split at h
  ·cases h
  ·split at h
   ·cases h;exact Nat.le_refl _
   ·split at h
    ·cases h
    ·rename_i s1 mm e he
     have h1:=hr _ _ _ _ _ _ he;split at h
     ·cases h;exact h1
     ·exact Nat.le_trans h1 (lh hr n fr tt k (i+1) s1 s' r h)
theorem oY {m:σ->Nat}{st:σ->En->σ×Bool}(hm:∀s e,m s<=m (st s e).1)(x:TX)(d:Dk):∀(f:Nat) (s:σ) (id depth:Int) (fr tt:ByteArray) (s':σ) (r:Bool×Int),gu x d st f s id depth fr tt=some (s',r)->m s<=m s'
 |0,_,_,_,_,_,_,_,h=>by cases h
 |f+1,s,id,depth,fr,tt,s',r,h=>by
  rw[gu]at h;split at h
  ·cases h;exact Nat.le_refl _
  ·split at h
   ·cases h
   ·split at h
    ·cases h;exact ri hm tt _ s
    ·exact Nat.le_trans (ri hm tt _ s) (lh (fun s k f' t s' r hh=>oY hm x d f s k (depth+1) f' t s' r hh) _ _ _ _ _ _ _ _ h)
def nS (st:σ->En->σ×Bool):List En->σ->σ×Bool
 |[],s=>(s,true)
 |e::l,s=>if(st s e).2=false then((st s e).1,false)else nS st l (st s e).1
def gj (fr tt:ByteArray)(l:List En):List En:=l.filter fun e=>!bB e.1 fr&&bG tt e.1
end
def Gu (x:TX)(d:Dk)(key:ByteArray):Nat->Nd->Int->Int->Option (Nd×Int)
 |0,_,_,_=>none
 |f+1,n,e,depth=>if e=0∧n.leaf=false then(if cB n=false∨n.ks.length<=dD n.ss key∨1000<depth then none else
   Gu x d key f (dX x d (n.ks.getD (dD n.ss key) 0) depth).1 (dX x d (n.ks.getD (dD n.ss key) 0) depth).2 (depth+1))else some (n,e)
end
end Go.Proofs.YtcenfooehjcddaaGreatDoor
