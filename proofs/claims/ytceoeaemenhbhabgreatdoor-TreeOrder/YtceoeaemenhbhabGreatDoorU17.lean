/- Walks of the package cowtree and of what it stands on: lemmas, made short. -/
import Derived.Test.YtceoeaemenhbhabGreatDoorU16
import Derived.Deep.QuietTactic
set_option maxHeartbeats 16000000
set_option maxRecDepth 100000
set_option linter.unusedVariables false
set_option linter.unusedSimpArgs false
namespace Go.Proofs.YtceoeaemenhbhabGreatDoor
open Go.Shelf Go.RowKit Go.Lib Go.Sort
namespace P
open N (Nd En eK cF gp ie fY kJ Rg bh cA cI dG Sm aT hidR ar aj Ch aM ah waits)
section
variable {ops:Array Oper}{o:Oper}{a:Act}{K:Act->World->Prop}{Q:Exit->Act->World->Prop}{E:Prop}{B:Nat}{w0 w:World}{l:List aP}{P:Program}{e t:TypeId}{k n bytes r c:Nat}{z:Value}{cs news:List Value}{s x:Operand}
theorem PO (hg:o.guard=none)(ho:o.op=.call {callee:=.builtin .append,args:=#[s,x],argTypes:=#[t,t]})(JU:(P.info? e).map (fun i=>(i.zero,i.size,i.bytes))=some (some z,k,bytes))(ht:P.underlying t=some (.slice e))(hz:z.cells.size=k)(hk:0<k)(hby:bytes<=1000)
  (v:Value)(hs:a.eval s=v)(h:Sep B w0 w (RowK e k v n cs::l))(hx:a.eval x=.slice (some ⟨r,0,none⟩) 1 c)(hnews:∀j u,news[j]? =some u->w.cell? ((⟨r,0,none⟩:Addr).add j)=some u)(hlen:news.length=k)(h1:∀u∈news,u.oneCell'=true)(hn:n<1000000)
  (hK:∀ao c' w',Sep B w0 w' (RowK e k (.slice ao (n+1) c') (n+1) (cs++news)::l)->K (a.put o.dst (.slice ao (n+1) c')) w'):
  if Region.wanted o (yielded ops a.tmps)=true then Oper.wp P o a w K Q else E:=by
 have hw:Region.wanted o (yielded ops a.tmps)=true:=by simp[Region.wanted,hg]
 rw[if_pos hw];obtain⟨i0,hi,hz0,hz1,hz2⟩:=info_parts JU;obtain⟨v',w',hr,h2,h3,h4,h5⟩:=run_append_own_at (P:=P) w 0 t o.type e i0 z k bytes ht hi hz0 hz1 hz2 hz hk v n cs h.EI ⟨r,0,none⟩ 1 c news (by omega) hnews h1 (by unfold maxLen;omega) (Nat.le_trans (Nat.mul_le_mul (show n+1<=1000000 by omega) hby) (by decide)) (Nat.zero_le _);unfold Oper.wp execOp;simp only[ho,resolve,invoke,builtin,Sem.run_bind,Sem.run_pure,Result.andThen_ok,List.map_toArray,List.map_cons,List.map_nil,hs,hx,hr];obtain⟨cW,n',c',rfl⟩:∃ao n c,v'=.slice ao n c:=by
  rcases h2.2 with⟨h,_⟩| ⟨g,cap,cur,h,_⟩
  ·exact⟨_,_,_,h⟩
  ·exact⟨_,_,_,h⟩
 obtain rfl:n'=n+1:=by
  rcases h2.2 with⟨_,h⟩| ⟨g,cap,cur,h,_⟩
  ·omega
  ·cases h;rfl
 exact hK _ _ _ (om h h2 h3 h5)
end
def iw (v:Value)(V:List kH):aP:=RowK 81 6 v V.length (V.flatMap lK)
def j6 (q:Nat)(sl:Value)(ix:Nat)(lf:Int)(vo:Value):aP:=aF q (.cells #[sl,.int .i64 (ix:Int),.int .i64 lf,vo] 120)
section
variable {B:Nat}{w0 w:World}{L:List aP}{q ix cv:Nat}{av:Option Addr}{lf dp:Int}{vo:Value}{V:List kH}{out:List En}{lo hi:ByteArray}
theorem Kr {V:List kH}{k:Nat}{v:kH}(h:V[k]? =some v):∀j,j<6->(V.flatMap lK)[k*6+j]? =(lK v)[j]? :=by
 induction V generalizing k with
 |nil=>simp at h
 |cons u V ih=>
  intro j hj;rw[List.flatMap_cons];have hl:(lK u).length=6:=rfl;cases k with
  |zero=>
   simp at h;subst h;rw[Nat.zero_mul,Nat.zero_add,List.getElem?_append_left (by rw[hl];exact hj)]
  |succ k=>
   rw[List.getElem?_append_right (by omega),hl,show(k+1)*6+j-6=k*6+j by omega];exact ih (by simpa using h) j hj
theorem wU {V:List kH}:(V.flatMap lK).length=V.length*6:=by
 induction V with
 |nil=>rfl
 |cons u V ih=>rw[List.flatMap_cons,List.length_append,ih,List.length_cons];show 6+_=_;omega
theorem oo (h:Sep B w0 w (iw (.slice av V.length cv) V::L)){v:kH}(hv:V[ix]? =some v):∃r,av=some ⟨r,0,none⟩∧r<w.heap.size∧(w.cell? ⟨r,ix*6,none⟩=some (.int .i64 v.1)∧w.cell? ⟨r,ix*6+1,none⟩=some (.int .i64 v.2.1)∧w.cell? ⟨r,ix*6+2,none⟩=some (.bool v.2.2.n.leaf))∧
  w.cell? ⟨r,ix*6+3,none⟩=some (.slice v.2.2.ae v.2.2.n.es.length v.2.2.ce)∧w.cell? ⟨r,ix*6+4,none⟩=some (.slice v.2.2.ak v.2.2.n.ks.length v.2.2.ck)∧w.cell? ⟨r,ix*6+5,none⟩=some (.slice v.2.2.az v.2.2.n.ss.length v.2.2.cz):=by
 have hlt:ix<V.length:=by
  rcases Nat.lt_or_ge ix V.length with h|h
  ·exact h
  ·rw[List.getElem?_eq_none h]at hv;cases hv
 obtain⟨rq,cq,ev,_,hrq,hcell⟩:=Sep.gh h (by rw[wU];omega);obtain rfl:av=some ⟨rq,0,none⟩:=by injection ev
 have hl:=wU (V:=V);have f:=Kr hv;refine⟨rq,rfl,hrq,⟨?_,?_,?_⟩,?_,?_,?_⟩
 ·rw[hcell _ (by omega)];exact f 0 (by omega)
 ·rw[hcell _ (by omega)];exact f 1 (by omega)
 ·rw[hcell _ (by omega)];exact f 2 (by omega)
 ·rw[hcell _ (by omega)];exact f 3 (by omega)
 ·rw[hcell _ (by omega)];exact f 4 (by omega)
 ·rw[hcell _ (by omega)];exact f 5 (by omega)
theorem OJ {B:Nat}{w0 w3:World}{q ix c3:Nat}{sl vo:Value}{lf:Int}{o:List En}{y:En}{lN:Option Addr}{b1 b2 Pb:aP}{T:List aP}(s4:Sep B w0 w3 (RowK 38 2 (.slice lN (o.length+1) c3) (o.length+1) ((flatK N.aG 2 o.toArray).toList++N.aG y)::b1::b2::Pb::j6 q sl ix lf vo::T)):
  Sep B w0 (w3.setCell ⟨q,3,none⟩ (.slice lN (o.length+1) c3)) (Pb::j6 q sl ix lf (.slice lN (o.length+1) c3)::gX (.slice lN (o.length+1) c3) (o++[y])::T):=by
 have h1:=Sep.gC (x:=.slice lN (o.length+1) c3) (Sep.iU (PJ s4)) 3;have h2:=Sep.drop (Sep.lr h1);have h3:=Sep.drop (Sep.lr h2);exact Sep.lr h3
theorem c6 {B:Nat}{w0 w:World}{q:Nat}{a0 a1 a2 a3 a4 a5:Value}{ty:TypeId}{l:List aP}(h:Sep B w0 w (aF q (.cells #[a0,a1,a2,a3,a4,a5] ty)::l)):q<w.heap.size∧(w.cell? ⟨q,0,none⟩=some a0∧w.cell? ⟨q,1,none⟩=some a1∧w.cell? ⟨q,2,none⟩=some a2∧w.cell? ⟨q,3,none⟩=some a3∧w.cell? ⟨q,4,none⟩=some a4∧w.cell? ⟨q,5,none⟩=some a5)∧
  w.frozen? ⟨q,0,none⟩=false∧w.frozen? ⟨q,1,none⟩=false∧w.frozen? ⟨q,2,none⟩=false∧w.frozen? ⟨q,3,none⟩=false∧w.frozen? ⟨q,4,none⟩=false∧w.frozen? ⟨q,5,none⟩=false:=by
 have hb:=h.blk;refine⟨(Array.getElem?_eq_some_iff.1 hb).1,⟨?_,?_,?_,?_,?_,?_⟩,?_,?_,?_,?_,?_,?_⟩<;>simp[World.cell?,World.frozen?,hb]
def Li (B:Nat)(w0:World)(q ix cv p r nV:Nat)(lf:Int)(vo:Value)(LL:List aP)(f10:Bool)(w:World):Prop:=
 (f10=false->w.heap.size=p∧Sep B w0 w (j6 q (.slice (some ⟨r,0,none⟩) nV cv) ix lf vo::LL))∧(f10=true->Sep B w0 w (aF p (.cells #[.int .i64 0,.int .i64 0,.bool false,.slice none 0 0,.slice none 0 0,.slice none 0 0] 81)::j6 q (.slice (some ⟨r,0,none⟩) nV cv) ix lf vo::LL))
end
section
variable {B:Nat}{w0 w:World}{q ix cv p r nV:Nat}{lf:Int}{vo:Value}{LL:List aP}{f10:Bool}
theorem Li.sep (h:Li B w0 q ix cv p r nV lf vo LL f10 w):Sep B w0 w (j6 q (.slice (some ⟨r,0,none⟩) nV cv) ix lf vo::LL):=by
 cases f10
 ·exact(h.1 rfl).2
 ·exact Sep.drop (h.2 rfl)
theorem Li.wk (h:Li B w0 q ix cv p r nV lf vo LL f10 w):w.cell? ⟨q,0,none⟩=some (.slice (some ⟨r,0,none⟩) nV cv)∧w.cell? ⟨q,1,none⟩=some (.int .i64 (ix:Int))∧True:=by
 obtain⟨_,⟨c0,c1,_⟩,_⟩:=Sep.c4 h.sep;exact⟨c0,c1,trivial⟩
theorem Li.grow (h:w.heap.size=p∧Sep B w0 w (j6 q (.slice (some ⟨r,0,none⟩) nV cv) ix lf vo::LL)):Sep B w0 (w.alloc (.cells #[.int .i64 0,.int .i64 0,.bool false,.slice none 0 0,.slice none 0 0,.slice none 0 0] 81)) (aF p (.cells #[.int .i64 0,.int .i64 0,.bool false,.slice none 0 0,.slice none 0 0,.slice none 0 0] 81)::j6 q (.slice (some ⟨r,0,none⟩) nV cv) ix lf vo::LL):=by
 obtain⟨rfl,s⟩:=h;exact s.aN _
end
def JPa (B:Nat)(w0:World)(q ix cv p r nV:Nat)(dp0:Int)(lf:Int)(vo:Value)(lo hi:ByteArray)(pid iE:Int)(pn:NV)(LL:List aP){y4 y5 y6 y7 y8 tH oW oX y13 rS nL nM oY tI tJ y20 y21 y22 y23 y24 y25 vP y27 y28 y29 vQ vT vU vV Ay Az AA AB AD AE yu yv yw yx yz yA Eg Hq Hr Hs Ht Hu MH ML H0 H4 H5 H7 H8 Ia Ib Ic Ie Ig Ih Ii Mu Mv Mw QQ QR QS QT QU QV QW Mx My Mz Hv y90 y91 Hw y93 Eh y95 y96 Ri y98 y99 Jc y101 y102 Jd y104 Je Jf Jg Rj Rk Rl Rm y112 y113 y114 y115 Jh Ji Jj Jk YN YO YP YQ YR YS YT YU YV YW YX YY YZ Y0 Y5 Y6 Y7 Y8 Y9 Za Zb Zc Zd Ze Zf Zg Zh Zi Zj Zk y150 y151 y152 y153 Zl Zm Zn y157 y158 y159 y160 Zo Zp Zq Zr Zs Zt y167 y168 Zu Zv Zw Zx Zy Zz ZA ZB ZC ZE ZF ZG ZH ZI ZJ ZK ZL ZM ZN ZO ZP ZQ ZR ZT ZU ZV ZW ZX ZY ZZ Z4 Z5 Z6 Z7 Z8 Z9 aaa aab aac aad aae aaf:Value}(C:List Bool->Act->Prop)(w:World):Prop:=∀{f0 f1 f2 f3 f4 f5 f6 f7 f8 f9 f10 f11:Bool}{x9 x31 x32 zI x34 Mp Mq Cf x38 x39 x40:Value},f11=false->Li B w0 q ix cv p r nV lf vo LL f10 w->Hid (f0=true->x31=ptr q)->Hid (f1=true->f0=true∧x32=ptr q)->Hid (f2=true->f1=true∧zI=.pointer (some ⟨q,0,none⟩))->Hid (f3=true->f2=true∧x34=.slice (some ⟨r,0,none⟩) nV cv)->Hid (f4=true->Mp=ptr q)->Hid (f5=true->f4=true∧Mq=ptr q)->Hid (f6=true->f5=true∧Cf=.pointer (some ⟨q,1,none⟩))->Hid (f7=true->f6=true∧x38=.int .i64 (ix:Int))->Hid (f8=true->f3=true∧f7=true∧x39=.pointer (some ⟨r,ix*6,none⟩))->Hid (f9=true->f8=true∧x40=.agg #[.int .i64 pid,.int .i64 iE,.bool pn.n.leaf,.slice pn.ae pn.n.es.length pn.ce,.slice pn.ak pn.n.ks.length pn.ck,.slice pn.az pn.n.ss.length pn.cz])->Hid (f10=true->x9=.pointer (some ⟨p,0,none⟩))->C [f0,f1,f2,f3,f4,f5,f6,f7,f8,f9,f10,f11] {tmps:=#[ptr q,.string lo,.string hi,.int .i64 dp0,y4,y5,y6,y7,y8,x9,tH,oW,oX,y13,rS,nL,nM,oY,tI,tJ,y20,y21,y22,y23,y24,y25,vP,y27,y28,y29,vQ,x31,x32,zI,x34,Mp,Mq,Cf,x38,x39,x40,vT,vU,vV,Ay,Az,AA,AB,AD,AE,yu,yv,yw,yx,yz,yA,Eg,Hq,Hr,Hs,Ht,Hu,MH,ML,H0,H4,H5,H7,H8,Ia,Ib,Ic,Ie,Ig,Ih,Ii,Mu,Mv,Mw,QQ,QR,QS,QT,QU,QV,QW,Mx,My,Mz,Hv,y90,y91,Hw,y93,Eh,y95,y96,Ri,y98,y99,Jc,y101,y102,Jd,y104,Je,Jf,Jg,Rj,Rk,Rl,Rm,y112,y113,y114,y115,Jh,Ji,Jj,Jk,YN,YO,YP,YQ,YR,YS,YT,YU,YV,YW,YX,YY,YZ,Y0,Y5,Y6,Y7,Y8,Y9,Za,Zb,Zc,Zd,Ze,Zf,Zg,Zh,Zi,Zj,Zk,y150,y151,y152,y153,Zl,Zm,Zn,y157,y158,y159,y160,Zo,Zp,Zq,Zr,Zs,Zt,y167,y168,Zu,Zv,Zw,Zx,Zy,Zz,ZA,ZB,ZC,ZE,ZF,ZG,ZH,ZI,ZJ,ZK,ZL,ZM,ZN,ZO,ZP,ZQ,ZR,ZT,ZU,ZV,ZW,ZX,ZY,ZZ,Z4,Z5,Z6,Z7,Z8,Z9,aaa,aab,aac,aad,aae,aaf],defers:=[]}
section
variable {B:Nat}{w0 w:World}{L:List aP}{q ix cv:Nat}{av:Option Addr}{lf dp:Int}{vo:Value}{V:List kH}{out:List En}{lo hi:ByteArray}
theorem zD {v:kH}{at':Nat->Nat}{ou:Nat->List En}{Hl:Int}{ixF:Nat}{oF:List En}(h:Sep B w0 w (j6 q (.slice av V.length cv) ix lf vo::gX vo out::iw (.slice av V.length cv) V::L))(hn:∀u,Sep B w0 u L->∀v∈V,v.2.2.R u)(hv:V[ix]? =some v)
  (hd:v.2.1=dp)(h0:0<=dp)(h23:dp<=23)(hr:cI v.2.2.n=true)(hs:Sm v.2.2.n)(hz:dG v.2.2.n<=240)(hlf:lf=-1∨lf=Hl)(hV:V.length<=100000)(ho:out.length<=500000)
  (hc:(v.2.2.n.leaf=true∧v.2.2.n.es≠[]∧(∀x∈v.2.2.n.es,bh x.1 lo=false∧(hi=⟨#[]⟩∨bh x.1 hi=true))∧dp=Hl∧ix+1=ixF∧out++v.2.2.n.es=oF)∨(v.2.2.n.leaf=false∧v.2.2.n.ss.length+1=v.2.2.n.ks.length∧at' 0=ix+1∧ou 0=out∧(∀j,j<v.2.2.n.ks.length->∃v',V[at' j]? =some v'∧v'.1=v.2.2.n.ks.getD j 0)∧(∀j,j<v.2.2.n.ss.length->bh (v.2.2.n.ss.getD j ⟨#[]⟩) lo=false∧(hi=⟨#[]⟩∨bh hi (v.2.2.n.ss.getD j ⟨#[]⟩)=false))∧(∀j,j<v.2.2.n.ks.length->∀(X:aP) (w1:World) (zT:Int) (Bj:Value),(zT=-1∨zT=Hl)->Sep B w0 w1 (j6 q (.slice av V.length cv) (at' j) zT Bj::gX Bj (ou j)::iw (.slice av V.length cv) V::X::L)->Calls Tryz.prog 55 #[ptr q,.string (if j=0 then lo else v.2.2.n.ss.getD (j-1) ⟨#[]⟩),.string (if j<v.2.2.n.ss.length then v.2.2.n.ss.getD j ⟨#[]⟩else hi),.int .i64 (dp+1)] w1 fun e w'=>e=.returned (.bool true)∧∃Ks,Sep B w0 w' (j6 q (.slice av V.length cv) (at' (j+1)) Hl Ks::gX Ks (ou (j+1))::iw (.slice av V.length cv) V::X::L))∧at' v.2.2.n.ks.length=ixF∧ou v.2.2.n.ks.length=oF)):
  Calls Tryz.prog 55 #[ptr q,.string lo,.string hi,.int .i64 dp] w fun e w'=>e=.returned (.bool true)∧∃Bj,Sep B w0 w' (j6 q (.slice av V.length cv) ixF Hl Bj::gX Bj oF::iw (.slice av V.length cv) V::L):=by
 have HC:Hid _:=hc;clear hc;have hlt:ix<V.length:=by
  rcases Nat.lt_or_ge ix V.length with h|h
  ·exact h
  ·rw[List.getElem?_eq_none h]at hv;cases hv
 have HI:Hid (ix<V.length∧V.length<=100000):=⟨hlt,hV⟩;have o0:¬(V.length:Int)<=(ix:Int):=by omega
 have Tc:(ix:Int)< (V.length:Int):=by omega
 have aag:¬V.length<=ix:=by omega
 have aaC:¬(23:Int)<dp:=by omega
 have N0:IntKind.i64.wrap ((ix:Int)+1)=((ix+1:Nat):Int):=by rw[bf (by omega) (by omega)];rfl
 have HH:Hid (∀m9,Sep B w0 (w.drewN m9) (j6 q (.slice av V.length cv) ix lf vo::gX vo out::iw (.slice av V.length cv) V::L)):=fun m9=>h.drewN m9;have HV:Hid (V[ix]? =some v):=hv;obtain⟨_,⟨c0,c1,c2,c3⟩,_⟩:=Sep.c4 h;clear h hv hlt hV;go_enter Tryz.func55,Tryz.ntmps55;unfold ptr at*
 go_wp2_with fail
 go_quiet (fail)
 clear c0 c1 c2 c3;generalize hw8:w.drewN _=w1 at*;have h:Sep B w0 w1 (j6 q (.slice av V.length cv) ix lf vo::gX vo out::iw (.slice av V.length cv) V::L):=by rw[<-hw8];exact HH.out _
 clear HH hw8;obtain⟨hql,⟨c0,c1,c2,c3⟩,f0,f1,f2,f3⟩:=Sep.c4 h;obtain⟨r,rfl,hrl,⟨y0,y1,y2⟩,y3,y4,y5⟩:=oo (Sep.lr h) HV.out;obtain⟨pid,iE,pn⟩:=v;simp only at hd hr hs hz HC y0 y1 y2 y3 y4 y5;subst hd;obtain⟨L9,hL9⟩:∃L9:List aP,L9=gX vo out::iw (.slice (some ⟨r,0,none⟩) V.length cv) V::L:=⟨_,rfl⟩;have S0:Hid (Sep B w0 w1 (j6 q (.slice (some ⟨r,0,none⟩) V.length cv) ix lf vo::L9)):=by rw[hL9];exact h
 have HCL:Hid (∀u,Sep B w0 u (j6 q (.slice (some ⟨r,0,none⟩) V.length cv) ix lf vo::L9)->r<u.heap.size∧u.cell? ⟨r,ix*6,none⟩=some (.int .i64 pid)∧u.cell? ⟨r,ix*6+1,none⟩=some (.int .i64 iE)∧u.cell? ⟨r,ix*6+2,none⟩=some (.bool pn.n.leaf)∧u.cell? ⟨r,ix*6+3,none⟩=some (.slice pn.ae pn.n.es.length pn.ce)∧u.cell? ⟨r,ix*6+4,none⟩=some (.slice pn.ak pn.n.ks.length pn.ck)∧u.cell? ⟨r,ix*6+5,none⟩=some (.slice pn.az pn.n.ss.length pn.cz)):=fun u hu=>by
  rw[hL9]at hu;obtain⟨r',e',hr',⟨a0,a1,a2⟩,a3,a4,a5⟩:=oo (Sep.lr hu) HV.out;cases e';exact⟨hr',a0,a1,a2,a3,a4,a5⟩
 clear h c0 c1 c2 c3 f0 f1 f2 f3 y0 y1 y2 y3 y4 y5 o0 aag;have HI2:=HI;clear HI;have HI:Hid ((ix:Int)< (V.length:Int)∧ix<V.length):=⟨Tc,HI2.out.1⟩;have PQ:Hid (cI pn.n=true∧Sm pn.n∧dG pn.n<=240):=⟨hr,hs,hz⟩;clear Tc hr hs hz
 go_wp2_with fail
 refine aT 11 (JPa B w0 q ix cv w1.heap.size r V.length iE lf vo lo hi pid iE pn L9) (by kernel_rfl) (by kernel_rfl) (by kernel_rfl) (fun _ k=>k rfl ⟨fun _=>⟨rfl,S0.out.drew⟩,(fun h=>by cases h)⟩ ar ar ar ar ar ar ar ar ar ar ar) ?_ ?_ ?_
 ·intro i w' hne f0 f1 f2 f3 f4 f5 f6 f7 f8 f9 f10 f11 x9 x31 x32 zI x34 Mp Mq Cf x38 x39 x40 e11 hB h0 h1 h2 h3 h4 h5 h6 h7 h8 h9 h10 hi;obtain⟨hlt,hun,_⟩:=aM hi;have hlt':i<12:=hlt;clear hlt;rcases(by omega:i=0∨i=1∨i=2∨i=3∨i=4∨i=5∨i=6∨i=7∨i=8∨i=9∨i=10)with rfl|rfl|rfl|rfl|rfl|rfl|rfl|rfl|rfl|rfl|rfl
  ·have un:f0=false:=hun;refine aj rfl fun K HK=>?_;go_simp;exact HK.out _ _ fun _ k=>k e11 hB hidR (fun d=>by have e:=(h1.out d).1;rw[un]at e;cases e) h2 h3 h4 h5 h6 h7 h8 h9 h10
  ·have un:f1=false:=hun;have d0:f0=true:=ah 0 hi (by kernel_rfl);cases h0 d0;refine aj rfl fun K HK=>?_;go_simp;exact HK.out _ _ fun _ k=>k e11 hB h0 (fun _=>⟨d0,rfl⟩) (fun d=>by have e:=(h2.out d).1;rw[un]at e;cases e) h3 h4 h5 h6 h7 h8 h9 h10
  ·have un:f2=false:=hun;have d1:f1=true:=ah 1 hi (by kernel_rfl);obtain⟨_,rfl⟩:=h1.out d1;refine aj rfl fun K HK=>?_;go_simp;exact HK.out _ _ fun _ k=>k e11 hB h0 h1 (fun _=>⟨d1,rfl⟩) (fun d=>by have e:=(h3.out d).1;rw[un]at e;cases e) h4 h5 h6 h7 h8 h9 h10
  ·have un:f3=false:=hun;have d2:f2=true:=ah 2 hi (by kernel_rfl);obtain⟨_,rfl⟩:=h2.out d2;obtain⟨c0,c1,_⟩:=Li.wk hB;refine aj rfl fun K HK=>?_;go_simp;exact HK.out _ _ fun _ k=>k e11 hB h0 h1 h2 (fun _=>⟨d2,rfl⟩) h4 h5 h6 h7 (fun d=>by have e:=(h8.out d).1;rw[un]at e;cases e) h9 h10
  ·have un:f4=false:=hun;refine aj rfl fun K HK=>?_;go_simp;exact HK.out _ _ fun _ k=>k e11 hB h0 h1 h2 h3 hidR (fun d=>by have e:=(h5.out d).1;rw[un]at e;cases e) h6 h7 h8 h9 h10
  ·have un:f5=false:=hun;have d4:f4=true:=ah 4 hi (by kernel_rfl);cases h4 d4;refine aj rfl fun K HK=>?_;go_simp;exact HK.out _ _ fun _ k=>k e11 hB h0 h1 h2 h3 h4 (fun _=>⟨d4,rfl⟩) (fun d=>by have e:=(h6.out d).1;rw[un]at e;cases e) h7 h8 h9 h10
  ·have un:f6=false:=hun;have d5:f5=true:=ah 5 hi (by kernel_rfl);obtain⟨_,rfl⟩:=h5.out d5;refine aj rfl fun K HK=>?_;go_simp;exact HK.out _ _ fun _ k=>k e11 hB h0 h1 h2 h3 h4 h5 (fun _=>⟨d5,rfl⟩) (fun d=>by have e:=(h7.out d).1;rw[un]at e;cases e) h8 h9 h10
  ·have un:f7=false:=hun;have d6:f6=true:=ah 6 hi (by kernel_rfl);obtain⟨_,rfl⟩:=h6.out d6;obtain⟨c0,c1,_⟩:=Li.wk hB;refine aj rfl fun K HK=>?_;go_simp;exact HK.out _ _ fun _ k=>k e11 hB h0 h1 h2 h3 h4 h5 h6 (fun _=>⟨d6,rfl⟩) (fun d=>by have e:=(h8.out d).2.1;rw[un]at e;cases e) h9 h10
  ·have un:f8=false:=hun;have d3:f3=true:=ah 3 hi (by kernel_rfl);obtain⟨_,rfl⟩:=h3.out d3;have d7:f7=true:=ah 7 hi (by kernel_rfl);obtain⟨_,rfl⟩:=h7.out d7;have o0:=HI.out.1;have Tc:=HI.out.2;refine aj rfl fun K HK=>?_;go_simp;exact HK.out _ _ fun _ k=>k e11 hB h0 h1 h2 h3 h4 h5 h6 h7 (fun _=>⟨d3,d7,rfl⟩) (fun d=>by have e:=(h9.out d).1;rw[un]at e;cases e) h10
  ·have d8:f8=true:=ah 8 hi (by kernel_rfl);obtain⟨_,_,rfl⟩:=h8.out d8;obtain⟨YJ,y0,y1,y2,y3,y4,y5⟩:=HCL.out _ (Li.sep hB);refine aj rfl fun K HK=>?_;go_simp;exact HK.out _ _ fun _ k=>k e11 hB h0 h1 h2 h3 h4 h5 h6 h7 h8 (fun _=>⟨d8,rfl⟩) h10
  ·have un:f10=false:=hun;refine aj rfl fun K HK=>?_;go_simp;exact HK.out _ _ fun _ k=>k e11 ⟨(fun h=>by cases h),fun _=>Li.grow (hB.1 un)⟩ h0 h1 h2 h3 h4 h5 h6 h7 h8 h9 (fun _=>by rw[(hB.1 un).1])
 ·intro w' f0 f1 f2 f3 f4 f5 f6 f7 f8 f9 f10 f11 x9 x31 x32 zI x34 Mp Mq Cf x38 x39 x40 e11 hB h0 h1 h2 h3 h4 h5 h6 h7 h8 h9 h10 hi;have d10:f10=true:=ah 10 hi (by kernel_rfl);cases h10 d10;have d9:f9=true:=ah 9 hi (by kernel_rfl);obtain⟨_,rfl⟩:=h9.out d9;clear hi;obtain⟨WE,⟨p0,p1,p2,p3,p4,p5⟩,z0,z1,z2,z3,z4,z5⟩:=c6 (hB.2 d10);refine aj rfl fun K HK=>?_;go_simp;refine HK.out _ _ ?_;have S2:Hid (Sep B w0 ((((((w'.setCell ⟨w1.heap.size,0,none⟩ (.int .i64 pid)).setCell ⟨w1.heap.size,1,none⟩ (.int .i64 iE)).setCell ⟨w1.heap.size,2,none⟩ (.bool pn.n.leaf)).setCell ⟨w1.heap.size,3,none⟩ (.slice pn.ae pn.n.es.length pn.ce)).setCell ⟨w1.heap.size,4,none⟩ (.slice pn.ak pn.n.ks.length pn.ck)).setCell ⟨w1.heap.size,5,none⟩ (.slice pn.az pn.n.ss.length pn.cz)) (aF w1.heap.size (.cells #[.int .i64 pid,.int .i64 iE,.bool pn.n.leaf,.slice pn.ae pn.n.es.length pn.ce,.slice pn.ak pn.n.ks.length pn.ck,.slice pn.az pn.n.ss.length pn.cz] 81)::j6 q (.slice (some ⟨r,0,none⟩) V.length cv) ix lf vo::L9)):=
   Sep.gC (x:=.slice pn.az pn.n.ss.length pn.cz) (Sep.gC (x:=.slice pn.ak pn.n.ks.length pn.ck) (Sep.gC (x:=.slice pn.ae pn.n.es.length pn.ce) (Sep.gC (x:=.bool pn.n.leaf) (Sep.gC (x:=.int .i64 iE) (Sep.gC (x:=.int .i64 pid) (hB.2 d10) 0) 1) 2) 3) 4) 5
  clear h0 h1 h2 h3 h4 h5 h6 h7 h8 h9 h10 hB p0 p1 p2 p3 p4 p5 z0 z1 z2 z3 z4 z5 S0 WE;generalize World.setCell _ _ _=w2 at*;generalize w1.heap.size=p at*;subst hL9;have WG:Hid (∀u,Sep B w0 u L->pn.R u):=fun u hu=>hn u hu _ (List.mem_of_getElem? HV.out);have S3:Hid (Sep B w0 (w2.setCell ⟨q,1,none⟩ (.int .i64 ((ix:Int)+1))) (aF p (.cells #[.int .i64 pid,.int .i64 iE,.bool pn.n.leaf,.slice pn.ae pn.n.es.length pn.ce,.slice pn.ak pn.n.ks.length pn.ck,.slice pn.az pn.n.ss.length pn.cz] 81)::j6 q (.slice (some ⟨r,0,none⟩) V.length cv) (ix+1) lf vo::gX vo out::iw (.slice (some ⟨r,0,none⟩) V.length cv) V::L)):=Sep.Rc (Sep.gC (x:=.int .i64 ((ix:Int)+1)) (Sep.gf S2.out) 1);have KRT:Hid _:=N.zC _ _ _ _ _ (WG.out _ (Sep.drop (Sep.drop (Sep.drop (Sep.drop S3.out))))) PQ.out.2.1;rw[PQ.out.1]at KRT;obtain⟨_,⟨c0,c1,c2,c3⟩,z0,z1,z2,z3⟩:=Sep.c4 (Sep.gf S2.out);obtain⟨_,⟨p0,p1,p2,p3,p4,p5⟩,_⟩:=c6 S2.out;have npq:p≠q:=(Sep.ne S2.out);have nqp:q≠p:=npq.symm;clear S2 hn;unfold ptr at*
  go_wp2_with fail
  refine Calls.mono KRT.out ?_;rintro e w3 ⟨rfl,b3⟩;have S4:Hid _:=Sep.below S3.out b3;clear S3 KRT b3 c0 c1 c2 c3 z0 z1 z2 z3 p0 p1 p2 p3 p4 p5;obtain⟨_,⟨p0,p1,p2,p3,p4,p5⟩,_⟩:=c6 S4.out
  go_wp2_with fail
  have KSZ:Hid _:=N.Bi _ _ _ _ _ (WG.out _ (Sep.drop (Sep.drop (Sep.drop (Sep.drop S4.out))))) PQ.out.2.1;have hz1:¬240<dG pn.n:=by have:=PQ.out.2.2;omega
  have hz2:¬(240:Int)< ((dG pn.n:Nat):Int):=by omega
  refine Calls.mono KSZ.out ?_;rintro e w4 ⟨rfl,b4⟩;have S5:Hid _:=Sep.below S4.out b4;clear S4 KSZ b4 p0 p1 p2 p3 p4 p5;obtain⟨_,⟨p0,p1,p2,p3,p4,p5⟩,_⟩:=c6 S5.out;obtain⟨_,⟨c0,c1,c2,c3⟩,z0,z1,z2,z3⟩:=Sep.c4 (Sep.gf S5.out);have HO:Hid (out.length<=500000):=ho;clear ho;rcases HC.out with hc|hc
  ·obtain⟨hl,hne,hk,e5,e6,e7⟩:=hc;subst e5 e6 e7;clear HC;rcases hlf with e1|e1
   case' inl=>
    subst e1;have hn1:(-1:Int)<0:=by omega
    have S6:Hid (Sep B w0 (w4.setCell ⟨q,2,none⟩ (.int .i64 iE)) (aF p (.cells #[.int .i64 pid,.int .i64 iE,.bool pn.n.leaf,.slice pn.ae pn.n.es.length pn.ce,.slice pn.ak pn.n.ks.length pn.ck,.slice pn.az pn.n.ss.length pn.cz] 81)::j6 q (.slice (some ⟨r,0,none⟩) V.length cv) (ix+1) iE vo::gX vo out::iw (.slice (some ⟨r,0,none⟩) V.length cv) V::L)):=Sep.Rc (Sep.gC (x:=.int .i64 iE) (Sep.gf S5.out) 2)
   case' inr=>
    have e2:iE=lf:=e1.symm;subst e2;have hn1:¬iE<0:=by omega
    have S6:Hid (Sep B w0 w4 (aF p (.cells #[.int .i64 pid,.int .i64 iE,.bool pn.n.leaf,.slice pn.ae pn.n.es.length pn.ce,.slice pn.ak pn.n.ks.length pn.ck,.slice pn.az pn.n.ss.length pn.cz] 81)::j6 q (.slice (some ⟨r,0,none⟩) V.length cv) (ix+1) iE vo::gX vo out::iw (.slice (some ⟨r,0,none⟩) V.length cv) V::L)):=S5.out
   all_goals
    have aah:Hid (out.length+pn.n.es.length<=600000):=by have:=PQ.out.2.1.e;have:=HO.out;show _<=_;omega
    obtain⟨ao,co,hvo⟩:=Sep.kA (n:=out.length) (Sep.lr S6.out);subst hvo;clear S5;go_wp2
    go_loopg [11] pn.n.es.length (fun kx s11 wr=>∃(j:Nat) (ao:Option Addr) (c:Nat),s11=.int .i64 (j:Int)∧j<=pn.n.es.length∧pn.n.es.length-j<=kx∧Hid (Sep B w0 wr (aF p (.cells #[.int .i64 pid,.int .i64 iE,.bool pn.n.leaf,.slice pn.ae pn.n.es.length pn.ce,.slice pn.ak pn.n.ks.length pn.ck,.slice pn.az pn.n.ss.length pn.cz] 81)::j6 q (.slice (some ⟨r,0,none⟩) V.length cv) (ix+1) iE (.slice ao (out++pn.n.es.take j).length c)::gX (.slice ao (out++pn.n.es.take j).length c) (out++pn.n.es.take j)::iw (.slice (some ⟨r,0,none⟩) V.length cv) V::L)))
    case atStart=>exact⟨0,ao,co,rfl,Nat.zero_le _,Nat.le_refl _,by rw[List.take_zero,List.append_nil];exact S6.out⟩
    case round=>
     clear S6 p0 p1 p2 p3 p4 p5;obtain⟨j,ao,cc,rfl,hj,Pw,HS⟩:=hrel;obtain⟨_,⟨p0,p1,p2,p3,p4,p5⟩,_⟩:=c6 HS.out;by_cases hjl:j<pn.n.es.length
     ·have sU:(j:Int)< (pn.n.es.length:Int):=by omega
      have NT:IntKind.i64.wrap ((j:Int)+1)=((j+1:Nat):Int):=by rw[bf (by omega) (by have:=PQ.out.2.1.e;omega)];rfl
      have hR:=WG.out _ (Sep.drop (Sep.drop (Sep.drop (Sep.drop HS.out))));obtain⟨cW,cap',e6,_,_,TI⟩:=hR.e;obtain⟨rb,ro,hae,hrb,x0,x1⟩:=N.cC TI j hjl (Below.refl _ _);have Fb:pn.ae=some ⟨rb,ro,none⟩:=by injection e6 with e7;rw[e7];exact hae
      have HP3:Hid (pn.ae=some ⟨rb,ro,none⟩):=Fb;rw[Fb]at p3;obtain⟨k1,k2⟩:=hk _ (N.iJ hjl);have hnx:out++pn.n.es.take (j+1)=(out++pn.n.es.take j)++[pn.n.es[j]!]:=by rw[N.cR hjl,List.append_assoc]
      have hol:(out++pn.n.es.take j).length<1000000:=by have:=aah.out;rw[List.length_append,List.length_take];omega
      have WH:Hid _:=hnx;have HOL:Hid _:=hol;have lT:Hid (j<pn.n.es.length):=hjl;clear hR hae Fb e6 TI hnx hol;generalize pn.n.es[j]! =y at*;generalize out++pn.n.es.take j=o at*;have k1b:Op.bytesLess y.1.toList lo.toList=false:=k1;rcases Classical.em (hi=⟨#[]⟩)with h0|h0
      case' inl=>
       subst h0;clear k1 k2
      case' inr=>
       have k2b:Op.bytesLess y.1.toList hi.toList=true:=k2.resolve_left h0;have k2c:(!Op.bytesLess y.1.toList hi.toList)=false:=by rw[k2b];rfl
       have he:hi.toList≠[]:=fun e=>h0 (N.fc (e.trans (by simp)));have he2:hi.toList.isEmpty=false:=by simpa using he
       clear k1 k2 h0
      all_goals
       go_wp2_with fail
       have S7:Hid (Sep B w0 (wr.alloc (.cells #[.string y.1,.string y.2] 38)) (aF wr.heap.size (.cells #[.string y.1,.string y.2] 38)::aF p (.cells #[.int .i64 pid,.int .i64 iE,.bool pn.n.leaf,.slice pn.ae pn.n.es.length pn.ce,.slice pn.ak pn.n.ks.length pn.ck,.slice pn.az pn.n.ss.length pn.cz] 81)::j6 q (.slice (some ⟨r,0,none⟩) V.length cv) (ix+1) iE (.slice ao o.length cc)::gX (.slice ao o.length cc) o::iw (.slice (some ⟨r,0,none⟩) V.length cv) V::L)):=Sep.aN HS.out _;clear HS p0 p1 p2 p3 p4 p5 x0 x1;generalize wr.alloc (.cells #[.string y.1,.string y.2] 38)=w5 at*;generalize wr.heap.size=px at*;obtain⟨_,⟨y0,y1⟩,_⟩:=Sep.c2 S7.out;obtain⟨_,⟨_,_,_,k3⟩,_⟩:=Sep.c4 (Sep.lr S7.out);have SN:Hid (Sep B w0 (w5.drew.alloc (.cells #[.string y.1,.string y.2] 38)) (RowK 38 2 (.slice ao o.length cc) o.length (flatK N.aG 2 o.toArray).toList::aF w5.heap.size (.cells #[.string y.1,.string y.2] 38)::aF px (.cells #[.string y.1,.string y.2] 38)::aF p (.cells #[.int .i64 pid,.int .i64 iE,.bool pn.n.leaf,.slice pn.ae pn.n.es.length pn.ce,.slice pn.ak pn.n.ks.length pn.ck,.slice pn.az pn.n.ss.length pn.cz] 81)::j6 q (.slice (some ⟨r,0,none⟩) V.length cv) (ix+1) iE (.slice ao o.length cc)::iw (.slice (some ⟨r,0,none⟩) V.length cv) V::L)):=Sep.iU (Sep.aN S7.out.drew _);have JZ:Hid _:=wR (news:=N.aG y) (Sep.blk (Sep.gf SN.out));have k3':(w5.alloc (.cells #[.string y.1,.string y.2] 38)).cell? ⟨q,3,none⟩=some (.slice ao o.length cc):=(Sep.c4 (Sep.iU SN.out)).2.1.2.2.2
       go_region_law (refine PO rfl rfl N.eG Tryz.underlying32 rfl (by decide) (by decide) _ rfl SN.out rfl JZ.out rfl (N.ew y) HOL.out ?_;intro lN c3 w3 s4;obtain⟨_,⟨_,_,_,z5⟩,_,_,_,z6⟩:=Sep.c4 (Sep.iU s4);have S8:Hid (Sep B w0 (w3.setCell ⟨q,3,none⟩ (.slice lN (o.length+1) c3)) (aF p (.cells #[.int .i64 pid,.int .i64 iE,.bool pn.n.leaf,.slice pn.ae pn.n.es.length pn.ce,.slice pn.ak pn.n.ks.length pn.ck,.slice pn.az pn.n.ss.length pn.cz] 81)::j6 q (.slice (some ⟨r,0,none⟩) V.length cv) (ix+1) iE (.slice lN (o.length+1) c3)::gX (.slice lN (o.length+1) c3) (o++[y])::iw (.slice (some ⟨r,0,none⟩) V.length cv) V::L)):=OJ s4)
       all_goals
        clear SN JZ k3 k3' y0 y1 S7
        (try go_wp2)
        go_roundg (pn.n.es.length- (j+1))
        case measure=>have:=lT.out;omega
        case rel=>exact⟨j+1,lN,c3,by go_num,by have:=lT.out;omega,Nat.le_refl _,by rw[WH.out,List.length_append,List.length_singleton];exact S8.out⟩
     ·have sU:¬(j:Int)< (pn.n.es.length:Int):=by omega
      obtain rfl:j=pn.n.es.length:=by omega
      rw[List.take_length]at HS;obtain⟨_,⟨c0,c1,c2,c3⟩,_⟩:=Sep.c4 (Sep.gf HS.out);have hp0:0<pn.n.es.length:=List.length_pos_iff.2 hne;have hp1:(0:Int)< (pn.n.es.length:Int):=by omega
      have HQ:Hid (∀m9,Sep B w0 (wr.drewN m9) _):=fun m9=>HS.out.drewN m9
      go_wp2_with fail
      go_ret;exact⟨rfl,_,Sep.drop HS.out⟩
  ·obtain⟨hl,hks,ha0,ho0,hat,hlo,hrec,e6,e7⟩:=hc;subst e6 e7;have OL:Hid _:=hrec;have HAT:Hid _:=hat;have UW:Hid _:=hlo;clear hrec hat hlo HC;have S6:Hid _:=S5.out;have Wb:Hid (pn.n.ss.length+1=pn.n.ks.length):=hks;clear S5 c0 c1 c2 c3 z0 z1 z2 z3 hks;go_wp2
   go_loopg [13] pn.n.ks.length (fun kx s13 wr=>∃(j:Nat) (lf9:Int) (tV:Value),s13=.int .i64 (j:Int)∧j<=pn.n.ks.length∧pn.n.ks.length-j<=kx∧(lf9=-1∨lf9=Hl)∧(j≠0->lf9=Hl)∧Hid (Sep B w0 wr (aF p (.cells #[.int .i64 pid,.int .i64 iE,.bool pn.n.leaf,.slice pn.ae pn.n.es.length pn.ce,.slice pn.ak pn.n.ks.length pn.ck,.slice pn.az pn.n.ss.length pn.cz] 81)::j6 q (.slice (some ⟨r,0,none⟩) V.length cv) (at' j) lf9 tV::gX tV (ou j)::iw (.slice (some ⟨r,0,none⟩) V.length cv) V::L)))
   case atStart=>exact⟨0,lf,vo,rfl,Nat.zero_le _,Nat.le_refl _,hlf,fun h=>absurd rfl h,by rw[ha0,ho0];exact S6.out⟩
   case round=>
    clear S6 p0 p1 p2 p3 p4 p5 ha0 ho0;obtain⟨j,lf9,tV,rfl,hj,Pw,WI,hl8,HS⟩:=hrel;obtain⟨_,⟨p0,p1,p2,p3,p4,p5⟩,_⟩:=c6 HS.out;by_cases hjl:j<pn.n.ks.length
    ·have sU:(j:Int)< (pn.n.ks.length:Int):=by omega
     have NT:IntKind.i64.wrap ((j:Int)+1)=((j+1:Nat):Int):=by rw[bf (by omega) (by have:=PQ.out.2.1.k;omega)];rfl
     have hR:=WG.out _ (Sep.drop (Sep.drop (Sep.drop (Sep.drop HS.out))));have lT:Hid (j<pn.n.ks.length):=hjl;obtain⟨kr,ko,hak,hkr,kc⟩:=NV.kid hR (i:=j) hjl;rw[hak]at p4;clear hak;obtain⟨v',hv',hid⟩:=HAT.out j hjl;have aai:at' j<V.length:=by
      rcases Nat.lt_or_ge (at' j) V.length with h|h
      ·exact h
      ·rw[List.getElem?_eq_none h]at hv';cases hv'
     have aaD:¬V.length<=at' j:=by omega
     have aaE:¬(V.length:Int)<=(at' j:Int):=by omega
     have aaF:(at' j:Int)< (V.length:Int):=by omega
     obtain⟨r',e',hr',⟨a0,_,_⟩,_⟩:=oo (ix:=at' j) (Sep.td HS.out) hv';cases e';rw[hid]at a0;obtain⟨_,⟨c0,c1,c2,c3⟩,_⟩:=Sep.c4 (Sep.gf HS.out);have HQ:Hid (∀m9,Sep B w0 (wr.drewN m9) (aF p (.cells #[.int .i64 pid,.int .i64 iE,.bool pn.n.leaf,.slice pn.ae pn.n.es.length pn.ce,.slice pn.ak pn.n.ks.length pn.ck,.slice pn.az pn.n.ss.length pn.cz] 81)::j6 q (.slice (some ⟨r,0,none⟩) V.length cv) (at' j) lf9 tV::gX tV (ou j)::iw (.slice (some ⟨r,0,none⟩) V.length cv) V::L)):=fun m9=>HS.out.drewN m9;have hwd:IntKind.i64.wrap (iE+1)=iE+1:=by rw[bf (by omega) (by omega)]
     clear HS hv' hid hr' aai;rcases Nat.eq_zero_or_pos j with hj0|hj0
     ·subst hj0;have hj1:¬(0:Int)< ((0:Nat):Int):=by omega
      have hj2:¬0<0:=by omega
      have hA:Op.bytesLess lo.toList lo.toList=false:=N.dt lo;simp only[Nat.add_zero]at kc;have hjz:(0:Int)< (pn.n.ks.length:Int):=by have:=lT.out;omega
      by_cases hs1:0<pn.n.ss.length
      case' pos=>
       have hs2:((0:Nat):Int)< (pn.n.ss.length:Int):=by omega
       obtain⟨sr,so,haz,hsr,sc⟩:=NV.key hR (i:=0) hs1;rw[haz]at p5;simp only[Nat.add_zero]at sc;have hs3:(0:Int)< (pn.n.ss.length:Int):=by omega
       clear haz;have hb2:=(UW.out 0 hs1).2;clear hR;have OM:Hid (∀w5,Sep B w0 w5 (j6 q (.slice (some ⟨r,0,none⟩) V.length cv) (at' 0) lf9 tV::gX tV (ou 0)::iw (.slice (some ⟨r,0,none⟩) V.length cv) V::aF p (.cells #[.int .i64 pid,.int .i64 iE,.bool pn.n.leaf,.slice pn.ae pn.n.es.length pn.ce,.slice pn.ak pn.n.ks.length pn.ck,.slice pn.az pn.n.ss.length pn.cz] 81)::L)->_):=fun w5 s5=>OL.out 0 lT.out _ w5 lf9 tV WI s5;rw[if_pos rfl,if_pos hs1]at OM;generalize pn.n.ss.getD 0 ⟨#[]⟩=kb at*;generalize pn.n.ks.getD 0 0=kd at*;rcases Classical.em (hi=⟨#[]⟩)with hh|hh
       case' inl=>subst hh
       case' inr=>
        have he:hi.toList≠[]:=fun e=>hh (N.fc (e.trans (by simp)));have he2:hi.toList.isEmpty=false:=by simpa using he
        have hg0:bh hi kb=false:=(hb2).resolve_left hh;have hgt:(!(Op.bytesLess kb.toList hi.toList||kb.toList==hi.toList))=false:=by rw[N.str_eq];have:=N.qz (a:=hi) (b:=kb);rw[hg0]at this;exact this.symm
        clear hb2 hg0
      case' neg=>
       have hs2:¬((0:Nat):Int)< (pn.n.ss.length:Int):=by omega
       clear hR;have OM:Hid (∀w5,Sep B w0 w5 (j6 q (.slice (some ⟨r,0,none⟩) V.length cv) (at' 0) lf9 tV::gX tV (ou 0)::iw (.slice (some ⟨r,0,none⟩) V.length cv) V::aF p (.cells #[.int .i64 pid,.int .i64 iE,.bool pn.n.leaf,.slice pn.ae pn.n.es.length pn.ce,.slice pn.ak pn.n.ks.length pn.ck,.slice pn.az pn.n.ss.length pn.cz] 81)::L)->_):=fun w5 s5=>OL.out 0 lT.out _ w5 lf9 tV WI s5;rw[if_pos rfl,if_neg hs1]at OM;generalize pn.n.ks.getD 0 0=kd at*;rcases Classical.em (hi=⟨#[]⟩)with hh|hh
       case' inl=>subst hh
       case' inr=>
        have he:hi.toList≠[]:=fun e=>hh (N.fc (e.trans (by simp)));have he2:hi.toList.isEmpty=false:=by simpa using he
        have hgt:(!(Op.bytesLess hi.toList hi.toList||hi.toList==hi.toList))=false:=by simp
      all_goals
       go_wp2_with fail
       go_quiet (fail)
       generalize hw8:wr.drewN _=w5 at*;have S7:Hid (Sep B w0 w5 (j6 q (.slice (some ⟨r,0,none⟩) V.length cv) (at' 0) lf9 tV::gX tV (ou 0)::iw (.slice (some ⟨r,0,none⟩) V.length cv) V::aF p (.cells #[.int .i64 pid,.int .i64 iE,.bool pn.n.leaf,.slice pn.ae pn.n.es.length pn.ce,.slice pn.ak pn.n.ks.length pn.ck,.slice pn.az pn.n.ss.length pn.cz] 81)::L)):=by rw[<-hw8];exact Sep.XJ (HQ.out _)
       have KR:Hid _:=OM.out w5 S7.out;clear S7 HQ hw8 c0 c1 c2 c3 p0 p1 p2 p3 p4 p5 kc a0
       go_wp2_with fail
       refine Calls.mono KR.out ?_;rintro e w6 ⟨rfl,vo6,s6⟩;have S8:Hid _:=Sep.td s6;clear KR s6;go_wp2
       go_roundg (pn.n.ks.length- (0+1))
       case measure=>have:=lT.out;omega
       case rel=>exact⟨0+1,Hl,vo6,by go_num,by have:=lT.out;omega,Nat.le_refl _,.inr rfl,fun _=>rfl,S8.out⟩
     ·have hj1:(0:Int)< (j:Int):=by omega
      have hjs:j-1<pn.n.ss.length:=by have:=Wb.out;omega
      have hwm:IntKind.i64.wrap ((j:Int)-1)=((j-1:Nat):Int):=by rw[bf (by omega) (by have:=PQ.out.2.1.k;omega)];omega
      obtain⟨sr,so,haz,hsr,tc⟩:=NV.key hR (i:=j-1) hjs;rw[haz]at p5;have aaG:((j-1:Nat):Int)< (pn.n.ss.length:Int):=by omega
      have hA:Op.bytesLess (pn.n.ss.getD (j-1) ⟨#[]⟩).toList lo.toList=false:=(UW.out _ hjs).1;by_cases hs1:j<pn.n.ss.length
      case' pos=>
       have hs2:(j:Int)< (pn.n.ss.length:Int):=by omega
       obtain⟨sr',so',VK,_,sc⟩:=NV.key hR (i:=j) hs1;rw[haz]at VK;cases VK;clear haz;have hb2:=(UW.out j hs1).2;clear hR;have OM:Hid (∀w5,Sep B w0 w5 (j6 q (.slice (some ⟨r,0,none⟩) V.length cv) (at' j) lf9 tV::gX tV (ou j)::iw (.slice (some ⟨r,0,none⟩) V.length cv) V::aF p (.cells #[.int .i64 pid,.int .i64 iE,.bool pn.n.leaf,.slice pn.ae pn.n.es.length pn.ce,.slice pn.ak pn.n.ks.length pn.ck,.slice pn.az pn.n.ss.length pn.cz] 81)::L)->_):=fun w5 s5=>OL.out j lT.out _ w5 lf9 tV WI s5;rw[if_neg (by omega),if_pos hs1]at OM;generalize pn.n.ss.getD j ⟨#[]⟩=kb at*;generalize pn.n.ss.getD (j-1) ⟨#[]⟩=ka at*;generalize pn.n.ks.getD j 0=kd at*;rcases Classical.em (hi=⟨#[]⟩)with hh|hh
       case' inl=>subst hh
       case' inr=>
        have he:hi.toList≠[]:=fun e=>hh (N.fc (e.trans (by simp)));have he2:hi.toList.isEmpty=false:=by simpa using he
        have hg0:bh hi kb=false:=(hb2).resolve_left hh;have hgt:(!(Op.bytesLess kb.toList hi.toList||kb.toList==hi.toList))=false:=by rw[N.str_eq];have:=N.qz (a:=hi) (b:=kb);rw[hg0]at this;exact this.symm
        clear hb2 hg0
      case' neg=>
       have hs2:¬(j:Int)< (pn.n.ss.length:Int):=by omega
       clear hR haz;have OM:Hid (∀w5,Sep B w0 w5 (j6 q (.slice (some ⟨r,0,none⟩) V.length cv) (at' j) lf9 tV::gX tV (ou j)::iw (.slice (some ⟨r,0,none⟩) V.length cv) V::aF p (.cells #[.int .i64 pid,.int .i64 iE,.bool pn.n.leaf,.slice pn.ae pn.n.es.length pn.ce,.slice pn.ak pn.n.ks.length pn.ck,.slice pn.az pn.n.ss.length pn.cz] 81)::L)->_):=fun w5 s5=>OL.out j lT.out _ w5 lf9 tV WI s5;rw[if_neg (by omega),if_neg hs1]at OM;generalize pn.n.ss.getD (j-1) ⟨#[]⟩=ka at*;generalize pn.n.ks.getD j 0=kd at*;rcases Classical.em (hi=⟨#[]⟩)with hh|hh
       case' inl=>subst hh
       case' inr=>
        have he:hi.toList≠[]:=fun e=>hh (N.fc (e.trans (by simp)));have he2:hi.toList.isEmpty=false:=by simpa using he
        have hgt:(!(Op.bytesLess hi.toList hi.toList||hi.toList==hi.toList))=false:=by simp
      all_goals
       go_wp2_with fail
       go_quiet (fail)
       generalize hw8:wr.drewN _=w5 at*;have S7:Hid (Sep B w0 w5 (j6 q (.slice (some ⟨r,0,none⟩) V.length cv) (at' j) lf9 tV::gX tV (ou j)::iw (.slice (some ⟨r,0,none⟩) V.length cv) V::aF p (.cells #[.int .i64 pid,.int .i64 iE,.bool pn.n.leaf,.slice pn.ae pn.n.es.length pn.ce,.slice pn.ak pn.n.ks.length pn.ck,.slice pn.az pn.n.ss.length pn.cz] 81)::L)):=by rw[<-hw8];exact Sep.XJ (HQ.out _)
       have KR:Hid _:=OM.out w5 S7.out;clear S7 HQ hw8 c0 c1 c2 c3 p0 p1 p2 p3 p4 p5 kc a0
       go_wp2_with fail
       refine Calls.mono KR.out ?_;rintro e w6 ⟨rfl,vo6,s6⟩;have S8:Hid _:=Sep.td s6;clear KR s6;go_wp2
       go_roundg (pn.n.ks.length- (j+1))
       case measure=>have:=lT.out;omega
       case rel=>exact⟨j+1,Hl,vo6,by go_num,by have:=lT.out;omega,Nat.le_refl _,.inr rfl,fun _=>rfl,S8.out⟩
    ·have sU:¬(j:Int)< (pn.n.ks.length:Int):=by omega
     obtain rfl:j=pn.n.ks.length:=by omega
     have e9:lf9=Hl:=hl8 (by have:=Wb.out;omega);subst e9;go_wp2;go_ret;exact⟨rfl,_,Sep.drop HS.out⟩
 ·intro _ _;intros;assumption
end
end P
end Go.Proofs.YtceoeaemenhbhabGreatDoor
