/- Walks of the package cowtree and of what it stands on: lemmas, made short. -/
import Derived.Test.YtdcpfbidcpfboaaGreatDoorR10
import Derived.Test.YtdcpfbidcpfboaaGreatDoorR7
import Derived.Shelf.SlIterI.Nil
import Derived.Shelf.SortM.Plain
import Derived.Shelf.SortM.SortNone
import Derived.Ground.GgzProg
import Derived.Ground.SlgmProg
import Derived.Shelf.SlGeneric
import Derived.Test.YtdcpfbidcpfboaaGreatDoorProg
import Derived.Test.YtdcpfbidcpfboaaGreatDoorR4
import Derived.Deep.LoopGhost
import Derived.Test.YtdcpfbidcpfboaaGreatDoorR3
set_option maxHeartbeats 16000000
set_option maxRecDepth 100000
set_option linter.unusedVariables false
set_option linter.unusedSimpArgs false
namespace Go.Proofs.YtdcpfbidcpfboaaGreatDoor
open Go.Shelf Go.RowKit Go.Lib Go.Sort
section
theorem QY (v:Value)(l:List Pr)(w:World)(h:Row aG 2 w v l)(hl:l.length<=100000):Calls Tryz.prog 96 #[v] w (jE w (oY l)):=(yZ v l w h hl).mono fun _ _ h=>uT h
theorem MR (va vb:Value)(a b:List Pr)(w:World)(ha:Row aG 2 w va a)(hb:Row aG 2 w vb b)(hl:a.length+b.length<=100000):
  Calls Tryz.prog 170 #[va,vb] w (jE w (Ce a b)):=by
 have B0:Hid (Below w.heap.size w (w.alloc (.cells #[va,vb] 120))):=(Below.refl _ w).alloc (Nat.le_refl _) _;have hz:(w.alloc (.cells #[va,vb] 120)).heap.size=w.heap.size+1:=by simp
 have C:Hid (Calls Tryz.prog 202 #[.slice (some ⟨w.heap.size,0,none⟩) 2 2] (w.alloc (.cells #[va,vb] 120)) fun e w'=>∃v',e=.returned v'∧Own aG 2 (w.heap.size+1) w' v' (a++b)∧Below (w.heap.size+1) (w.alloc (.cells #[va,vb] 120)) w'):=by
  have:=A5 w.heap.size va vb a b (w.alloc (.cells #[va,vb] 120)) (Cl.new _ _ _) (ha.below B0.out) (hb.below B0.out) hl;rw[hz]at this;exact this
 have hl2:(a++b).length<=100000:=by simp;omega
 obtain⟨aa,ca,rfl,_⟩:=ha;obtain⟨ab,cb,rfl,_⟩:=hb;go_enter Tryz.func170,Tryz.ntmps170
 go_wp2_with (go_at_call 202;refine Calls.mono C.out ?_;rintro e w1 ⟨v1,rfl,ho1,hb1⟩;have N:Hid (Calls Tryz.prog 96 #[v1] w1 (jE w1 (oY (a++b)))):=QY v1 (a++b) w1 ho1.row hl2;clear ho1)
 go_wp2_with (go_at_call 96;refine Calls.mono N.out ?_;rintro e w2 ⟨lL,n2,c2,rfl,r2,hb2⟩)
 go_ret;exact⟨_,_,_,rfl,r2.mono (by have:=hb1.size;omega),(B0.out.trans (hb1.mono (by omega))).trans (hb2.mono (by have:=hb1.size;omega))⟩
theorem QZ (va vb:Value)(a b:List Pr)(w:World)(ha:Row aG 2 w va a)(hb:Row aG 2 w vb b)(hl:a.length+b.length<=50000):
  Calls Tryz.prog 69 #[va,vb] w (jE w (uF a b)):=by
 have N1:Hid (Calls Tryz.prog 96 #[va] w (Gives w (oY a))):=IL va a w ha (by omega);have RB:Aside (Row aG 2 w vb b):=hb;have l1:=rZ a;have l2:=rZ b;obtain⟨aa,ca,rfl,_⟩:=ha;obtain⟨ab,cb,rfl,_⟩:=hb;go_enter Tryz.func69,Tryz.ntmps69
 go_wp2_with fail
 refine Calls.mono N1.out ?_;rintro e w1 ⟨tE,n1,c1,rfl,r1,b1⟩;have N2:Hid (Calls Tryz.prog 96 #[.slice ab b.length cb] w1 (Gives w1 (oY b))):=IL _ b w1 (RB.out.below b1) (by omega);have R1:Aside (Row aG 2 w1 (.slice tE n1 c1) (oY a)):=r1;have B1:Hid (Below w.heap.size w w1):=b1;clear r1 b1 N1 RB
 go_wp2_with fail
 refine Calls.mono N2.out ?_;rintro e w2 ⟨lL,n2,c2,rfl,r2,b2⟩;have M:Hid (Calls Tryz.prog 95 #[.slice tE n1 c1,.slice lL n2 c2] w2 (jE w2 (uF (oY a) (oY b)))):=(IG _ _ _ _ w2 (R1.out.below b2) r2 (jY a) (jY b) (by omega)).mono fun _ _ h=>uT h;have B2:Hid (Below w.heap.size w w2):=B1.out.trans (b2.mono B1.out.size);clear r2 b2 N2 R1 B1
 go_wp2_with fail
 refine Calls.mono M.out ?_;rintro e w3 ⟨zS,n3,c3,rfl,r3,b3⟩;rw[Qs]at r3;go_wp2;go_ret;exact⟨_,_,_,rfl,r3.mono B2.out.size,B2.out.trans (b3.mono B2.out.size)⟩
theorem U8 (va:Value)(a:List Pr)(n:Int)(w:World)(ha:Row aG 2 w va a)(hl:a.length<=50000):
  Calls Tryz.prog 141 #[va,.int .i64 n] w (jE w (Ce a [(n,n)])):=by
 have RA:Aside (Row aG 2 w va a):=ha;have C:Hid (Calls Tryz.prog 171 #[.int .i64 n] w fun e w'=>∃v,e=.returned v∧Row aG 2 w' v [(n,n)]∧Below w.heap.size w w'):=Au n w;obtain⟨aa,ca,rfl,_⟩:=ha;go_enter Tryz.func141,Tryz.ntmps141
 go_wp2_with fail
 refine Calls.mono C.out ?_;rintro e w1 ⟨v1,rfl,r1,b1⟩;have N:Hid (Calls Tryz.prog 170 #[.slice aa a.length ca,v1] w1 (jE w1 (Ce a [(n,n)]))):=MR _ _ a [(n,n)] w1 (RA.out.below b1) r1 (by simp;omega);have B1:Hid (Below w.heap.size w w1):=b1;obtain⟨a1,c1,rfl,_⟩:=id r1;clear r1 b1 C
 go_wp2_with fail
 refine Calls.mono N.out ?_;rintro e w2 ⟨lL,n2,c2,rfl,r2,b2⟩;go_wp2;go_ret;exact⟨_,_,_,rfl,r2.mono B1.out.size,B1.out.trans (b2.mono B1.out.size)⟩
end
section
open Go.ChangeMaps (setBlock)
section
variable {B:Nat}{w0 w:World}{l:List aN}{t f b:Nat}{x:TX}{d:Dk}
theorem qG (w:World):Calls Tryz.prog 169 #[ptr t] w fun e w'=>e=.returned (ptr t)∧w=w':=by
 go_enter Tryz.func169,Tryz.ntmps169;go_wp2;go_ret;exact⟨rfl,rfl⟩
theorem IM (h:Sep B w0 w (Tx t f x::l))(h2:2<=x.pages):Calls Tryz.prog 180 #[ptr t] w fun e w'=>e=.returned (.int .i64 (x.pages:Int))∧w=w':=by
 obtain⟨v,m,h⟩:=h.iD;obtain⟨ht,q0,q1,q2,q3,qf⟩:=h.fT;have C:Hid _:=qG (t:=t) w;clear h;generalize x.pages=p at*;go_enter Tryz.func180,Tryz.ntmps180
 go_wp2_with fail
 refine Calls.mono C.out ?_;rintro e w1 ⟨rfl,rfl⟩;clear C;go_wp2;go_ret;exact⟨gI (by omega),rfl⟩
theorem A6 (h:Sep B w0 w (Tx t f x::l)){id:Int}(hk:Wf id):Calls Tryz.prog 140 #[ptr t,.int .i64 id] w fun e w'=>e=.returned (.bool (x.fresh id).isSome)∧Below w.heap.size w w':=by
 obtain⟨v,m,h⟩:=h.iD;obtain⟨ht,q0,q1,q2,q3,qf⟩:=h.fT;have iY:=h.OE.GW hk;have C:Hid _:=qG (t:=t) w;clear h hk;generalize(x.fresh id).getD c0=cc at*;generalize(x.fresh id).isSome=bb at*;obtain⟨cb,ck,cs⟩:=cc;unfold cV at iY;simp only at iY;go_enter Tryz.func140,Tryz.ntmps140
 go_wp2_with fail
 refine Calls.mono C.out ?_;rintro e w1 ⟨rfl,rfl⟩;clear C;have B1:Hid (Below w.heap.size w (w.alloc (.cells #[.bool cb,.int .u8 (ck.toNat:Int),.string cs] 226))):=(Below.refl _ w).alloc (Nat.le_refl _) _;go_wp2;go_ret;exact⟨rfl,B1.out⟩
theorem za (h:Sep B w0 w (Tx t f x::l))(hc:Cn x.free):Calls Tryz.prog 197 #[ptr t] w fun e w'=>e=.returned (.tuple #[.int .i64 (Qt x.free),.bool (Qu x.free)])∧Sep B w0 w' (Tx t f ⟨gA x.free,x.pages,x.fresh,x.cnt⟩::l):=by
 obtain⟨fr,p,g,c⟩:=x;simp only at hc⊢;cases fr with
 |nil=>
  have HS:Hid (Sep B w0 w (Tx t f ⟨gA [],p,g,c⟩::l)):=h;obtain⟨v,m,h⟩:=h.iD;obtain⟨ht,q0,q1,q2,q3,qf⟩:=h.fT;obtain⟨ao,cap,rfl,_⟩:=h.rO.free;clear h;go_enter Tryz.func197,Tryz.ntmps197;go_wp2;go_ret2;exact⟨rfl,HS.out⟩
 |cons r s=>
  obtain⟨v,m,h⟩:=h.iD;obtain⟨ht,q0,q1,q2,q3,qf⟩:=h.fT;obtain⟨gb,o,cap,rfl,hcap,hg,x0,x1,xf⟩:=h.rO.QV;have q4:=qf 1;obtain⟨a,z⟩:=r;simp only at x0 x1;by_cases haz:a=z
  ·subst haz;have hd:gA ((a,a)::s)=s:=by rw[fY,if_neg (by simp)]
   rw[hd];have ho:=Ix gb o s.length cap hcap;have h1:=(h.rO.Iw).rO;generalize(if cap=1 then some (⟨gb,o,none⟩:Addr)else some ⟨gb,o+2,none⟩)=ao at ho h1;have K:Hid (∀nq,((w.drewN nq).cell? ⟨t,1,none⟩=some (.slice (some ⟨gb,o,none⟩) (s.length+1) cap)∧(w.drewN nq).frozen? ⟨t,1,none⟩=false∧t< (w.drewN nq).heap.size)∧Sep B w0 ((w.drewN nq).setCell ⟨t,1,none⟩ (.slice ao s.length (cap-1))) (Tx t f ⟨s,p,g,c⟩::l)):=fun nq=>by
    refine⟨⟨q1,q4,ht⟩,?_⟩;exact Sep.txShut (m:=m) (x:=⟨s,p,g,c⟩) ((h1.drewN nq).sP (i:=1) (.slice ao s.length (cap-1)))
   clear h h1;go_enter Tryz.func197,Tryz.ntmps197
   go_wp2_with fail
   go_quiet (fail)
   obtain⟨⟨q5,q6,q7⟩,s1⟩:=K.out nq;have S1:Hid _:=s1;clear K s1 q0 q1 q2 q3 qf q4 x0 x1 xf ht hg;generalize w.drewN nq=wq at*;go_wp2;go_ret2;exact⟨rfl,S1.out⟩
  ·have hlt:a<z:=by have:=(bD.1 hc).1.2.1;simp only at this;omega
   have hm:z<=4294967295:=(bD.1 hc).1.2.2;have h0:0<=a:=(bD.1 hc).1.1;have hd:gA ((a,z)::s)=(a+1,z)::s:=by rw[fY,if_pos hlt]
   rw[hd];have hw:wrap64 (a+1)=a+1:=Tu (by omega) (by omega);have K:Hid (∀nq,((w.drewN nq).cell? ⟨gb,o,none⟩=some (.int .i64 a)∧(w.drewN nq).frozen? ⟨gb,o,none⟩=false∧gb< (w.drewN nq).heap.size)∧Sep B w0 ((w.drewN nq).setCell ⟨gb,o,none⟩ (.int .i64 (a+1))) (Tx t f ⟨(a+1,z)::s,p,g,c⟩::l)):=fun nq=>⟨⟨x0,xf,hg⟩,Sep.txShut (m:=m) (x:=⟨(a+1,z)::s,p,g,c⟩) ((h.drewN nq).rO.MO (a':=a+1)).rO⟩;clear h;go_enter Tryz.func197,Tryz.ntmps197
   go_wp2_with fail
   go_quiet (fail)
   obtain⟨⟨q5,q6,q7⟩,s1⟩:=K.out nq;have S1:Hid _:=s1;clear K s1 q0 q1 q2 q3 qf q4 x0 x1 xf ht hg;generalize w.drewN nq=wq at*;go_wp2;go_ret2;exact⟨rfl,S1.out⟩
end
end
section
open Go.ChangeMaps (setBlock)
section
variable {B:Nat}{w0 w:World}{l:List aN}{t f b:Nat}{x:TX}{d:Dk}
def TX.behind (x:TX)(room:Nat):TX:=if room<=x.pages then x else⟨x.free,x.pages+1,x.fresh,x.cnt⟩
theorem wO (h:Sep B w0 w (Tx t f x::File f b d::l))(h2:2<=x.pages)(hp:x.pages<=20000):Calls Tryz.prog 198 #[ptr t] w fun e w'=>e=.returned (.tuple #[.int .i64 (if d.room<=x.pages then 0 else(x.pages:Int)),.bool (!decide (d.room<=x.pages))])∧Sep B w0 w' (Tx t f (x.behind d.room)::File f b d::l):=by
 have CP:Hid _:=IM h h2;have CR:Hid _:=Aq h.rO;have HS:Hid (Sep B w0 w (Tx t f x::File f b d::l)):=h;obtain⟨v,m,h⟩:=h.iD;obtain⟨ht,q0,q1,q2,q3,qf⟩:=h.fT;have q4:=qf 2;unfold TX.behind;by_cases hr:d.room<=x.pages
 ·have hrz:(d.room:Int)<=(x.pages:Int):=by omega
  simp only[hr,if_true,decide_true,Bool.not_true];clear h hr;generalize d.room=rm at*;generalize x.pages=p at*;go_enter Tryz.func198,Tryz.ntmps198
  go_wp2_with fail
  refine Calls.mono CP.out ?_;rintro e w1 ⟨rfl,rfl⟩;clear CP
  go_wp2_with fail
  refine Calls.mono CR.out ?_;rintro e w1 ⟨rfl,rfl⟩;clear CR;go_wp2;go_ret2;exact⟨rfl,HS.out⟩
 ·have hrz:¬(d.room:Int)<=(x.pages:Int):=by omega
  simp only[hr,if_false,decide_false,Bool.not_false];have S1:Hid (Sep B w0 (w.setCell ⟨t,2,none⟩ (.int .i64 ((x.pages:Int)+1))) (Tx t f ⟨x.free,x.pages+1,x.fresh,x.cnt⟩::File f b d::l)):=by
   have h1:=h.sP (i:=2) (.int .i64 ((x.pages:Int)+1));refine Sep.txShut (m:=m) (v:=v) (x:=⟨x.free,x.pages+1,x.fresh,x.cnt⟩) ?_;simpa[Iy]using h1
  have hw:wrap64 ((x.pages:Int)+1)=(x.pages:Int)+1:=Tu (by omega) (by omega);clear h hr HS;generalize d.room=rm at*;generalize(x.pages:Int)=p at*;go_enter Tryz.func198,Tryz.ntmps198
  go_wp2_with fail
  refine Calls.mono CP.out ?_;rintro e w1 ⟨rfl,rfl⟩;clear CP
  go_wp2_with fail
  refine Calls.mono CR.out ?_;rintro e w1 ⟨rfl,rfl⟩;clear CR;go_wp2;go_ret2;exact⟨rfl,S1.out⟩
theorem Sep.IQ (h:Sep B w0 w (Tx t f x::l)){k:Int}(hk:Wf k)(c:C3)(hn:x.cnt<1000000):∃m w',w.cell? ⟨t,3,none⟩=some (.map (some m))∧t<w.heap.size∧(Instr.mapUpdate 124 (.map (some m)) (.int .i64 k) (cV c)).run Tryz.prog w=.ok () w'∧Sep B w0 w' (Tx t f ⟨x.free,x.pages,gN x.fresh k c,x.cnt+1⟩::l):=by
 obtain⟨v,m,h⟩:=h.iD;obtain⟨ht,q0,q1,q2,q3,qf⟩:=h.fT;obtain⟨w',hr,h'⟩:=h.OE.Qm hk c hn;exact⟨m,w',q3,ht,hr,Sep.txShut (x:=⟨x.free,x.pages,gN x.fresh k c,x.cnt+1⟩) h'.Ug⟩
theorem Wf.of_lt {n:Int}(h0:0<=n)(h1:n<=4294967295):Wf n:=⟨by omega,by omega⟩
theorem IU (h:Sep B w0 w (Tx t f x::File f b d::l))(ok:x.Ok d.room)(hr:d.room<=16384)(hn:x.cnt<1000000):Calls Tryz.prog 162 #[ptr t] w fun e w'=>e=.returned (.tuple #[.int .i64 (x.alloc d.room).1.1,.int .i64 (x.alloc d.room).1.2])∧Sep B w0 w' (Tx t f (x.alloc d.room).2::File f b d::l):=by
 have C:Hid _:=qG (t:=t) w;have CL:Hid _:=za h ok.cn;obtain⟨fr,p,g,c⟩:=x;cases fr with
 |cons r s=>
  have hk:Wf r.1:=Wf.of_lt (bD.1 ok.cn).1.1 (by have:=(bD.1 ok.cn).1;omega);have K:Hid (∀u,Sep B w0 u (Tx t f ⟨gA (r::s),p,g,c⟩::File f b d::l)->∃m w',u.cell? ⟨t,3,none⟩=some (.map (some m))∧t<u.heap.size∧(Instr.mapUpdate 124 (.map (some m)) (.int .i64 r.1) (.agg #[.bool false,.int .u8 0,.string ⟨#[]⟩])).run Tryz.prog u=.ok () w'∧Sep B w0 w' (Tx t f ⟨gA (r::s),p,gN g r.1 c0,c+1⟩::File f b d::l)):=fun u hu=>hu.IQ hk c0 hn;simp only[TX.alloc];have e1:Qt (r::s)=r.1:=rfl;have e2:Qu (r::s)=true:=rfl;simp only[e1,e2]at CL;clear h ok hk e1 e2;generalize r.1=id at*;generalize gA (r::s)=fr2 at*;go_enter Tryz.func162,Tryz.ntmps162
  go_wp2_with fail
  refine Calls.mono C.out ?_;rintro e w1 ⟨rfl,rfl⟩;clear C
  go_wp2_with fail
  refine Calls.mono CL.out ?_;rintro e w2 ⟨rfl,s2⟩;obtain⟨m,w3,q3,ht,hrun,s3⟩:=K.out w2 s2;have S3:Hid (Sep B w0 w3 (Tx t f ⟨fr2,p,gN g id c0,c+1⟩::File f b d::l)):=s3;clear CL s2 s3 K;go_wp2;go_ret2;exact⟨rfl,S3.out⟩
 |nil=>
  have h2:=ok.p2;have h3:=ok.pr;simp only at h2 h3;have CB:Hid _:=fun u hu=>wO (w:=u) (x:=⟨[],p,g,c⟩) (B:=B) (w0:=w0) (t:=t) (f:=f) (b:=b) (d:=d) (l:=l) hu h2 (by simp only;omega);have e1:Qt []=0:=rfl;have e2:Qu []=false:=rfl;have e3:gA []=[]:=rfl;simp only[e1,e2,e3]at CL;simp only[TX.alloc];unfold TX.behind at CB;simp only at CB;by_cases hrm:d.room<=p
  ·simp only[hrm,if_true,decide_true,Bool.not_true]at CB⊢;clear h ok e1 e2 e3 h2 h3 hrm;go_enter Tryz.func162,Tryz.ntmps162
   go_wp2_with fail
   refine Calls.mono C.out ?_;rintro e w1 ⟨rfl,rfl⟩;clear C
   go_wp2_with fail
   refine Calls.mono CL.out ?_;rintro e w2 ⟨rfl,s2⟩;have C2:Hid _:=CB.out w2 s2;clear CL s2 CB
   go_wp2_with fail
   refine Calls.mono C2.out ?_;rintro e w3 ⟨rfl,s3⟩;have S3:Hid (Sep B w0 w3 (Tx t f ⟨[],p,g,c⟩::File f b d::l)):=s3;clear C2 s3;go_wp2;go_ret2;exact⟨rfl,S3.out⟩
  ·simp only[hrm,if_false,decide_false,Bool.not_false]at CB⊢;have K:Hid (∀u,Sep B w0 u (Tx t f ⟨[],p+1,g,c⟩::File f b d::l)->∃m w',u.cell? ⟨t,3,none⟩=some (.map (some m))∧t<u.heap.size∧(Instr.mapUpdate 124 (.map (some m)) (.int .i64 (p:Int)) (.agg #[.bool false,.int .u8 0,.string ⟨#[]⟩])).run Tryz.prog u=.ok () w'∧Sep B w0 w' (Tx t f ⟨[],p+1,gN g p c0,c+1⟩::File f b d::l)):=fun u hu=>hu.IQ (Wf.of_lt (by omega) (by omega)) c0 hn;clear h ok e1 e2 e3 h2 h3 hrm;go_enter Tryz.func162,Tryz.ntmps162
   go_wp2_with fail
   refine Calls.mono C.out ?_;rintro e w1 ⟨rfl,rfl⟩;clear C
   go_wp2_with fail
   refine Calls.mono CL.out ?_;rintro e w2 ⟨rfl,s2⟩;have C2:Hid _:=CB.out w2 s2;clear CL s2 CB
   go_wp2_with fail
   refine Calls.mono C2.out ?_;rintro e w3 ⟨rfl,s3⟩;obtain⟨m,w4,q3,ht,hrun,s4⟩:=K.out w3 s3;have S4:Hid (Sep B w0 w4 (Tx t f ⟨[],p+1,gN g p c0,c+1⟩::File f b d::l)):=s4;clear C2 s3 s4 K;go_wp2;go_ret2;exact⟨rfl,S4.out⟩
theorem OV (h:Sep B w0 w (Tx t f x::l)){id:Int}(hk:Wf id)(hl:x.free.length<=20000):Calls Tryz.prog 115 #[ptr t,.int .i64 id] w fun e w'=>e=.returned (.tuple #[])∧Sep B w0 w' (Tx t f (x.drop id)::l):=by
 have Dd:=A6 h hk;have HS:Hid (Sep B w0 w (Tx t f x::l)):=h;unfold TX.drop;by_cases hi:(x.fresh id).isSome=true
 ·rw[if_pos hi];rw[hi]at Dd;have CF:Hid _:=Dd;have K:Hid (∀u,Sep B w0 u (Tx t f x::l)->∃v m w2,u.cell? ⟨t,3,none⟩=some (.map (some m))∧t<u.heap.size∧(Builtin.delete_ #[124,3] 0 #[.map (some m),.int .i64 id]).run Tryz.prog u=.ok (.tuple #[]) w2∧
    Sep B w0 w2 (ax t (Iy f v x.pages m)::gG v x.free::mP m (rU x.fresh id) x.cnt::l)):=fun u hu=>by
   obtain⟨v,m,h⟩:=hu.iD;obtain⟨ht,q0,q1,q2,q3,qf⟩:=h.fT;obtain⟨w2,hrun,h2⟩:=h.OE.Qn hk 0;exact⟨v,m,w2,q3,ht,hrun,h2.Ug⟩
  clear h Dd;go_enter Tryz.func115,Tryz.ntmps115
  go_wp2_with fail
  refine Calls.mono CF.out ?_;rintro e w1 ⟨rfl,b1⟩;obtain⟨v,m,w2,q3,ht,hrun,h3⟩:=K.out w1 (HS.out.below b1);obtain⟨ht',q0',q1',q2',q3',qf'⟩:=h3.fT;have q4:=qf' 1;have A:Hid _:=U8 v x.free id w2 h3.rO.free.row (by omega);have K2:Hid (∀ao n c u,Own aG 2 w2.heap.size u (.slice ao n c) (Ce x.free [(id,id)])->Below w2.heap.size w2 u->Sep B w0 (u.setCell ⟨t,1,none⟩ (.slice ao n c)) (Tx t f ⟨Ce x.free [(id,id)],x.pages,rU x.fresh id,x.cnt⟩::l)):=fun ao n c u ho hb=>by
   have k1:=(h3.rO.drop.Db hb ho).rO.sP (i:=1) (.slice ao n c);exact Sep.txShut (x:=⟨Ce x.free [(id,id)],x.pages,rU x.fresh id,x.cnt⟩) k1
  obtain⟨ao,cap,rfl,_⟩:=h3.rO.free;have hsz:Hid (t<w2.heap.size):=ht';clear h3 CF K HS b1
  go_wp2_with fail
  refine Calls.mono A.out ?_;rintro e w3 ⟨zS,n3,c3,rfl,r3,b3⟩;have S3:Hid _:=K2.out _ _ _ _ r3 b3;have q5:w3.frozen? ⟨t,1,none⟩=false:=(b3.frozen (p:=⟨t,1,none⟩) hsz.out).trans q4;have q6:=(b3.cell (p:=⟨t,1,none⟩) hsz.out).trans q1';have q7:t<w3.heap.size:=Nat.lt_of_lt_of_le hsz.out b3.size;clear A K2 r3 b3;go_wp2
  go_end0
  exact⟨rfl,S3.out⟩
 ·have hf:(x.fresh id).isSome=false:=by simpa using hi
  rw[if_neg hi];rw[hf]at Dd;have CF:Hid _:=Dd;clear h Dd hi hf;go_enter Tryz.func115,Tryz.ntmps115
  go_wp2_with fail
  refine Calls.mono CF.out ?_;rintro e w1 ⟨rfl,b1⟩;have S1:Hid (Sep B w0 w1 (Tx t f x::l)):=HS.out.below b1;clear CF b1;go_wp2;refine bodyPost_ret (results_none rfl _ _ _) rfl ?_;exact⟨rfl,S1.out⟩
theorem Yg (h:Sep B w0 w (Tx t f x::l)){id:Int}(hk:Wf id)(kind:UInt8)(s:ByteArray)(hs:s.size<=maxLen)(hn:x.cnt<1000000):Calls Tryz.prog 119 #[ptr t,.int .i64 id,.int .u8 (kind.toNat:Int),.string s] w fun e w'=>e=.returned (.int .i64 (x.put id kind s).1)∧Sep B w0 w' (Tx t f (x.put id kind s).2::l):=by
 have Dd:=A6 h hk;have HS:Hid (Sep B w0 w (Tx t f x::l)):=h;unfold TX.put;by_cases hi:(x.fresh id).isSome=true
 ·rw[if_pos hi];rw[hi]at Dd;have CF:Hid _:=Dd;by_cases hz:240<s.size
  ·have hz2:(240:Int)< (s.size:Int):=by omega
   rw[if_pos hz];clear h Dd hi hz;go_enter Tryz.func119,Tryz.ntmps119
   go_wp2_with fail
   refine Calls.mono CF.out ?_;rintro e w1 ⟨rfl,b1⟩;have S1:Hid (Sep B w0 w1 (Tx t f x::l)):=HS.out.below b1;clear CF b1;go_wp2;go_ret;exact⟨rfl,S1.out⟩
  ·have hz2:¬(240:Int)< (s.size:Int):=by omega
   rw[if_neg hz];have K:Hid (∀u,Sep B w0 u (Tx t f x::l)->∃m w',u.cell? ⟨t,3,none⟩=some (.map (some m))∧t<u.heap.size∧(Instr.mapUpdate 124 (.map (some m)) (.int .i64 id) (.agg #[.bool true,.int .u8 (kind.toNat:Int),.string s])).run Tryz.prog u=.ok () w'∧Sep B w0 w' (Tx t f ⟨x.free,x.pages,gN x.fresh id ⟨true,kind,s⟩,x.cnt+1⟩::l)):=fun u hu=>hu.IQ hk ⟨true,kind,s⟩ hn;clear h Dd hi hz;go_enter Tryz.func119,Tryz.ntmps119
   go_wp2_with fail
   refine Calls.mono CF.out ?_;rintro e w1 ⟨rfl,b1⟩;obtain⟨m,w2,q3,ht,hrun,s2⟩:=K.out w1 (HS.out.below b1);have S2:Hid _:=s2;clear CF b1 K HS s2;go_wp2;go_ret;exact⟨rfl,S2.out⟩
 ·have hf:(x.fresh id).isSome=false:=by simpa using hi
  rw[if_neg hi];rw[hf]at Dd;have CF:Hid _:=Dd;clear h Dd hi hf;go_enter Tryz.func119,Tryz.ntmps119
  go_wp2_with fail
  refine Calls.mono CF.out ?_;rintro e w1 ⟨rfl,b1⟩;have S1:Hid (Sep B w0 w1 (Tx t f x::l)):=HS.out.below b1;clear CF b1;go_wp2;go_ret;exact⟨rfl,S1.out⟩
end
end
end Go.Proofs.YtdcpfbidcpfboaaGreatDoor
namespace Go.Proofs.YtdcpfbidcpfboaaGreatDoor
section
open Go.Shelf Go.RowKit Go.Lib Go.Sort Go.Maps
open Go.ChangeMaps (setBlock)
section
variable {B:Nat}{w0 w:World}{l:List aN}{t f b:Nat}{x:TX}{d:Dk}
theorem U9 (w:World):(Instr.makeMap 124 none).run Tryz.prog w=.ok (.map (some w.heap.size)) (w.alloc (.map #[] 0)):=by kernel_rfl
theorem Yh (h:Sep B w0 w (File f b d::l))(hm:d.room<=16384){v:Value}{fr:List Pr}(hr:Row aG 2 w v fr)(hl:fr.length<=40000)(pages:Int):
  Calls Tryz.prog 36 #[ptr f,v,.int .i64 pages] w fun e w'=>∃t,e=.returned (ptr t)∧Sep B w0 w' (Tx t f (TX.new fr pages d.room)::File f b d::l):=by
 have CR:Hid _:=Aq h;have hpo:Hid ((cO pages d.room:Int)=max 2 (min pages (d.room:Int))):=by show _=_;unfold cO;omega
 have hP2:(2:Int)<=max 2 (min pages (d.room:Int)):=by omega
 have hP3:max 2 (min pages (d.room:Int))<=16384:=by omega
 obtain⟨X,hX⟩:∃X,TX.new fr pages d.room=X:=⟨_,rfl⟩;have HX:Hid (X=⟨uF fr [(2,(cO pages d.room:Int)-1)],cO pages d.room,fun _=>none,0⟩):=hX.symm;rw[hX];clear hX;have K:Hid (∀P:Int,(cO pages d.room:Int)=P->∀W:World,W=w.alloc (.cells #[.int .i64 2,.int .i64 (P-1)] 123)->Calls Tryz.prog 69 #[v,.slice (some ⟨w.heap.size,0,none⟩) 1 1] W (jE W (uF fr [(2,(cO pages d.room:Int)-1)]))):=by
  intro P hP W hW;rw[hP];refine QZ _ _ _ _ W ?_ ?_ (by simp;omega)
  ·rw[hW];exact hr.below ((Below.refl _ _).alloc (Nat.le_refl _) _)
  ·rw[hW];exact row_one (Cl.new _ _ _)
 have S:Hid (∀W,Below w.heap.size w W->Sep B w0 W (File f b d::l)):=fun W hb=>h.below hb;clear h;obtain⟨av,cv,rfl,_⟩:=hr;go_enter Tryz.func36,Tryz.ntmps36
 go_wp2_with fail
 refine Calls.mono CR.out ?_;rintro e w1 ⟨rfl,rfl⟩;clear CR
 go_wp2_with fail
 refine Calls.mono (K.out _ hpo.out _ rfl) ?_;rintro e w2 ⟨lL,n2,c2,rfl,r2,b2⟩;have s2:=(S.out _ ((Below.refl _ _).alloc (Nat.le_refl _) _)).Db b2 r2;have s3:=s2.Ql.rO.aQ (Iy f (.slice lL n2 c2) (cO pages d.room) w2.heap.size);have S4:=Sep.txShut (x:=⟨uF fr [(2,(cO pages d.room:Int)-1)],cO pages d.room,fun _=>none,0⟩) s3;rw[<-HX.out]at S4;unfold Iy at S4;rw[hpo.out,show(w2.alloc (.map #[] 0)).heap.size=w2.heap.size+1 by simp]at S4;have S5:Hid _:=S4;have hmk:=U9 w2;clear s2 s3 S K r2 b2 hpo HX S4;generalize max 2 (min pages (d.room:Int))=P at*;go_wp2;go_ret;exact⟨_,rfl,S5.out⟩
end
end
end Go.Proofs.YtdcpfbidcpfboaaGreatDoor
section
namespace Go.Proofs
open Go.Shelf
def Tryz.uV:Go.Shelf.Ren:=⟨fun|7=>117|10=>144|n=>n,fun|23=>151|26=>3|3=>184|28=>192|0=>0|27=>191|33=>83|4=>4|n=>n,fun|n=>n⟩
theorem Tryz.OW:Go.Proofs.SlLaysZI.n7 Tryz.prog Tryz.uV:={
 mixed:=by kernel_rfl
 f7:=⟨Tryz.f117.name,by decide,Tryz.func117.trans (congrArg some (by kernel_rfl))⟩
 f10:=⟨Tryz.f144.name,by decide,Tryz.func144.trans (congrArg some (by kernel_rfl))⟩
 t0:=Tryz.underlying0
 a0:=Tryz.isAgg0
 z0:=Tryz.sizeOf0
 v0:=Tryz.zeroValue0
 t4:=Tryz.underlying4
 a4:=Tryz.isAgg4
 z4:=Tryz.sizeOf4
 v4:=Tryz.zeroValue4
 t23:=Tryz.underlying151
 a23:=Tryz.isAgg151
 z23:=Tryz.sizeOf151
 v23:=Tryz.zeroValue151
 t26:=Tryz.underlying3
 a26:=Tryz.isAgg3
 z26:=Tryz.sizeOf3
 v26:=Tryz.zeroValue3
 t27:=Tryz.underlying191
 a27:=Tryz.isAgg191
 z27:=Tryz.sizeOf191
 v27:=Tryz.zeroValue191
 t28:=Tryz.underlying192
 a28:=Tryz.isAgg192
 z28:=Tryz.sizeOf192
 v28:=Tryz.zeroValue192
 t33:=Tryz.underlying83
 a33:=Tryz.isAgg83
 z33:=Tryz.sizeOf83
 v33:=Tryz.zeroValue83}
def Tryz.o8:Go.Shelf.Ren:=⟨fun|6=>116|8=>142|9=>143|11=>172|13=>174|12=>173|23=>212|24=>213|14=>203|15=>204|16=>205|17=>206|18=>207|19=>208|20=>209|21=>210|22=>211|25=>233|26=>234|27=>235|28=>236|29=>237|30=>186|31=>249|n=>n,fun|26=>3|28=>192|24=>93|0=>0|3=>3|37=>163|48=>206|50=>209|4=>4|40=>279|39=>278|45=>157|5=>5|9=>9|51=>302|55=>306|57=>320|58=>321|33=>83|n=>n,fun|n=>n⟩
theorem Tryz.MS:Go.Proofs.SlLaysZI.n6 Tryz.prog Tryz.o8:={
 mixed:=by kernel_rfl
 f6:=⟨Tryz.f116.name,by decide,Tryz.func116.trans (congrArg some (by kernel_rfl))⟩
 f8:=⟨Tryz.f142.name,by decide,Tryz.func142.trans (congrArg some (by kernel_rfl))⟩
 f11:=⟨Tryz.f172.name,by decide,Tryz.func172.trans (congrArg some (by kernel_rfl))⟩
 t0:=Tryz.underlying0
 a0:=Tryz.isAgg0
 z0:=Tryz.sizeOf0
 v0:=Tryz.zeroValue0
 t24:=Tryz.underlying93
 a24:=Tryz.isAgg93
 z24:=Tryz.sizeOf93
 v24:=Tryz.zeroValue93
 t26:=Tryz.underlying3
 a26:=Tryz.isAgg3
 z26:=Tryz.sizeOf3
 v26:=Tryz.zeroValue3
 t28:=Tryz.underlying192
 a28:=Tryz.isAgg192
 z28:=Tryz.sizeOf192
 v28:=Tryz.zeroValue192
 i26:=by kernel_rfl}
def Tryz.ET:Go.Shelf.Ren:=⟨fun|5=>143|8=>174|7=>173|19=>212|20=>213|10=>203|11=>204|12=>205|13=>206|14=>207|15=>208|16=>209|17=>210|18=>211|30=>233|31=>234|32=>235|33=>236|34=>237|35=>186|40=>249|n=>n,fun|23=>93|25=>3|3=>3|32=>163|22=>93|0=>0|44=>206|46=>209|4=>4|36=>279|35=>278|41=>157|5=>5|9=>9|53=>302|57=>306|63=>320|64=>321|n=>n,fun|n=>n⟩
theorem Tryz.OY:Go.Proofs.SlLaysM.n5 Tryz.prog Tryz.ET:={
 mixed:=by kernel_rfl
 f5:=⟨Tryz.f143.name,by decide,Tryz.func143.trans (congrArg some (by kernel_rfl))⟩
 f7:=⟨Tryz.f173.name,by decide,Tryz.func173.trans (congrArg some (by kernel_rfl))⟩
 f8:=Tryz.func174.trans (congrArg some (by kernel_rfl))
 f10:=⟨Tryz.f203.name,by decide,Tryz.func203.trans (congrArg some (by kernel_rfl))⟩
 f11:=⟨Tryz.f204.name,by decide,Tryz.func204.trans (congrArg some (by kernel_rfl))⟩
 f12:=⟨Tryz.f205.name,by decide,Tryz.func205.trans (congrArg some (by kernel_rfl))⟩
 f13:=⟨Tryz.f206.name,by decide,Tryz.func206.trans (congrArg some (by kernel_rfl))⟩
 f14:=⟨Tryz.f207.name,by decide,Tryz.func207.trans (congrArg some (by kernel_rfl))⟩
 f15:=⟨Tryz.f208.name,by decide,Tryz.func208.trans (congrArg some (by kernel_rfl))⟩
 f16:=⟨Tryz.f209.name,by decide,Tryz.func209.trans (congrArg some (by kernel_rfl))⟩
 f17:=⟨Tryz.f210.name,by decide,Tryz.func210.trans (congrArg some (by kernel_rfl))⟩
 f18:=⟨Tryz.f211.name,by decide,Tryz.func211.trans (congrArg some (by kernel_rfl))⟩
 f19:=Tryz.func212.trans (congrArg some (by kernel_rfl))
 f20:=Tryz.func213.trans (congrArg some (by kernel_rfl))
 f30:=⟨Tryz.f233.name,by decide,Tryz.func233.trans (congrArg some (by kernel_rfl))⟩
 f31:=Tryz.func234.trans (congrArg some (by kernel_rfl))
 f32:=Tryz.func235.trans (congrArg some (by kernel_rfl))
 f33:=⟨Tryz.f236.name,by decide,Tryz.func236.trans (congrArg some (by kernel_rfl))⟩
 f34:=⟨Tryz.f237.name,by decide,Tryz.func237.trans (congrArg some (by kernel_rfl))⟩
 f35:=⟨Tryz.f186.name,by decide,Tryz.func186.trans (congrArg some (by kernel_rfl))⟩
 f40:=⟨Tryz.f249.name,by decide,Tryz.func249.trans (congrArg some (by kernel_rfl))⟩
 t0:=Tryz.underlying0
 a0:=Tryz.isAgg0
 z0:=Tryz.sizeOf0
 v0:=Tryz.zeroValue0
 t3:=Tryz.underlying3
 a3:=Tryz.isAgg3
 z3:=Tryz.sizeOf3
 v3:=Tryz.zeroValue3
 t4:=Tryz.underlying4
 a4:=Tryz.isAgg4
 z4:=Tryz.sizeOf4
 v4:=Tryz.zeroValue4
 t5:=Tryz.underlying5
 a5:=Tryz.isAgg5
 z5:=Tryz.sizeOf5
 v5:=Tryz.zeroValue5
 t9:=Tryz.underlying9
 a9:=Tryz.isAgg9
 z9:=Tryz.sizeOf9
 v9:=Tryz.zeroValue9
 t22:=Tryz.underlying93
 a22:=Tryz.isAgg93
 z22:=Tryz.sizeOf93
 v22:=Tryz.zeroValue93
 t23:=Tryz.underlying93
 a23:=Tryz.isAgg93
 z23:=Tryz.sizeOf93
 v23:=Tryz.zeroValue93
 t25:=Tryz.underlying3
 a25:=Tryz.isAgg3
 z25:=Tryz.sizeOf3
 v25:=Tryz.zeroValue3
 t32:=Tryz.underlying163
 a32:=Tryz.isAgg163
 z32:=Tryz.sizeOf163
 v32:=Tryz.zeroValue163
 t35:=Tryz.underlying278
 a35:=Tryz.isAgg278
 z35:=Tryz.sizeOf278
 v35:=Tryz.zeroValue278
 t36:=Tryz.underlying279
 a36:=Tryz.isAgg279
 z36:=Tryz.sizeOf279
 v36:=Tryz.zeroValue279
 t41:=Tryz.underlying157
 a41:=Tryz.isAgg157
 z41:=Tryz.sizeOf157
 v41:=Tryz.zeroValue157
 t44:=Tryz.underlying206
 a44:=Tryz.isAgg206
 z44:=Tryz.sizeOf206
 v44:=Tryz.zeroValue206
 t46:=Tryz.underlying209
 a46:=Tryz.isAgg209
 z46:=Tryz.sizeOf209
 v46:=Tryz.zeroValue209
 t53:=Tryz.underlying302
 a53:=Tryz.isAgg302
 z53:=Tryz.sizeOf302
 v53:=Tryz.zeroValue302
 t57:=Tryz.underlying306
 a57:=Tryz.isAgg306
 z57:=Tryz.sizeOf306
 v57:=Tryz.zeroValue306
 t63:=Tryz.underlying320
 a63:=Tryz.isAgg320
 z63:=Tryz.sizeOf320
 v63:=Tryz.zeroValue320
 t64:=Tryz.underlying321
 a64:=Tryz.isAgg321
 z64:=Tryz.sizeOf321
 v64:=Tryz.zeroValue321}
end Go.Proofs
end
namespace Go.Proofs.YtdcpfbidcpfboaaGreatDoor
section
open Go.Shelf Go.RowKit Go.Maps Go.Sort
theorem Q0 (m:Nat):AnyZI.SortsIn Tryz.prog Tryz.o8 Fence.wide m:=
 ⟨fun blk off cap ss W hH hblk hsz=>callsIn_wide.2 (AnyM.slices_Sort_int Tryz.OY blk off cap ss W hH hblk hsz),
  fun p cap W=>callsIn_wide.2 (AnyM.slices_Sort_int_none Tryz.OY p cap W)⟩
section
variable {B:Nat}{w0 w:World}{l:List aN}{t f b:Nat}{x:TX}{d:Dk}
end
end
end Go.Proofs.YtdcpfbidcpfboaaGreatDoor
namespace Go.Proofs.YtdcpfbidcpfboaaGreatDoor
open Go.Shelf Go.RowKit Go.Lib Go.Sort
section
def y0:TX:=TX.new [(3,3)] 5 6
def y1:(Int×Int)×TX:=y0.alloc 6
def y2:(Int×Int)×TX:=y1.2.alloc 6
def y3:(Int×Int)×TX:=y2.2.alloc 6
def y4:TX:=y3.2.drop 3
def y5:(Int×Int)×TX:=y4.alloc 6
end
section
section
variable {B:Nat}{w0 w w':World}{l:List aN}{v:Value}{s:List Pr}
end
section
variable {B:Nat}{w0 w:World}{l:List aN}
end
section
variable {B:Nat}{w0 w w':World}{l:List aN}
end
section
variable {ops:Array Oper}{rest:List Oper}{o:Oper}{a:Act}{Q:Exit->Act->World->Prop}{B:Nat}{w0 w:World}{l:List aN}
end
section
variable {ops:Array Oper}{o:Oper}{a:Act}{K:Act->World->Prop}{Q:Exit->Act->World->Prop}{E:Prop}{B:Nat}{w0 w:World}{l:List aN}
end
end
section
open Go.ChangeMaps (setBlock)
section
variable {B:Nat}{w0 w:World}{l:List aN}{t f b:Nat}{x:TX}{d:Dk}
theorem MU (T:cd B w0)(h:Sep B w0 w (Tx t f x::File f b d::l)){id:Int}(hk:Wf id)(kind:UInt8)(h2:2<=x.pages)(hl:x.free.length<=20000):
  Calls Tryz.prog 149 #[ptr t,.int .i64 id,.int .u8 (kind.toNat:Int)] w fun e w'=>e=.returned (.tuple #[.string (x.get d id kind).1.1,.int .i64 (x.get d id kind).1.2])∧Sep B w0 w' (Tx t f x::File f b (x.get d id kind).2::l):=by
 have C:Hid _:=qG (t:=t) w;obtain⟨v,m,ho⟩:=h.iD;obtain⟨ht,q0,q1,q2,q3,qf⟩:=ho.fT;have iY:=ho.OE.GW hk;have HS:Hid (Sep B w0 w (Tx t f x::File f b d::l)):=h;unfold TX.get;cases hx:x.fresh id with
 |some c=>
  rw[hx]at iY;simp only[Option.getD_some,Option.isSome_some]at iY;obtain⟨ct,ck,cs⟩:=c;unfold cV at iY;simp only at iY⊢;have S1:Hid (Sep B w0 (w.alloc (.cells #[.bool ct,.int .u8 (ck.toNat:Int),.string cs] 226)) (Tx t f x::File f b d::l)):=h.alloc _;clear h ho hx HS hk;cases ct with
  |false=>
   simp only[Bool.false_eq_true,false_and,if_false];go_enter Tryz.func149,Tryz.ntmps149
   go_wp2_with fail
   refine Calls.mono C.out ?_;rintro e w1 ⟨rfl,rfl⟩;clear C;go_wp2;go_ret2;exact⟨rfl,S1.out⟩
  |true=>
   by_cases hkk:ck=kind
   ·subst hkk;simp only[and_self,if_true];go_enter Tryz.func149,Tryz.ntmps149
    go_wp2_with fail
    refine Calls.mono C.out ?_;rintro e w1 ⟨rfl,rfl⟩;clear C;go_wp2;go_ret2;exact⟨rfl,S1.out⟩
   ·simp only[hkk,and_false,if_false];have hne:((ck.toNat:Int)==(kind.toNat:Int))=false:=beq_eq_false_iff_ne.2 (fun e=>hkk (UInt8.toNat_inj.1 (by omega)));generalize(ck.toNat:Int)=ckz at*;generalize(kind.toNat:Int)=kz at*;go_enter Tryz.func149,Tryz.ntmps149
    go_wp2_with fail
    refine Calls.mono C.out ?_;rintro e w1 ⟨rfl,rfl⟩;clear C;go_wp2;go_ret2;exact⟨rfl,S1.out⟩
 |none=>
  rw[hx]at iY;simp only[Option.getD_none,Option.isSome_none]at iY;unfold cV c0 at iY;simp only[show((0:UInt8).toNat:Int)=0 from rfl]at iY⊢;have Yi:(Instr.lookup 124 (.map (some m)) (.int .i64 id) true).run Tryz.prog w=.ok (.tuple #[.agg #[.bool false,.int .u8 0,.string ⟨#[]⟩],.bool false]) w:=iY;have S1:Hid (Sep B w0 (w.alloc (.cells #[.bool false,.int .u8 0,.string ⟨#[]⟩] 226)) (Tx t f x::File f b d::l)):=h.alloc _;have CP:Hid _:=IM S1.out h2;clear h ho hx HS hk iY;by_cases hp:(x.pages:Int)<=id
  ·simp only[hp,true_or,if_true];generalize(x.pages:Int)=pz at*;go_enter Tryz.func149,Tryz.ntmps149
   go_wp2_with fail
   refine Calls.mono C.out ?_;rintro e w1 ⟨rfl,rfl⟩;clear C
   go_wp2_with fail
   refine Calls.mono CP.out ?_;rintro e w2 ⟨rfl,rfl⟩;clear CP;go_wp2;go_ret2;exact⟨rfl,S1.out⟩
  ·obtain⟨v2,m2,ho2⟩:=S1.out.iD;obtain⟨ht2,p0,p1,p2,p3,pf⟩:=ho2.fT;have CH:Hid _:=LU v2 x.free id _ ho2.rO.free.row (by omega);obtain⟨av2,cv2,rfl,_⟩:=ho2.rO.free;clear ho2;by_cases hh:hasB x.free id=true
   ·rw[hh]at CH;simp only[hp,hh,or_true,if_true];generalize(x.pages:Int)=pz at*;go_enter Tryz.func149,Tryz.ntmps149
    go_wp2_with fail
    refine Calls.mono C.out ?_;rintro e w1 ⟨rfl,rfl⟩;clear C
    go_wp2_with fail
    refine Calls.mono CP.out ?_;rintro e w2 ⟨rfl,rfl⟩;clear CP
    go_wp2_with fail
    refine Calls.mono CH.out ?_;rintro e w3 ⟨rfl,b3⟩;have S3:Hid _:=Sep.below S1.out b3;clear CH b3 S1;go_wp2;go_ret2;exact⟨rfl,S3.out⟩
   ·have hf:hasB x.free id=false:=by simpa using hh
    rw[hf]at CH;simp only[hp,hf,Bool.false_eq_true,or_self,if_false,Qx];have CR:Hid (∀u,Sep B w0 u (Tx t f x::File f b d::l)->Calls Tryz.prog 182 #[ptr f,.int .i64 id,.int .u8 (kind.toNat:Int)] u fun e w'=>e=.returned (.tuple #[.string (d.rd id kind).1.1,.int .i64 (d.rd id kind).1.2])∧Sep B w0 w' (File f b (d.rd id kind).2::Tx t f x::l)):=fun u hu=>Qi T hu.rO id kind;generalize(d.rd id kind).1.1=rs at*;generalize(d.rd id kind).1.2=re at*;generalize(d.rd id kind).2=d2 at*;generalize(x.pages:Int)=pz at*;go_enter Tryz.func149,Tryz.ntmps149
    go_wp2_with fail
    refine Calls.mono C.out ?_;rintro e w1 ⟨rfl,rfl⟩;clear C
    go_wp2_with fail
    refine Calls.mono CP.out ?_;rintro e w2 ⟨rfl,rfl⟩;clear CP
    go_wp2_with fail
    refine Calls.mono CH.out ?_;rintro e w3 ⟨rfl,b3⟩;have s3:Sep B w0 w3 (Tx t f x::File f b d::l):=Sep.below S1.out b3;have C4:Hid _:=CR.out w3 s3;obtain⟨v4,m4,h4⟩:=s3.iD;obtain⟨u0,u1,u2,u3,u4,u5⟩:=h4.fT;clear CH b3 S1 CR s3 h4;by_cases ZU:re=40
    ·subst ZU
     go_wp2_with fail
     refine Calls.mono C4.out ?_;rintro e w5 ⟨rfl,s5⟩;have S5:Hid (Sep B w0 w5 (Tx t f x::File f b d2::l)):=s5.rO;clear C4 s5;go_wp2;go_ret2;exact⟨rfl,S5.out⟩
    ·have h4b:(re==40)=false:=beq_eq_false_iff_ne.2 ZU
     go_wp2_with fail
     refine Calls.mono C4.out ?_;rintro e w5 ⟨rfl,s5⟩;have S5:Hid (Sep B w0 w5 (Tx t f x::File f b d2::l)):=s5.rO;clear C4 s5;go_wp2;go_ret2;exact⟨rfl,S5.out⟩
end
end
end Go.Proofs.YtdcpfbidcpfboaaGreatDoor
namespace Go.Proofs.YtdcpfbidcpfboaaGreatDoor
section
open Go.RowKit N
structure NV where
 ae:Option Addr
 ce:Nat
 ak:Option Addr
 ck:Nat
 az:Option Addr
 cz:Nat
 n:Nd
def NV.v (p:NV):Value:=.agg #[.bool p.n.leaf,.slice p.ae p.n.es.length p.ce,.slice p.ak p.n.ks.length p.ck,.slice p.az p.n.ss.length p.cz]
def NV.R (p:NV)(w:World):Prop:=im w (.slice p.ae p.n.es.length p.ce) (.slice p.ak p.n.ks.length p.ck) (.slice p.az p.n.ss.length p.cz) p.n
def Pl (P:List NV):aN:=fun w X=>(∀k,X k->k<w.heap.size)∧∀w',(∀k,X k->w'.heap[k]? =w.heap[k]?)->w.heap.size<=w'.heap.size->∀p∈P,p.R w'
theorem wP (P:List NV):Good (Pl P):=
 ⟨fun w w' X h hk hs=>⟨fun k hx=>Nat.lt_of_lt_of_le (h.1 k hx) hs,fun w2 h2 hs2=>h.2 w2 (fun k hx=>(h2 k hx).trans (hk k hx)) (Nat.le_trans hs hs2)⟩,fun w X h=>h.1⟩
def NV.W (p:NV)(b:Nat)(w:World):Prop:=mh b w (.slice p.ae p.n.es.length p.ce) (.slice p.ak p.n.ks.length p.ck) (.slice p.az p.n.ss.length p.cz) p.n
theorem NV.of {b:Nat}{w:World}{ve vk vs:Value}{n:Nd}(h:mh b w ve vk vs n):∃p:NV,p.n=n∧Value.agg #[.bool n.leaf,ve,vk,vs]=p.v∧p.W b w:=by
 obtain⟨he,hk,hs⟩:=h;have he':=he;have hk':=hk;have hs':=hs;obtain⟨ae,ce,rfl,_⟩:=he';obtain⟨ak,ck,rfl,_⟩:=hk';obtain⟨az,cz,rfl,_⟩:=hs';exact⟨⟨ae,ce,ak,ck,az,cz,n⟩,rfl,rfl,⟨he,hk,hs⟩⟩
theorem sQ {α:Type}[Inhabited α]{enc:α->List Value}{k base:Nat}{w w':World}{v:Value}{l:List α}(h:N.Own enc k base w v l)(hk:∀q,base<=q->q<w.heap.size->w'.heap[q]? =w.heap[q]?)(hs:w.heap.size<=w'.heap.size):N.Row enc k w' v l:=by
 obtain⟨ao,cap,e,h1,h2,h3⟩:=h;refine⟨ao,cap,e,h1,h2,fun hne=>?_⟩;obtain⟨b,off,e2,hb,hlt,hH⟩:=h3 hne;exact⟨b,off,e2,Nat.lt_of_lt_of_le hlt hs,fun t ht=>(World.cell?_of_block (w:=w) (w':=w') (a:=⟨b,off+t,none⟩) (hk b hb hlt)).trans (hH t (by simpa using ht)).1⟩
theorem NV.W.kept {p:NV}{b:Nat}{w w':World}(h:p.W b w)(hk:∀q,b<=q->q<w.heap.size->w'.heap[q]? =w.heap[q]?)(hs:w.heap.size<=w'.heap.size):p.R w':=⟨sQ h.e hk hs,sQ h.k hk hs,sQ h.s hk hs⟩
section
variable {B:Nat}{w0 w w':World}{l:List aN}{P:List NV}{p:NV}
theorem Sep.pool (h:Sep B w0 w (Pl P::l)):∀p∈P,p.R w:=by
 obtain⟨_,_,Y,⟨_,X,_,ha,_⟩,_⟩:=h;exact ha.2 w (fun _ _=>rfl) (Nat.le_refl _)
theorem Sep.Va (h:Sep B w0 w l):Sep B w0 w (Pl []::l):=
 h.add (Below.refl _ _) (wP _) (X:=fun _=>False) ⟨fun _ h=>h.elim,fun _ _ _ p hp=>absurd hp List.not_mem_nil⟩ (fun _ h=>h.elim)
theorem Sep.Vb (h:Sep B w0 w (Pl P::l))(hb:Below w.heap.size w w')(hn:p.W w.heap.size w'):Sep B w0 w' (Pl (p::P)::l):=by
 obtain⟨hB,hbe,Y,⟨g,X,Z,hr,hl,hd,hy⟩,hY⟩:=h;have hl':=hl.kept hb.size (fun k hk=>hb.block k (hl.lt k hk));refine⟨Nat.le_trans hB hb.size,hbe.trans (hb.mono hB),fun k=>(X k∨(w.heap.size<=k∧k<w'.heap.size))∨Z k,⟨wP _,fun k=>X k∨(w.heap.size<=k∧k<w'.heap.size),Z,⟨fun k hk=>?_,fun w2 h2 hs2 q hq=>?_⟩,hl',fun k hk hz=>?_,fun _=>Iff.rfl⟩,fun k hk=>?_⟩
 ·rcases hk with hk|hk
  ·exact Nat.lt_of_lt_of_le (hr.1 k hk) hb.size
  ·exact hk.2
 ·rcases List.mem_cons.1 hq with rfl|hq
  ·exact hn.kept (fun k h1 h3=>h2 k (.inr ⟨h1,h3⟩)) hs2
  ·exact hr.2 w2 (fun k hk=>(h2 k (.inl hk)).trans (hb.block k (hr.1 k hk))) (Nat.le_trans hb.size hs2) q hq
 ·rcases hk with hk|hk
  ·exact hd k hk hz
  ·have:=hl.lt k hz;omega
 ·rcases hk with(hk|hk)|hk
  ·exact hY k ((hy k).2 (.inl hk))
  ·exact Nat.le_trans hB hk.1
  ·exact hY k ((hy k).2 (.inr hk))
end
structure Cx where
 q:Nat
 tq:Nat
 t:Nat
 f:Nat
 b:Nat
 root:Int
 err:Int
def ZV (t:Nat)(root err:Int):Obj:=.cells #[ptr t,.int .i64 root,.int .i64 err] 106 (0,0)
def nc (C:Cx):aN:=ax C.tq (ZV C.t C.root C.err)
abbrev TL (C:Cx)(x:TX)(d:Dk)(P:List NV)(l:List aN):List aN:=Tx C.t C.f x::File C.f C.b d::nc C::Pl P::l
def mi (tq m:Nat)(va vb:Value)(bot:Int):Obj:=.cells #[ptr tq,.map (some m),va,vb,.int .i64 bot] 153 (0,0)
def EU (P:List NV)(nodes:Int->Option Nd)(g:Gv):Prop:=∀k,(nodes k=none∧g k=none)∨∃p∈P,nodes k=some p.n∧g k=some p.v
def Q2 (C:Cx)(S:Dr)(P:List NV):aN:=fun w X=>∃g m va vb,EU P S.nodes g∧Both (ax C.q (mi C.tq m va vb S.bot)) (Both (cT m g S.cnt) (Both (aR 3 va (S.taken.map (Value.int .i64))) (aR 3 vb (S.spare.map (Value.int .i64))))) w X
theorem De (C:Cx)(S:Dr)(P:List NV):Good (Q2 C S P):=
 ⟨fun w w' X ⟨g,m,va,vb,hl,h⟩ hk hs=>⟨g,m,va,vb,hl,(aO (aT _ _) (aO (dz _ _ _) (aO (good_row _ _ _) (good_row _ _ _)))).kept w w' X h hk hs⟩,
  fun w X ⟨g,m,va,vb,hl,h⟩=>(aO (aT _ _) (aO (dz _ _ _) (aO (good_row _ _ _) (good_row _ _ _)))).lt w X h⟩
abbrev DL (C:Cx)(S:Dr)(d:Dk)(P:List NV)(l:List aN):List aN:=TL C S.x d P (Q2 C S P::l)
section
variable {B:Nat}{w0 w w':World}{l:List aN}{P Q:List NV}{p:NV}{C:Cx}{S:Dr}{x:TX}{d:Dk}
theorem EU.mono {g:Gv}{nodes:Int->Option Nd}(h:EU P nodes g)(hq:∀p∈P,p∈Q):EU Q nodes g:=fun k=>(h k).imp id fun⟨p,hp,r⟩=>⟨p,hq p hp,r⟩
theorem Sep.wQ (h:Sep B w0 w (Q2 C S P::l))(hq:∀p∈P,p∈Q):Sep B w0 w (Q2 C S Q::l):=
 h.step (De _ _ _) fun X ⟨g,m,va,vb,hl,hX⟩=>⟨X,⟨g,m,va,vb,hl.mono hq,hX⟩,df.refl _ _,fun k hk=>.inl hk⟩
theorem Sep.iE (h:Sep B w0 w (Q2 C S P::l)):∃g m va vb,EU P S.nodes g∧Sep B w0 w (ax C.q (mi C.tq m va vb S.bot)::cT m g S.cnt::aR 3 va (S.taken.map (Value.int .i64))::aR 3 vb (S.spare.map (Value.int .i64))::l):=by
 obtain⟨hB,hb,Y,⟨gg,X,Z,⟨g,m,va,vb,hl,hX⟩,hz,hd,hy⟩,hY⟩:=h;refine⟨g,m,va,vb,hl,hB,hb,Y,?_,hY⟩;have h0:Hp w (Both (ax C.q (mi C.tq m va vb S.bot)) (Both (cT m g S.cnt) (Both (aR 3 va (S.taken.map (Value.int .i64))) (aR 3 vb (S.spare.map (Value.int .i64)))))::l) Y:=⟨aO (aT _ _) (aO (dz _ _ _) (aO (good_row _ _ _) (good_row _ _ _))),X,Z,hX,hz,hd,hy⟩;refine Hp.under (Hp.part (aT _ _) (aO (dz _ _ _) (aO (good_row _ _ _) (good_row _ _ _))) h0) fun _ h1=>Hp.under (Hp.part (dz _ _ _) (aO (good_row _ _ _) (good_row _ _ _)) h1) fun _ h2=>Hp.part (good_row _ _ _) (good_row _ _ _) h2
theorem Sep.oz {g:Gv}{m:Nat}{va vb:Value}(hl:EU P S.nodes g)(h:Sep B w0 w (ax C.q (mi C.tq m va vb S.bot)::cT m g S.cnt::aR 3 va (S.taken.map (Value.int .i64))::aR 3 vb (S.spare.map (Value.int .i64))::l)):Sep B w0 w (Q2 C S P::l):=by
 have h2:=(((h.map fun _ h=>Hp.under h fun _ h=>Hp.under h fun _=>Hp.join).map fun _ h=>Hp.under h fun _=>Hp.join)).join;obtain⟨hB,hb,Y,⟨gg,X,Z,hX,hz,hd,hy⟩,hY⟩:=h2;exact⟨hB,hb,Y,⟨De _ _ _,X,Z,⟨g,m,va,vb,hl,hX⟩,hz,hd,hy⟩,hY⟩
end
theorem Hp.pk {w:World}{a:aN}:∀(l1:List aN) {l2:List aN} {Y:Nat->Prop},Hp w (l1++a::l2) Y->Hp w (a::(l1++l2)) Y
 |[],_,_,h=>h
 |b::l1,_,_,h=>Hp.swap (Hp.under h fun _ h'=>Hp.pk l1 h')
theorem Hp.pb {w:World}{a:aN}:∀(l1:List aN) {l2:List aN} {Y:Nat->Prop},Hp w (a::(l1++l2)) Y->Hp w (l1++a::l2) Y
 |[],_,_,h=>h
 |b::l1,_,_,h=>Hp.under (Hp.swap h) fun _ h'=>Hp.pb l1 h'
theorem Sep.pk {B:Nat}{w0 w:World}{a:aN}(l1:List aN){l2:List aN}(h:Sep B w0 w (l1++a::l2)):Sep B w0 w (a::(l1++l2)):=h.map fun _=>Hp.pk l1
theorem Sep.pb {B:Nat}{w0 w:World}{a:aN}(l1:List aN){l2:List aN}(h:Sep B w0 w (a::(l1++l2))):Sep B w0 w (l1++a::l2):=h.map fun _=>Hp.pb l1
structure gH (d d':Dk)(n:Nat):Prop where
 eq:d'={d with reads:=d'.reads}
 cnt:0<=d.reads->d.reads+n<=1000000000000->d.reads<=d'.reads∧d'.reads<=d.reads+n
theorem gH.refl (d:Dk):gH d d 0:=⟨rfl,fun _ _=>⟨Int.le_refl _,by omega⟩⟩
theorem gH.trans {a b c:Dk}{n m:Nat}(h:gH a b n)(k:gH b c m):gH a c (n+m):=⟨by rw[k.eq,h.eq],fun h0 h1=>by
 have h2:=h.cnt h0 (by omega)
 have h3:=k.cnt (by omega) (by omega)
 omega⟩
theorem gH.mono {a b:Dk}{n m:Nat}(h:gH a b n)(k:n<=m):gH a b m:=⟨h.eq,fun h0 h1=>by have:=h.cnt h0 (by omega);omega⟩
theorem gH.room {a b:Dk}{n:Nat}(h:gH a b n):b.room=a.room:=by rw[h.eq];rfl
theorem wrap_small {n:Int}(h0:0<=n)(h1:n<=1000000000001):wrap64 n=n:=by
 unfold wrap64;omega
theorem Dk.kN (d:Dk)(i:Int):gH d (d.get i).2 1:=by
 unfold Dk.get;split
 ·exact(gH.refl d).mono (by omega)
 ·split
  ·refine⟨rfl,fun h0 h1=>?_⟩;simp only;rw[wrap_small (by omega) (by omega)];omega
  ·exact(gH.refl d).mono (by omega)
theorem gH.get {a b:Dk}{n:Nat}(h:gH a b n)(i:Int):(b.get i).1=(a.get i).1:=by
 rw[h.eq];unfold Dk.get Dk.has Dk.now;simp only;split
 ·rfl
 ·split<;>rfl
theorem Dk.Q3 (d:Dk)(i:Int)(k:UInt8):gH d (d.rd i k).2 1:=by
 unfold Dk.rd;split
 ·exact d.kN i
 ·exact(gH.refl d).mono (by omega)
theorem gH.rd {a b:Dk}{n:Nat}(h:gH a b n)(i:Int)(k:UInt8):(b.rd i k).1=(a.rd i k).1:=by
 have hp:tP b i=tP a i:=by rw[h.eq];rfl
 unfold Dk.rd;rw[hp,h.get i];split<;>rfl
theorem TX.kN (x:TX)(d:Dk)(id:Int)(k:UInt8):gH d (x.get d id k).2 1:=by
 unfold TX.get;split
 ·split<;>exact(gH.refl d).mono (by omega)
 ·split
  ·exact(gH.refl d).mono (by omega)
  ·exact d.Q3 id k
theorem gH.bY {a b:Dk}{n:Nat}(h:gH a b n)(x:TX)(id:Int)(k:UInt8):bY x b id k=bY x a id k:=by
 unfold Go.Proofs.YtdcpfbidcpfboaaGreatDoor.bY TX.get;split
 ·split<;>rfl
 ·split
  ·rfl
  ·unfold Qx;simp only;rw[h.rd id k]
theorem gH.dL {a b:Dk}{n:Nat}(h:gH a b n)(x:TX)(id depth:Int):dL x b id depth=dL x a id depth:=by
 unfold Go.Proofs.YtdcpfbidcpfboaaGreatDoor.dL;simp only[h.bY]
section
variable {B:Nat}{w0 w w':World}{l:List aN}{q:Nat}{a0 a1 a2 a3:Value}{ty:TypeId}
theorem Sep.c4 (h:Sep B w0 w (ax q (.cells #[a0,a1,a2,a3] ty)::l)):q<w.heap.size∧(w.cell? ⟨q,0,none⟩=some a0∧w.cell? ⟨q,1,none⟩=some a1∧w.cell? ⟨q,2,none⟩=some a2∧w.cell? ⟨q,3,none⟩=some a3)∧w.frozen? ⟨q,0,none⟩=false∧w.frozen? ⟨q,1,none⟩=false∧w.frozen? ⟨q,2,none⟩=false∧w.frozen? ⟨q,3,none⟩=false:=by
 have hb:=h.blk;refine⟨(Array.getElem?_eq_some_iff.1 hb).1,⟨?_,?_,?_,?_⟩,?_,?_,?_,?_⟩<;>simp[World.cell?,World.frozen?,hb]
theorem Sep.dw {cs:Array Value}(h:Sep B w0 w (ax q (.cells cs ty)::l))(i:Nat)(v:Value):Sep B w0 (w.setCell ⟨q,i,none⟩ v) (ax q (.cells (cs.setIfInBounds i v) ty)::l):=h.sP v
theorem Sep.s4 (h:Sep B w0 w (ax q (.cells #[a0,a1,a2,a3] ty)::l))(b0 b1 b2 b3:Value):Sep B w0 ((((w.setCell ⟨q,0,none⟩ b0).setCell ⟨q,1,none⟩ b1).setCell ⟨q,2,none⟩ b2).setCell ⟨q,3,none⟩ b3) (ax q (.cells #[b0,b1,b2,b3] ty)::l):=
 (((h.dw 0 b0).dw 1 b1).dw 2 b2).dw 3 b3
theorem Sep.c3 (h:Sep B w0 w (ax q (.cells #[a0,a1,a2] ty)::l)):q<w.heap.size∧(w.cell? ⟨q,0,none⟩=some a0∧w.cell? ⟨q,1,none⟩=some a1∧w.cell? ⟨q,2,none⟩=some a2)∧w.frozen? ⟨q,0,none⟩=false∧w.frozen? ⟨q,1,none⟩=false∧w.frozen? ⟨q,2,none⟩=false:=by
 have hb:=h.blk;refine⟨(Array.getElem?_eq_some_iff.1 hb).1,⟨?_,?_,?_⟩,?_,?_,?_⟩<;>simp[World.cell?,World.frozen?,hb]
end
end
section
open N
section
variable {B:Nat}{w0 w:World}{x a b c d e f g h i j k m n:aN}{l:List aN}
theorem Sep.kh (z:Sep B w0 w (a::x::l)):Sep B w0 w (x::a::l):=Sep.pk [_] z
theorem Sep.Ww (z:Sep B w0 w (x::a::l)):Sep B w0 w (a::x::l):=Sep.pb [_] z
theorem Sep.Df (z:Sep B w0 w (a::b::x::l)):Sep B w0 w (x::a::b::l):=Sep.pk [_,_] z
theorem Sep.pb2 (z:Sep B w0 w (x::a::b::l)):Sep B w0 w (a::b::x::l):=Sep.pb [_,_] z
theorem Sep.A7 (z:Sep B w0 w (a::b::c::x::l)):Sep B w0 w (x::a::b::c::l):=Sep.pk [_,_,_] z
theorem Sep.pb3 (z:Sep B w0 w (x::a::b::c::l)):Sep B w0 w (a::b::c::x::l):=Sep.pb [_,_,_] z
theorem Sep.pP (z:Sep B w0 w (a::b::c::d::x::l)):Sep B w0 w (x::a::b::c::d::l):=Sep.pk [_,_,_,_] z
theorem Sep.Vc (z:Sep B w0 w (x::a::b::c::d::l)):Sep B w0 w (a::b::c::d::x::l):=Sep.pb [_,_,_,_] z
theorem Sep.dS (z:Sep B w0 w (a::b::c::d::e::x::l)):Sep B w0 w (x::a::b::c::d::e::l):=Sep.pk [_,_,_,_,_] z
theorem Sep.tH (z:Sep B w0 w (x::a::b::c::d::e::l)):Sep B w0 w (a::b::c::d::e::x::l):=Sep.pb [_,_,_,_,_] z
theorem Sep.cR (z:Sep B w0 w (a::b::c::d::e::f::x::l)):Sep B w0 w (x::a::b::c::d::e::f::l):=Sep.pk [_,_,_,_,_,_] z
theorem Sep.oC (z:Sep B w0 w (x::a::b::c::d::e::f::l)):Sep B w0 w (a::b::c::d::e::f::x::l):=Sep.pb [_,_,_,_,_,_] z
theorem Sep.eN (z:Sep B w0 w (a::b::c::d::e::f::g::x::l)):Sep B w0 w (x::a::b::c::d::e::f::g::l):=Sep.pk [_,_,_,_,_,_,_] z
theorem Sep.xH (z:Sep B w0 w (x::a::b::c::d::e::f::g::l)):Sep B w0 w (a::b::c::d::e::f::g::x::l):=Sep.pb [_,_,_,_,_,_,_] z
theorem Sep.iZ (z:Sep B w0 w (a::b::c::d::e::f::g::h::x::l)):Sep B w0 w (x::a::b::c::d::e::f::g::h::l):=Sep.pk [_,_,_,_,_,_,_,_] z
theorem Sep.Kr (z:Sep B w0 w (x::a::b::c::d::e::f::g::h::l)):Sep B w0 w (a::b::c::d::e::f::g::h::x::l):=Sep.pb [_,_,_,_,_,_,_,_] z
theorem Sep.pQ (z:Sep B w0 w (a::b::c::d::e::f::g::h::i::x::l)):Sep B w0 w (x::a::b::c::d::e::f::g::h::i::l):=Sep.pk [_,_,_,_,_,_,_,_,_] z
theorem Sep.Wx (z:Sep B w0 w (x::a::b::c::d::e::f::g::h::i::l)):Sep B w0 w (a::b::c::d::e::f::g::h::i::x::l):=Sep.pb [_,_,_,_,_,_,_,_,_] z
theorem Sep.eZ (z:Sep B w0 w (a::b::c::d::e::f::g::h::i::j::x::l)):Sep B w0 w (x::a::b::c::d::e::f::g::h::i::j::l):=Sep.pk [_,_,_,_,_,_,_,_,_,_] z
theorem Sep.A8 (z:Sep B w0 w (x::a::b::c::d::e::f::g::h::i::j::l)):Sep B w0 w (a::b::c::d::e::f::g::h::i::j::x::l):=Sep.pb [_,_,_,_,_,_,_,_,_,_] z
theorem Sep.jJ (z:Sep B w0 w (a::b::c::d::e::f::g::h::i::j::k::x::l)):Sep B w0 w (x::a::b::c::d::e::f::g::h::i::j::k::l):=Sep.pk [_,_,_,_,_,_,_,_,_,_,_] z
theorem Sep.EW (z:Sep B w0 w (x::a::b::c::d::e::f::g::h::i::j::k::l)):Sep B w0 w (a::b::c::d::e::f::g::h::i::j::k::x::l):=Sep.pb [_,_,_,_,_,_,_,_,_,_,_] z
theorem Sep.MV (z:Sep B w0 w (a::b::c::d::e::f::g::h::i::j::k::m::x::l)):Sep B w0 w (x::a::b::c::d::e::f::g::h::i::j::k::m::l):=Sep.pk [_,_,_,_,_,_,_,_,_,_,_,_] z
theorem Sep.aai (z:Sep B w0 w (x::a::b::c::d::e::f::g::h::i::j::k::m::l)):Sep B w0 w (a::b::c::d::e::f::g::h::i::j::k::m::x::l):=Sep.pb [_,_,_,_,_,_,_,_,_,_,_,_] z
theorem Sep.Vd (z:Sep B w0 w (a::b::c::d::e::f::g::h::i::j::k::m::n::x::l)):Sep B w0 w (x::a::b::c::d::e::f::g::h::i::j::k::m::n::l):=Sep.pk [_,_,_,_,_,_,_,_,_,_,_,_,_] z
theorem Sep.Yj (z:Sep B w0 w (x::a::b::c::d::e::f::g::h::i::j::k::m::n::l)):Sep B w0 w (a::b::c::d::e::f::g::h::i::j::k::m::n::x::l):=Sep.pb [_,_,_,_,_,_,_,_,_,_,_,_,_] z
end
end
section
open N
abbrev cN (p:NV):Array Value:=#[.bool p.n.leaf,.slice p.ae p.n.es.length p.ce,.slice p.ak p.n.ks.length p.ck,.slice p.az p.n.ss.length p.cz]
abbrev cZ:Array Value:=#[.bool false,.slice none 0 0,.slice none 0 0,.slice none 0 0]
end
end Go.Proofs.YtdcpfbidcpfboaaGreatDoor
namespace Go.Proofs.YtdcpfbidcpfboaaGreatDoor
open Go.Shelf Go.RowKit Go.Lib Go.Sort
section
open N (Nd nd0 mh im kg OS aL tS kV uM)
def ZW:NV:=⟨none,0,none,0,none,0,lf0⟩
def pZ:NV:=⟨none,0,none,0,none,0,nd0⟩
theorem Ve (b:Nat)(w:World):ZW.W b w:=⟨N.Own.nil,N.Own.nil,N.Own.nil⟩
theorem MW (b:Nat)(w:World):pZ.W b w:=mh.zero b w
def TX.Sz (x:TX):Prop:=∀k c,x.fresh k=some c->c.body.size<=240
def GN (B:Nat)(w0:World)(C:Cx)(x:TX)(d:Dk)(P:List NV)(l:List aN)(k:Nat)(n:Nd)(er:Int)(e:Ending)(w':World):Prop:=
 ∃p d',p.n=n∧e=.returned (.tuple #[p.v,.int .i64 er])∧gH d d' k∧Sep B w0 w' (TL C x d' (p::P) l)
section
variable {B:Nat}{w0 w:World}{l:List aN}{P:List NV}{C:Cx}{x:TX}{d:Dk}{id depth:Int}
theorem Sep.po {p:NV}(h:Sep B w0 w (Tx C.t C.f x::File C.f C.b d::nc C::Pl P::l)){w':World}(hb:Below w.heap.size w w')(hp:p.W w.heap.size w'):Sep B w0 w' (TL C x d (p::P) l):=
 (Sep.Vb h.up3 hb hp).Zn
theorem Dk.MZ (d:Dk)(id:Int)(k:UInt8):(d.rd id k).1.1.size<=maxLen:=by
 unfold Dk.rd;split
 ·split
  ·unfold rQ;split
   ·have hz:(opn id (d.get id).1.1.data.toList).2.1.length<=240:=by
     rcases nQ id (d.get id).1.1.data.toList with⟨k,b,h1,h2,h3⟩| ⟨_,h3⟩
     ·rw[h3];exact(jr.1 h1).1
     ·rw[h3];exact Nat.zero_le _
    show(⟨(opn id (d.get id).1.1.data.toList).2.1.toArray⟩:ByteArray).size<=maxLen;rw[dT];unfold maxLen;omega
   ·exact Nat.zero_le _
  ·exact Nat.zero_le _
 ·exact Nat.zero_le _
theorem uW (x:TX)(d:Dk)(hz:x.Sz)(id:Int)(k:UInt8):(bY x d id k).1.size<=maxLen:=by
 unfold bY TX.get;split
 ·rename_i c hc
  split
  ·have:=hz id c hc;show c.body.size<=maxLen;unfold maxLen;omega
  ·exact Nat.zero_le _
 ·split
  ·exact Nat.zero_le _
  ·exact d.MZ id k
theorem EX (h:Sep B w0 w (TL C x d P l)):Calls Tryz.prog 123 #[ptr C.tq,.int .i64 0,.int .i64 depth] w (GN B w0 C x d P l 2 (lf0) (0)):=by
 have SF:Hid (Sep B w0 (w.alloc (.cells #[.bool true,.slice none 0 0,.slice none 0 0,.slice none 0 0] 184)) _):=h.aQ _;clear h;go_enter Tryz.func123,Tryz.ntmps123;go_wp2
 (try simp only[Exit.inBlock,Exit.then])
 generalize World.alloc _ _=vf at*;generalize w.heap.size=q at*;obtain⟨qs,⟨c0,c1,c2,c3⟩,g0,g1,g2,g3⟩:=Sep.c4 SF.out;refine bodyPost_ret (v:=.tuple #[.agg #[.bool true,.slice none 0 0,.slice none 0 0,.slice none 0 0],.int .i64 0]) ?_ rfl ⟨ZW,d,rfl,rfl,(gH.refl d).mono (by omega),Sep.po SF.out.drop (Below.refl _ _) (Ve _ _)⟩;rw[aL rfl];go_simp
theorem E0 (h:Sep B w0 w (TL C x d P l))(h0:id≠0)(h1:24<=depth):Calls Tryz.prog 123 #[ptr C.tq,.int .i64 id,.int .i64 depth] w (GN B w0 C x d P l 2 (nd0) (3)):=by
 have SF:Hid (Sep B w0 (w.alloc (.cells cZ 184)) _):=h.aQ _;have e0:(id==0)=false:=beq_eq_false_iff_ne.2 h0;clear h h0;go_enter Tryz.func123,Tryz.ntmps123;go_wp2
 (try simp only[Exit.inBlock,Exit.then])
 generalize World.alloc _ _=vf at*;generalize w.heap.size=q at*;obtain⟨qs,⟨c0,c1,c2,c3⟩,g0,g1,g2,g3⟩:=Sep.c4 SF.out;refine bodyPost_ret (v:=.tuple #[.agg cZ,.int .i64 3]) ?_ rfl ⟨pZ,d,rfl,rfl,(gH.refl d).mono (by omega),Sep.po SF.out.drop (Below.refl _ _) (MW _ _)⟩;rw[aL rfl];go_simp
theorem M7 (h:Sep B w0 w (TL C x d P l))(T:cd B w0)(hk:Wf id)(ok:x.Ok d.room)(hr:d.room<=16384)(hz:x.Sz)(h0:id≠0)(h1:depth<24)(h2:(bY x d id 1).2≠0)(Wd:(bY x d id 1).2≠3):Calls Tryz.prog 123 #[ptr C.tq,.int .i64 id,.int .i64 depth] w (GN B w0 C x d P l 2 (nd0) ((bY x d id 1).2)):=by
 have S1:Hid (Sep B w0 (w.alloc (.cells cZ 184)) _):=(h.aQ _).Xw;have K1:Hid (∀u d' L,gH d d' 1->Sep B w0 u (Tx C.t C.f x::File C.f C.b d'::L)->Calls Tryz.prog 149 #[ptr C.t,.int .i64 id,.int .u8 1] u fun e w'=>e=.returned (.tuple #[.string (bY x d id 1).1,.int .i64 (bY x d id 1).2])∧∃d2,gH d' d2 1∧Sep B w0 w' (Tx C.t C.f x::File C.f C.b d2::L)):=fun u d' L hd hu=>by
  have:=MU (t:=C.t) (f:=C.f) (b:=C.b) T hu hk 1 ok.p2 (by have:=ok.len;have:=ok.pr;omega);refine this.mono fun e w' h=>⟨?_,_,TX.kN x d' id 1,h.2⟩;rw[h.1,<-hd.bY x id 1];rfl
 have e0:(id==0)=false:=beq_eq_false_iff_ne.2 h0;have e1:¬24<=depth:=by omega
 generalize(bY x d id 1).2=er at*;have e2:(er==3)=false:=beq_eq_false_iff_ne.2 Wd;have e3:(er != 0)=true:=bne_iff_ne.2 h2;clear h2 Wd;generalize(bY x d id 1).1=s1 at*;clear h h0 h1 ok hr T hk hz;have HC:∃c,c=C.tq:=⟨_,rfl⟩;obtain⟨_,⟨r0,r1,r2⟩,_⟩:=Sep.c3 (Sep.Df S1.out);go_enter Tryz.func123,Tryz.ntmps123
 go_wp2_with fail
 generalize World.alloc _ _=v1 at*;generalize w.heap.size=q at*;refine Calls.mono (K1.out _ _ _ ((gH.refl d).mono (by omega)) S1.out) ?_;rintro e v2 ⟨rfl,d2,hd2,s2'⟩;have S2:Hid _:=s2';have D2:Hid (gH d d2 1):=hd2;clear S1 K1 s2' r0 r1 r2 hd2;have D3:Hid (gH d d2 2):=D2.out.mono (by omega);clear D2;obtain⟨qs,⟨c0,c1,c2,c3⟩,g0,g1,g2,g3⟩:=Sep.c4 (Sep.pP S2.out);have SF:Hid (Sep B w0 ((((v2.setCell ⟨q,0,none⟩ (.bool false)).setCell ⟨q,1,none⟩ (.slice none 0 0)).setCell ⟨q,2,none⟩ (.slice none 0 0)).setCell ⟨q,3,none⟩ (.slice none 0 0)) _):=Sep.s4 (Sep.pP S2.out) _ _ _ _;clear S2;go_wp2
 (try simp only[Exit.inBlock,Exit.then])
 generalize World.setCell _ _ _=vf at*;clear c0 c1 c2 c3 g0 g1 g2 g3 qs;obtain⟨qs,⟨c0,c1,c2,c3⟩,g0,g1,g2,g3⟩:=Sep.c4 SF.out;refine bodyPost_ret (v:=.tuple #[.agg cZ,.int .i64 er]) ?_ rfl ⟨pZ,d2,rfl,rfl,D3.out,Sep.po SF.out.drop (Below.refl _ _) (MW _ _)⟩;rw[aL rfl];go_simp
theorem Q7 (h:Sep B w0 w (TL C x d P l))(T:cd B w0)(hk:Wf id)(ok:x.Ok d.room)(hr:d.room<=16384)(hz:x.Sz)(h0:id≠0)(h1:depth<24)(h2:(bY x d id 1).2=0):Calls Tryz.prog 123 #[ptr C.tq,.int .i64 id,.int .i64 depth] w (GN B w0 C x d P l 2 ((ug 1 (bY x d id 1).1).1) ((ug 1 (bY x d id 1).1).2)):=by
 have S1:Hid (Sep B w0 (w.alloc (.cells cZ 184)) _):=(h.aQ _).Xw;have K1:Hid (∀u d' L,gH d d' 1->Sep B w0 u (Tx C.t C.f x::File C.f C.b d'::L)->Calls Tryz.prog 149 #[ptr C.t,.int .i64 id,.int .u8 1] u fun e w'=>e=.returned (.tuple #[.string (bY x d id 1).1,.int .i64 (bY x d id 1).2])∧∃d2,gH d' d2 1∧Sep B w0 w' (Tx C.t C.f x::File C.f C.b d2::L)):=fun u d' L hd hu=>by
  have:=MU (t:=C.t) (f:=C.f) (b:=C.b) T hu hk 1 ok.p2 (by have:=ok.len;have:=ok.pr;omega);refine this.mono fun e w' h=>⟨?_,_,TX.kN x d' id 1,h.2⟩;rw[h.1,<-hd.bY x id 1];rfl
 have KD:Hid (∀u,Calls Tryz.prog 150 #[.int .u8 1,.string (bY x d id 1).1] u fun e w'=>∃p:NV,p.n=tS 1 (bY x d id 1).1.data.toList∧e=.returned (.tuple #[.agg (cN p),.int .i64 (kV (uM 1 (bY x d id 1).1.data.toList))])∧p.W u.heap.size w'∧Below u.heap.size u w'):=fun u=>(kg 1 _ u (uW x d hz id 1)).mono fun e w' ⟨ve,vk,vs,h1,h2,h3⟩=>by
  obtain⟨p,p1,p2,p3⟩:=NV.of h2;exact⟨p,p1,by rw[h1,p2];rfl,p3,h3⟩
 unfold ug;have e0:(id==0)=false:=beq_eq_false_iff_ne.2 h0;have e1:¬24<=depth:=by omega
 rw[h2]at K1;generalize(bY x d id 1).1=s1 at*;clear h h0 h1 ok hr T hk hz h2;have HC:∃c,c=C.tq:=⟨_,rfl⟩;obtain⟨_,⟨r0,r1,r2⟩,_⟩:=Sep.c3 (Sep.Df S1.out);go_enter Tryz.func123,Tryz.ntmps123
 go_wp2_with fail
 generalize World.alloc _ _=v1 at*;generalize w.heap.size=q at*;refine Calls.mono (K1.out _ _ _ ((gH.refl d).mono (by omega)) S1.out) ?_;rintro e v2 ⟨rfl,d2,hd2,s2'⟩;have S2:Hid _:=s2';have D2:Hid (gH d d2 1):=hd2;clear S1 K1 s2' r0 r1 r2 hd2;have D3:Hid (gH d d2 2):=D2.out.mono (by omega);clear D2
 go_wp2_with fail
 refine Calls.mono (KD.out _) ?_;rintro e v4 ⟨p,hn,rfl,hw,hb⟩;have S4:Hid _:=Sep.po S2.out hb hw;clear S2 KD hw hb;have HN:Hid (p.n=tS 1 s1.data.toList):=hn;clear hn;generalize kV (uM 1 s1.data.toList)=er at*;generalize tS 1 s1.data.toList=nn at*;obtain⟨qs,⟨c0,c1,c2,c3⟩,g0,g1,g2,g3⟩:=Sep.c4 (Sep.pP S4.out);have SF:Hid (Sep B w0 ((((v4.setCell ⟨q,0,none⟩ (.bool p.n.leaf)).setCell ⟨q,1,none⟩ (.slice p.ae p.n.es.length p.ce)).setCell ⟨q,2,none⟩ (.slice p.ak p.n.ks.length p.ck)).setCell ⟨q,3,none⟩ (.slice p.az p.n.ss.length p.cz)) _):=Sep.s4 (Sep.pP S4.out) _ _ _ _;clear S4;go_wp2
 (try simp only[Exit.inBlock,Exit.then])
 generalize World.setCell _ _ _=vf at*;clear c0 c1 c2 c3 g0 g1 g2 g3 qs;obtain⟨qs,⟨c0,c1,c2,c3⟩,g0,g1,g2,g3⟩:=Sep.c4 SF.out;refine bodyPost_ret (v:=.tuple #[.agg (cN p),.int .i64 er]) ?_ rfl ⟨p,d2,HN.out,rfl,D3.out,SF.out.drop⟩;rw[aL rfl];go_simp
theorem OZ:(∀(h:Sep B w0 w (TL C x d P l)) (T:cd B w0) (hk:Wf id) (ok:x.Ok d.room) (hr:d.room<=16384) (hz:x.Sz) (h0:id≠0) (h1:depth<24) (h2:(bY x d id 1).2=3) (h3:(bY x d id 2).2≠0),Calls Tryz.prog 123 #[ptr C.tq,.int .i64 id,.int .i64 depth] w (GN B w0 C x d P l 2 (nd0) ((bY x d id 2).2)))∧
  (∀(h:Sep B w0 w (TL C x d P l)) (T:cd B w0) (hk:Wf id) (ok:x.Ok d.room) (hr:d.room<=16384) (hz:x.Sz) (h0:id≠0) (h1:depth<24) (h2:(bY x d id 1).2=3) (h3:(bY x d id 2).2=0),Calls Tryz.prog 123 #[ptr C.tq,.int .i64 id,.int .i64 depth] w (GN B w0 C x d P l 2 ((ug 2 (bY x d id 2).1).1) ((ug 2 (bY x d id 2).1).2))):=by
 refine⟨have jk:=trivial; ?_,have fu:=trivial; ?_⟩
 all_goals
  intro h T hk ok hr hz h0 h1 h2 h3;have S1:Hid (Sep B w0 (w.alloc (.cells cZ 184)) _):=(h.aQ _).Xw;have K1:Hid (∀u d' L,gH d d' 1->Sep B w0 u (Tx C.t C.f x::File C.f C.b d'::L)->Calls Tryz.prog 149 #[ptr C.t,.int .i64 id,.int .u8 1] u fun e w'=>e=.returned (.tuple #[.string (bY x d id 1).1,.int .i64 (bY x d id 1).2])∧∃d2,gH d' d2 1∧Sep B w0 w' (Tx C.t C.f x::File C.f C.b d2::L)):=fun u d' L hd hu=>by
   have:=MU (t:=C.t) (f:=C.f) (b:=C.b) T hu hk 1 ok.p2 (by have:=ok.len;have:=ok.pr;omega);refine this.mono fun e w' h=>⟨?_,_,TX.kN x d' id 1,h.2⟩;rw[h.1,<-hd.bY x id 1];rfl
  have K2:Hid (∀u d' L,gH d d' 1->Sep B w0 u (Tx C.t C.f x::File C.f C.b d'::L)->Calls Tryz.prog 149 #[ptr C.t,.int .i64 id,.int .u8 2] u fun e w'=>e=.returned (.tuple #[.string (bY x d id 2).1,.int .i64 (bY x d id 2).2])∧∃d2,gH d' d2 1∧Sep B w0 w' (Tx C.t C.f x::File C.f C.b d2::L)):=fun u d' L hd hu=>by
   have:=MU (t:=C.t) (f:=C.f) (b:=C.b) T hu hk 2 ok.p2 (by have:=ok.len;have:=ok.pr;omega);refine this.mono fun e w' h=>⟨?_,_,TX.kN x d' id 2,h.2⟩;rw[h.1,<-hd.bY x id 2];rfl
  first
   |have zz:=fu
    have KD:Hid (∀u,Calls Tryz.prog 150 #[.int .u8 2,.string (bY x d id 2).1] u fun e w'=>∃p:NV,p.n=tS 2 (bY x d id 2).1.data.toList∧e=.returned (.tuple #[.agg (cN p),.int .i64 (kV (uM 2 (bY x d id 2).1.data.toList))])∧p.W u.heap.size w'∧Below u.heap.size u w'):=fun u=>(kg 2 _ u (uW x d hz id 2)).mono fun e w' ⟨ve,vk,vs,h1,h2,h3⟩=>by
     obtain⟨p,p1,p2,p3⟩:=NV.of h2;exact⟨p,p1,by rw[h1,p2];rfl,p3,h3⟩
    unfold ug
   |skip
  have e0:(id==0)=false:=beq_eq_false_iff_ne.2 h0;have e1:¬24<=depth:=by omega
  rw[h2]at K1
  first
   |have zz:=jk
    generalize(bY x d id 2).2=er at*;have e3:(er != 0)=true:=bne_iff_ne.2 h3;clear h3
   |rw[h3]at K2
  generalize(bY x d id 1).1=s1 at*;generalize(bY x d id 2).1=s2 at*
  first
   |have zz:=fu
    clear h h0 h1 ok hr T hk hz h2 h3
   |clear h h0 h1 ok hr T hk hz h2
  have HC:∃c,c=C.tq:=⟨_,rfl⟩;obtain⟨_,⟨r0,r1,r2⟩,_⟩:=Sep.c3 (Sep.Df S1.out);go_enter Tryz.func123,Tryz.ntmps123
  go_wp2_with fail
  generalize World.alloc _ _=v1 at*;generalize w.heap.size=q at*;refine Calls.mono (K1.out _ _ _ ((gH.refl d).mono (by omega)) S1.out) ?_;rintro e v2 ⟨rfl,d2,hd2,s2'⟩;have S2:Hid _:=s2';have D2:Hid (gH d d2 1):=hd2;clear S1 K1 s2' r0 r1 r2 hd2;obtain⟨_,⟨r0,r1,r2⟩,_⟩:=Sep.c3 (Sep.Df S2.out)
  go_wp2_with fail
  refine Calls.mono (K2.out _ _ _ D2.out S2.out) ?_;rintro e v3 ⟨rfl,d3,hd3,s3⟩;have S3:Hid (Sep B w0 v3 (TL C x d3 P (ax q (.cells cZ 184)::l))):=s3;have D3:Hid (gH d d3 2):=D2.out.trans hd3;clear S2 K2 s3 r0 r1 r2 hd3 D2
  first
   |have zz:=fu
    go_wp2_with fail
    refine Calls.mono (KD.out _) ?_;rintro e v4 ⟨p,hn,rfl,hw,hb⟩;have S4:Hid _:=Sep.po S3.out hb hw;clear S3 KD hw hb;have HN:Hid (p.n=tS 2 s2.data.toList):=hn;clear hn;generalize kV (uM 2 s2.data.toList)=er at*;generalize tS 2 s2.data.toList=nn at*;obtain⟨qs,⟨c0,c1,c2,c3⟩,g0,g1,g2,g3⟩:=Sep.c4 (Sep.pP S4.out);have SF:Hid (Sep B w0 ((((v4.setCell ⟨q,0,none⟩ (.bool p.n.leaf)).setCell ⟨q,1,none⟩ (.slice p.ae p.n.es.length p.ce)).setCell ⟨q,2,none⟩ (.slice p.ak p.n.ks.length p.ck)).setCell ⟨q,3,none⟩ (.slice p.az p.n.ss.length p.cz)) _):=Sep.s4 (Sep.pP S4.out) _ _ _ _;clear S4
   |obtain⟨qs,⟨c0,c1,c2,c3⟩,g0,g1,g2,g3⟩:=Sep.c4 (Sep.pP S3.out)
    have SF:Hid (Sep B w0 ((((v3.setCell ⟨q,0,none⟩ (.bool false)).setCell ⟨q,1,none⟩ (.slice none 0 0)).setCell ⟨q,2,none⟩ (.slice none 0 0)).setCell ⟨q,3,none⟩ (.slice none 0 0)) _):=Sep.s4 (Sep.pP S3.out) _ _ _ _;clear S3
  go_wp2
  (try simp only[Exit.inBlock,Exit.then])
  first
   |have zz:=fu
    generalize World.setCell _ _ _=vf at*
   |generalize World.setCell _ _ _=vf at*
  clear c0 c1 c2 c3 g0 g1 g2 g3 qs;obtain⟨qs,⟨c0,c1,c2,c3⟩,g0,g1,g2,g3⟩:=Sep.c4 SF.out
  first
   |have zz:=fu
    refine bodyPost_ret (v:=.tuple #[.agg (cN p),.int .i64 er]) ?_ rfl ⟨p,d3,HN.out,rfl,D3.out,SF.out.drop⟩
   |refine bodyPost_ret (v:=.tuple #[.agg cZ,.int .i64 er]) ?_ rfl ⟨pZ,d3,rfl,rfl,D3.out,Sep.po SF.out.drop (Below.refl _ _) (MW _ _)⟩
  rw[aL rfl];go_simp
theorem wR (T:cd B w0)(h:Sep B w0 w (TL C x d P l))(hk:Wf id)(ok:x.Ok d.room)(hr:d.room<=16384)(hz:x.Sz):Calls Tryz.prog 123 #[ptr C.tq,.int .i64 id,.int .i64 depth] w (GN B w0 C x d P l 2 (dL x d id depth).1 (dL x d id depth).2):=by
 unfold dL;by_cases h0:id=0
 ·subst h0;rw[if_pos rfl];exact EX h
 ·rw[if_neg h0];by_cases h1:24<=depth
  ·rw[if_pos h1];exact E0 h h0 h1
  ·rw[if_neg h1];by_cases h2:(bY x d id 1).2=3
   ·rw[if_pos h2];by_cases h3:(bY x d id 2).2=0
    ·rw[if_pos h3];exact OZ.2 h T hk ok hr hz h0 (by omega) h2 h3
    ·rw[if_neg h3];exact OZ.1 h T hk ok hr hz h0 (by omega) h2 h3
   ·rw[if_neg h2];by_cases h3:(bY x d id 1).2=0
    ·rw[if_pos h3];exact Q7 h T hk ok hr hz h0 (by omega) h3
    ·rw[if_neg h3];exact M7 h T hk ok hr hz h0 (by omega) h3 h2
end
end
end Go.Proofs.YtdcpfbidcpfboaaGreatDoor
section
namespace Go.Proofs.YtdcpfbidcpfboaaGreatDoor.N
open Go.Shelf Go.RowKit Go.Lib Go.Sort
theorem E4 (va vb:Value)(a b:List En)(w:World)(ha:Row aG 2 w va a)(hb:Row aG 2 w vb b)(hl:a.length<=1000000)(hl2:b.length<=1000000):
  Calls Tryz.prog 132 #[va,vb] w fun e w'=>e=.returned (.bool (decide (a=b)))∧Below w.heap.size w w':=by
 obtain⟨ao,ca,rfl,a1,a2,a3⟩:=ha;obtain⟨bo,cb,rfl,b1,b2,b3⟩:=hb;have A3:Aside (a≠[]->∃b off,ao=some ⟨b,off,none⟩∧b<w.heap.size∧cG aG 2 w b off a):=a3;have B3:Aside (b≠[]->∃b' off,bo=some ⟨b',off,none⟩∧b'<w.heap.size∧cG aG 2 w b' off b):=b3;clear a3 b3;by_cases hlen:a.length=b.length
 ·have HL:Hid (a.length=b.length):=hlen;have hle1:a.length<=b.length:=by omega
  have hle2:b.length<=a.length:=by omega
  have hneq:((a.length:Int) != (b.length:Int))=false:=by simp;omega
  clear hlen;go_enter Tryz.func132,Tryz.ntmps132;go_wp2
  go_loopg [5,13] a.length (fun kx s5 s13 wr=>∃(i:Nat),s13=.int .i64 i∧i<=a.length∧a.length-i<=kx∧Hid (GR w wr)∧Hid (a.take i=b.take i))
  case atStart=>exact⟨0,rfl,Nat.zero_le _,Nat.le_refl _,GR.refl _,by simp[Hid]⟩
  case round=>
   obtain⟨i,rfl,hi,hki,HG,HN⟩:=hrel;by_cases hil:i<a.length
   ·have fP:(i:Int)< (a.length:Int):=by omega
    have Hg:i<b.length:=by omega
    obtain⟨ba,oa,rfl,Ae,x1,x2⟩:=ew A3.out i hil HG.out.below;obtain⟨bb,ob,rfl,hbb,y1,y2⟩:=ew B3.out i Hg HG.out.below;have T:Hid (a.take (i+1)=a.take i++[a[i]!]):=cY hil;have T2:Hid (b.take (i+1)=b.take i++[b[i]!]):=cY Hg;generalize a[i]! =x at*;generalize b[i]! =y at*;have HD:Hid (GR w wr.drew):=HG.out.drew;by_cases he:x=y
    ·have E:=fun W=>Gh (x:=x) (y:=y) (decide_eq_true he) W;have G:=T6 x y;have HE:Hid (x=y):=he;clear he;simp only[Bool.not_true]at E
     go_wp2_with fail
     go_region
     all_goals go_wp2
     all_goals go_roundg (a.length- (i+1))
     case measure=>omega
     case rel=>
      refine⟨i+1,by go_num,by omega,Nat.le_refl _,HD,?_⟩;show _=_;rw[T.out,T2.out,HN.out,HE.out]
    ·have E:=fun W=>Gh (x:=x) (y:=y) (decide_eq_false he) W;have G:=T6 x y;have HE:Hid (x≠y):=he;clear he;simp only[Bool.not_false]at E
     go_wp2_with fail
     go_region
     all_goals go_wp2
     all_goals go_ret
     all_goals
      refine⟨dC (decide_eq_false fun h=>HE.out ?_).symm,HD.out.below⟩;subst h;have:=T.out.symm.trans T2.out;simpa using this
   ·have fP:¬(i:Int)< (a.length:Int):=by omega
    obtain rfl:i=a.length:=by omega
    go_wp2;go_ret;refine⟨dC (decide_eq_true ?_).symm,HG.out.below⟩;have:=HN.out;rw[List.take_length,HL.out,List.take_length]at this;exact this
 ·have hneq:((a.length:Int) != (b.length:Int))=true:=by simp;omega
  have HL:Hid (a.length≠b.length):=hlen;clear hlen;go_enter Tryz.func132,Tryz.ntmps132;go_wp2;go_ret;exact⟨dC (decide_eq_false fun h=>HL.out (by rw[h])).symm,Below.refl _ _⟩
end Go.Proofs.YtdcpfbidcpfboaaGreatDoor.N
namespace Go.Proofs.YtdcpfbidcpfboaaGreatDoor
open Go.Shelf Go.RowKit Go.Lib Go.Sort
theorem IV {l:List Int}{i:Nat}{k:Int}(h:i<l.length):(l.take (i+1)).contains k=((l.take i).contains k||decide (k=l.getD i 0)):=by
 rw[uD h,List.contains_eq_any_beq,List.contains_eq_any_beq,List.any_append,List.any_cons,List.any_nil,Bool.or_false];by_cases hh:k=l.getD i 0
 ·rw[decide_eq_true hh,beq_iff_eq.2 hh]
 ·rw[decide_eq_false hh,beq_eq_false_iff_ne.2 hh]
theorem E5 (v:Value)(l:List Int)(k:Int)(w:World)(h:nY w v l)(hl:l.length<=1000000):
  Calls Tryz.prog 231 #[v,.int .i64 k] w fun e w'=>∃i:Int,e=.returned (.int .i64 i)∧Hid (decide (0<=i)=l.contains k)∧-1<=i∧w'=w:=by
 obtain⟨ao,ca,rfl,_⟩:=id h;have HA:Aside (nY w (.slice ao l.length ca) l):=h;clear h;go_enter Tryz.func231,Tryz.ntmps231;go_wp2
 go_loopg [5,8] l.length (fun kx s5 s8 wr=>∃(i:Nat),s8=.int .i64 i∧i<=l.length∧l.length-i<=kx∧wr=w∧Hid ((l.take i).contains k=false))
 case atStart=>exact⟨0,rfl,Nat.zero_le _,Nat.le_refl _,rfl,by simp[Hid]⟩
 case round=>
  obtain⟨i,rfl,hi,hki,rfl,HN⟩:=hrel;by_cases hil:i<l.length
  ·have fP:(i:Int)< (l.length:Int):=by omega
   obtain⟨ba,oa,rfl,Ae,x1⟩:=HA.out.at hil;have T:Hid ((l.take (i+1)).contains k=((l.take i).contains k||decide (k=l.getD i 0))):=IV hil;have T2:Hid (l.getD i 0∈l):=by
    show _∈_;rw[List.getD_eq_getElem?_getD,List.getElem?_eq_getElem hil];exact List.getElem_mem hil
   generalize l.getD i 0=x at*;by_cases he:k=x
   ·have E:(k==x)=true:=by simp[he]
    have HE:Hid (k=x):=he;clear he;go_wp2;go_ret;refine⟨(i:Int),rfl,?_,by omega,rfl⟩;show _=_;rw[decide_eq_true (by omega),List.contains_iff_mem.2 (HE.out▸T2.out)]
   ·have E:(k==x)=false:=by simp[he]
    have HE:Hid (k≠x):=he;clear he;go_wp2
    all_goals go_roundg (l.length- (i+1))
    case measure=>omega
    case rel=>
     refine⟨i+1,by go_num,by omega,Nat.le_refl _,rfl,?_⟩;show _=_;rw[T.out,HN.out,decide_eq_false HE.out];rfl
  ·have fP:¬(i:Int)< (l.length:Int):=by omega
   obtain rfl:i=l.length:=by omega
   go_wp2;go_ret;refine⟨-1,rfl,?_,by omega,rfl⟩;have:=HN.out;rw[List.take_length]at this;refine⟨fun h=>absurd h (by omega),fun h=>?_⟩;rw[List.contains_iff_mem.2 h]at this;cases this
theorem IW (v:Value)(l:List Int)(k:Int)(w:World)(h:nY w v l)(hl:l.length<=1000000):
  Calls Tryz.prog 196 #[v,.int .i64 k] w fun e w'=>e=.returned (.bool (l.contains k))∧w'=w:=by
 obtain⟨ao,ca,rfl,_⟩:=id h;have K:Hid _:=E5 _ l k w h hl;clear h;go_enter Tryz.func196,Tryz.ntmps196
 go_wp2_with fail
 refine Calls.mono K.out ?_;rintro e w1 ⟨i,rfl,HI,h1,rfl⟩;clear K;go_wp2;go_ret;refine⟨?_,rfl⟩;rw[<-HI.out];rfl
end Go.Proofs.YtdcpfbidcpfboaaGreatDoor
end
namespace Go.Proofs.YtdcpfbidcpfboaaGreatDoor
open Go.Shelf Go.RowKit Go.Lib Go.Sort
section
open N (Nd nd0 aL)
section
variable {B:Nat}{w0 w w':World}{l:List aN}{P:List NV}{C:Cx}{S:Dr}{d:Dk}{id depth:Int}{m:Nat}{va vb v:Value}{bot:Int}{tq:Nat}{q:Nat}{ids:List Int}
theorem Sep.qH (h:Sep B w0 w (ax q (mi tq m va vb bot)::l)):q<w.heap.size∧(w.cell? ⟨q,0,none⟩=some (ptr tq)∧w.cell? ⟨q,1,none⟩=some (.map (some m))∧w.cell? ⟨q,2,none⟩=some va∧w.cell? ⟨q,3,none⟩=some vb∧w.cell? ⟨q,4,none⟩=some (.int .i64 bot))∧∀i,w.frozen? ⟨q,i,none⟩=false:=by
 have hb:=h.blk;unfold mi at hb;refine⟨(Array.getElem?_eq_some_iff.1 hb).1,⟨?_,?_,?_,?_,?_⟩,fun i=>?_⟩<;>simp[World.cell?,World.frozen?,hb]
theorem Sep.zb (h:Sep B w0 w (nc C::l)):C.tq<w.heap.size∧(w.cell? ⟨C.tq,0,none⟩=some (ptr C.t)∧w.cell? ⟨C.tq,1,none⟩=some (.int .i64 C.root)∧w.cell? ⟨C.tq,2,none⟩=some (.int .i64 C.err))∧∀i,w.frozen? ⟨C.tq,i,none⟩=false:=by
 have hb:=Sep.blk h;unfold ZV at hb;refine⟨(Array.getElem?_eq_some_iff.1 hb).1,⟨?_,?_,?_⟩,fun i=>?_⟩<;>simp[World.cell?,World.frozen?,hb]
theorem Sep.ints (h:Sep B w0 w (aR 3 v (ids.map (Value.int .i64))::l)):nY w v ids∧∃ao c,v=.slice ao ids.length c:=by
 obtain⟨ao,c,rfl⟩:=h.shape;refine⟨⟨ao,c,by simp,fun hne=>?_⟩,ao,c,by simp⟩;have hl:0< (ids.map (Value.int .i64)).length:=by simpa using List.length_pos_iff.2 hne
 obtain⟨r,c',e,hc,hr,_⟩:=h.cell (j:=0) hl;cases e;refine⟨r,0,rfl,hr,fun j hj=>?_⟩;obtain⟨r',c2,e,_,_,h2,_⟩:=h.cell (j:=j) (by simpa using hj);cases e;rw[Nat.zero_add,h2];simp[List.getD_eq_getElem?_getD,hj]
theorem ze (h:Sep B w0 w (DL C S d P l))(hk:Wf id)(hb:S.okB=true):Calls Tryz.prog 161 #[ptr C.q,.int .i64 id] w fun e w'=>e=.returned (.bool (S.may id))∧Sep B w0 w' (DL C S d P l):=by
 have hsp:S.spare.length<=1000000:=by
  unfold Dr.okB at hb;simp only[Bool.and_eq_true,decide_eq_true_eq]at hb;omega
 obtain⟨g,m,va,vb,hl,ho⟩:=Sep.iE (Sep.pk [_,_,_,_] h);obtain⟨qs,⟨q0,q1,q2,q3,q4⟩,qf⟩:=Sep.qH ho;obtain⟨ts,⟨t0,t1,t2⟩,tf⟩:=Sep.zb (Sep.pk [_,_] h);obtain⟨_,av,cv,rfl⟩:=Sep.ints (Sep.pk [_,_,_] ho);have KF:Hid _:=A6 h hk;have HS:Hid (Sep B w0 w (DL C S d P l)):=h;have HC:Hid (∀u,Below w.heap.size w u->Calls Tryz.prog 196 #[.slice av S.spare.length cv,.int .i64 id] u fun e w'=>e=.returned (.bool (S.spare.contains id))∧w'=u):=fun u hb=>IW _ S.spare id u (Sep.ints (Sep.pk [_,_,_] (ho.below hb))).1 hsp;have HP:Hid (∀u,Below w.heap.size w u->u.cell? ⟨C.q,3,none⟩=some (.slice av S.spare.length cv)∧C.q<u.heap.size):=fun u hb=>⟨(hb.cell (p:=⟨C.q,3,none⟩) qs).trans q3,Nat.lt_of_lt_of_le qs hb.size⟩;unfold Dr.may;clear h ho hl hb hk qf tf;cases hf:(S.x.fresh id).isSome with
 |false=>
  rw[hf]at KF;go_enter Tryz.func161,Tryz.ntmps161
  go_wp2_with fail
  refine Calls.mono KF.out ?_;rintro e w1 ⟨rfl,b1⟩;have S1:Hid _:=HS.out.below b1;clear KF HS HC HP b1;go_wp2;go_ret;exact⟨rfl,S1.out⟩
 |true=>
  rw[hf]at KF;generalize S.spare.contains id=bb at*;go_enter Tryz.func161,Tryz.ntmps161
  go_wp2_with fail
  refine Calls.mono KF.out ?_;rintro e w1 ⟨rfl,b1⟩;have S1:Hid _:=HS.out.below b1;have KC:Hid _:=HC.out w1 b1;obtain⟨y3,ys⟩:=HP.out w1 b1;clear KF HS HC HP b1
  go_wp2_with fail
  refine Calls.mono KC.out ?_;rintro e w2 ⟨rfl,rfl⟩;clear KC;go_wp2;go_ret;exact⟨by simp,S1.out⟩
theorem Sep.oD {x:Value}{cs:Array Value}{ty:TypeId}(h:Sep B w0 w (ax q (.cells cs ty (0,0))::l))(i:Nat):Sep B w0 (w.setCell ⟨q,i,none⟩ x) (ax q (.cells (cs.setIfInBounds i x) ty (0,0))::l):=h.sP x
theorem wS (h:Sep B w0 w (DL C S d P l))(hk:Wf id)(hb:S.okB=true):Calls Tryz.prog 135 #[ptr C.q,.int .i64 id] w fun e w'=>e=.returned (.tuple #[])∧Sep B w0 w' (DL C (S.drop id) d P l):=by
 have KM:Hid _:=ze h hk hb;have hsp:S.spare.length<100000:=by
  unfold Dr.okB at hb;simp only[Bool.and_eq_true,decide_eq_true_eq]at hb;omega
 unfold Dr.drop;by_cases hm:S.may id=true
 ·rw[hm]at KM;rw[if_pos hm];have K1:Hid (∀u,Sep B w0 u (DL C S d P l)->∃g m va av cv w2,u.cell? ⟨C.q,1,none⟩=some (.map (some m))∧C.q<u.heap.size∧(Builtin.delete_ #[151,3] 0 #[.map (some m),.int .i64 id]).run Tryz.prog u=.ok (.tuple #[]) w2∧EU P (fun q=>if q=id then none else S.nodes q) g∧
    Sep B w0 w2 (aR 3 (.slice av S.spare.length cv) (S.spare.map (Value.int .i64))::ax C.q (mi C.tq m va (.slice av S.spare.length cv) S.bot)::cT m g S.cnt::aR 3 va (S.taken.map (Value.int .i64))::Tx C.t C.f S.x::File C.f C.b d::nc C::Pl P::l)):=fun u hu=>by
   obtain⟨g,m,va,vb,hl,ho⟩:=Sep.iE (Sep.pk [_,_,_,_] hu);obtain⟨qs,⟨q0,q1,q2,q3,q4⟩,qf⟩:=Sep.qH ho;obtain⟨_,av,cv,rfl⟩:=Sep.ints (Sep.pk [_,_,_] ho);obtain⟨w2,hrun,h2⟩:=(Sep.pk [_] ho).LN hk 0;refine⟨_,m,va,av,cv,w2,q1,qs,hrun,fun k=>?_,Sep.pk [_,_,_] (Sep.pb [_] h2)⟩;unfold LH;simp only;by_cases hkk:k=id
   ·rw[if_pos hkk,if_pos hkk];exact .inl ⟨rfl,rfl⟩
   ·rw[if_neg hkk,if_neg hkk];exact hl k
  clear h hb hk;go_enter Tryz.func135,Tryz.ntmps135
  go_wp2_with fail
  refine Calls.mono KM.out ?_;rintro e w1 ⟨rfl,s1⟩;obtain⟨g,m,va,av,cv,w2,y1,ys,hrun,hl,s2⟩:=K1.out w1 s1;have S2:Hid (Sep B w0 w2 (aR 3 (.slice av S.spare.length cv) (S.spare.map (Value.int .i64))::ax C.q (mi C.tq m va (.slice av S.spare.length cv) S.bot)::cT m g S.cnt::aR 3 va (S.taken.map (Value.int .i64))::Tx C.t C.f S.x::File C.f C.b d::nc C::Pl P::l)):=s2;have HL:Hid (EU P (fun q=>if q=id then none else S.nodes q) g):=hl;obtain⟨zs,⟨z0,z1,z2,z3,z4⟩,zf⟩:=Sep.qH (Sep.pk [_] s2);clear KM K1 s1 s2 hl
  go_wp2_with (at_builtin;refine mL rfl _ _ rfl _ _ rfl (S2.out.alloc _) _ _ id rfl (by simp) (by simp;omega) ?_)
  intro ao n' c' w3 s3;obtain⟨xs,⟨x0,x1,x2,x3,x4⟩,xf⟩:=Sep.qH (Sep.pk [_] s3);have f3:=xf 3;have S3:Hid (Sep B w0 (w3.setCell ⟨C.q,3,none⟩ (.slice ao n' c')) (DL C ⟨S.x,fun q=>if q=id then none else S.nodes q,S.cnt,S.taken,S.spare++[id],S.bot⟩ d P l)):=by
   have k1:=Sep.oD (x:=.slice ao n' c') (Sep.pk [_] s3) 3;have k2:Sep B w0 (w3.setCell ⟨C.q,3,none⟩ (.slice ao n' c')) (ax C.q (mi C.tq m va (.slice ao n' c') S.bot)::cT m g S.cnt::aR 3 va (S.taken.map (Value.int .i64))::aR 3 (.slice ao n' c') ((S.spare++[id]).map (Value.int .i64))::Tx C.t C.f S.x::File C.f C.b d::nc C::Pl P::l):=by
    rw[List.map_append];exact Sep.pb [_,_,_] (Sep.pk [_] k1)
   exact Sep.pb [_,_,_,_] (Sep.oz (C:=C) (S:=⟨S.x,fun q=>if q=id then none else S.nodes q,S.cnt,S.taken,S.spare++[id],S.bot⟩) HL.out k2)
  clear S2 s3 z0 z1 z2 z3 z4 zf xf HL hrun y1 ys;go_wp2
  go_end0
  exact⟨rfl,S3.out⟩
 ·rw[if_neg hm];have hm':S.may id=false:=by simpa using hm
  rw[hm']at KM;clear h hb hk hm hm';go_enter Tryz.func135,Tryz.ntmps135
  go_wp2_with fail
  refine Calls.mono KM.out ?_;rintro e w1 ⟨rfl,s1⟩;have S1:Hid (Sep B w0 w1 (DL C S d P l)):=s1;clear KM s1;go_wp2
  first|go_end0|refine bodyPost_ret (results_none rfl _ _ _) rfl ?_
  exact⟨rfl,S1.out⟩
theorem Sep.Vf {p:NV}(hu:Sep B w0 w (DL C S d P l))(hk:Wf id)(hp:p∈P)(hn:S.cnt<1000000):∃m w2,w.cell? ⟨C.q,1,none⟩=some (.map (some m))∧C.q<w.heap.size∧(Instr.mapUpdate 151 (.map (some m)) (.int .i64 id) (.agg (cN p))).run Tryz.prog w=.ok () w2∧Sep B w0 w2 (DL C (S.set id p.n) d P l):=by
 obtain⟨g,m,va,vb,hl,ho⟩:=Sep.iE (Sep.pk [_,_,_,_] hu);obtain⟨qs,⟨q0,q1,q2,q3,q4⟩,qf⟩:=Sep.qH ho;obtain⟨w2,hrun,h2⟩:=(Sep.pk [_] ho).LJ hk p.v hn;refine⟨m,w2,q1,qs,hrun,?_⟩;refine Sep.pb [_,_,_,_] (Sep.oz (C:=C) (S:=S.set id p.n) (g:=pH g id p.v) (fun k=>?_) (Sep.pb [_] h2));unfold pH Dr.set;simp only;by_cases hkk:k=id
 ·rw[if_pos hkk,if_pos hkk];exact .inr ⟨p,hp,rfl,rfl⟩
 ·rw[if_neg hkk,if_neg hkk];exact hl k
theorem Dr.zg (h:S.okB=true):S.cnt<100000∧S.x.cnt<900000∧S.taken.length<100000∧S.spare.length<100000:=by
 unfold Dr.okB at h;simp only[Bool.and_eq_true,decide_eq_true_eq]at h;omega
theorem M8 {p:NV}(h:Sep B w0 w (DL C S d P l))(hk:Wf id)(hb:S.okB=true)(hp:p∈P)(hm:S.may id=true):Calls Tryz.prog 136 #[ptr C.q,.int .i64 id,.agg (cN p)] w fun e w'=>e=.returned (.tuple #[.int .i64 id,.int .i64 0])∧Sep B w0 w' (DL C (S.set id p.n) d P l):=by
 have S1:Hid (Sep B w0 (w.alloc (.cells (cN p) 184)) (DL C S d P (ax w.heap.size (.cells (cN p) 184)::l))):=Sep.pb [_,_,_,_,_] (h.aQ _);have KM:Hid _:=ze S1.out hk hb;rw[hm]at KM;have K2:Hid (∀u L,Sep B w0 u (DL C S d P L)->∃m w2,u.cell? ⟨C.q,1,none⟩=some (.map (some m))∧C.q<u.heap.size∧(Instr.mapUpdate 151 (.map (some m)) (.int .i64 id) (.agg (cN p))).run Tryz.prog u=.ok () w2∧Sep B w0 w2 (DL C (S.set id p.n) d P L)):=fun u L hu=>Sep.Vf hu hk hp (by have:=Dr.zg hb;omega);clear h hb hk hp hm;go_enter Tryz.func136,Tryz.ntmps136
 go_wp2_with fail
 generalize World.alloc _ _=v1 at*;generalize w.heap.size=qn at*;refine Calls.mono KM.out ?_;rintro e v2 ⟨rfl,s2⟩;obtain⟨qs,⟨c0,c1,c2,c3⟩,g0,g1,g2,g3⟩:=Sep.c4 (Sep.pk [_,_,_,_,_] s2);obtain⟨m,v3,y1,ys,hrun,s3⟩:=K2.out _ _ s2.drew;have S3:Hid (Sep B w0 v3 (DL C (S.set id p.n) d P l)):=Sep.drop (Sep.pk [_,_,_,_,_] s3);have y1':v2.cell? ⟨C.q,1,none⟩=some (.map (some m)):=y1;have ys':C.q<v2.heap.size:=ys;clear KM K2 s2 s3 S1 y1 ys
 go_wp2_with fail
 go_region
 all_goals go_wp2
 all_goals go_ret2
 all_goals exact⟨rfl,S3.out⟩
theorem IX {p:NV}(h:Sep B w0 w (DL C S d P l))(hk:Wf id)(hb:S.okB=true)(ok:S.x.Ok d.room)(hr:d.room<=16384)(hm:S.may id=false)(he:(S.x.alloc d.room).1.2≠0):Calls Tryz.prog 136 #[ptr C.q,.int .i64 id,.agg (cN p)] w fun e w'=>e=.returned (.tuple #[.int .i64 0,.int .i64 (S.x.alloc d.room).1.2])∧Sep B w0 w' (DL C (S.held d.room) d P l):=by
 have S1:Hid (Sep B w0 (w.alloc (.cells (cN p) 184)) (DL C S d P (ax w.heap.size (.cells (cN p) 184)::l))):=Sep.pb [_,_,_,_,_] (h.aQ _);have KM:Hid _:=ze S1.out hk hb;rw[hm]at KM;have K2:Hid (∀u L,Sep B w0 u (DL C S d P L)->Calls Tryz.prog 162 #[ptr C.t] u fun e w'=>e=.returned (.tuple #[.int .i64 (S.x.alloc d.room).1.1,.int .i64 (S.x.alloc d.room).1.2])∧Sep B w0 w' (DL C (S.held d.room) d P L)):=fun u L hu=>(IU hu ok hr (by have:=Dr.zg hb;omega)).mono fun e w' ⟨h1,h2⟩=>⟨h1,h2⟩;have hne:((S.x.alloc d.room).1.2 != 0)=true:=bne_iff_ne.2 he;generalize(S.x.alloc d.room).1.2=er at*;generalize(S.x.alloc d.room).1.1=k1 at*;clear h hb hk hm ok hr he;go_enter Tryz.func136,Tryz.ntmps136
 go_wp2_with fail
 generalize World.alloc _ _=v1 at*;generalize w.heap.size=qn at*;refine Calls.mono KM.out ?_;rintro e v2 ⟨rfl,s2⟩;obtain⟨qs,⟨q0,q1,q2,q3,q4⟩,qf⟩:=Sep.qH (Sep.iE (Sep.pk [_,_,_,_] s2)).choose_spec.choose_spec.choose_spec.choose_spec.2;obtain⟨ts,⟨t0,t1,t2⟩,tf⟩:=Sep.zb (Sep.pk [_,_] s2);have K3:Hid _:=K2.out _ _ s2;clear KM K2 s2 S1 qf tf q1 q2 q3 q4 t1 t2
 go_wp2_with fail
 refine Calls.mono K3.out ?_;rintro e v3 ⟨rfl,s3⟩;have S3:Hid (Sep B w0 v3 (DL C (S.held d.room) d P l)):=Sep.drop (Sep.pk [_,_,_,_,_] s3);clear K3 s3;go_wp2;go_ret2;exact⟨rfl,S3.out⟩
theorem IY {x:TX}{room:Nat}(ok:x.Ok room)(hr:room<=16384):Wf (x.alloc room).1.1:=by
 obtain⟨fr,p,g,c⟩:=x;unfold TX.alloc;cases fr with
 |cons r s=>
  have:=ok.fr r.1 (ok.cn.dV (Int.le_refl _) (bD.1 ok.cn).1.2.1);have h3:=ok.pr;simp only at this h3⊢;exact Wf.of_lt (by omega) (by omega)
 |nil=>
  have h3:=ok.pr;simp only at h3⊢;split
  ·exact Wf.of_lt (by simp) (by simp)
  ·exact Wf.of_lt (by simp) (by simp only;omega)
theorem M9 {p:NV}(h:Sep B w0 w (DL C S d P l))(hk:Wf id)(hb:S.okB=true)(ok:S.x.Ok d.room)(hr:d.room<=16384)(hp:p∈P)(hm:S.may id=false)(he:(S.x.alloc d.room).1.2=0):Calls Tryz.prog 136 #[ptr C.q,.int .i64 id,.agg (cN p)] w fun e w'=>e=.returned (.tuple #[.int .i64 (S.x.alloc d.room).1.1,.int .i64 0])∧Sep B w0 w' (DL C ((S.took d.room).set (S.x.alloc d.room).1.1 p.n) d P l):=by
 have S1:Hid (Sep B w0 (w.alloc (.cells (cN p) 184)) (DL C S d P (ax w.heap.size (.cells (cN p) 184)::l))):=Sep.pb [_,_,_,_,_] (h.aQ _);have KM:Hid _:=ze S1.out hk hb;rw[hm]at KM;have K2:Hid (∀u L,Sep B w0 u (DL C S d P L)->Calls Tryz.prog 162 #[ptr C.t] u fun e w'=>e=.returned (.tuple #[.int .i64 (S.x.alloc d.room).1.1,.int .i64 (S.x.alloc d.room).1.2])∧Sep B w0 w' (DL C (S.held d.room) d P L)):=fun u L hu=>(IU hu ok hr (by have:=Dr.zg hb;omega)).mono fun e w' ⟨h1,h2⟩=>⟨h1,h2⟩;have hk1:Wf (S.x.alloc d.room).1.1:=IY ok hr;have htl:S.taken.length<100000:=(Dr.zg hb).2.2.1;have hcl:S.cnt<1000000:=by have:=Dr.zg hb;omega
 have K4:Hid (∀u L,Sep B w0 u (DL C (S.took d.room) d P L)->∃m w2,u.cell? ⟨C.q,1,none⟩=some (.map (some m))∧C.q<u.heap.size∧(Instr.mapUpdate 151 (.map (some m)) (.int .i64 (S.x.alloc d.room).1.1) (.agg (cN p))).run Tryz.prog u=.ok () w2∧Sep B w0 w2 (DL C ((S.took d.room).set (S.x.alloc d.room).1.1 p.n) d P L)):=fun u L hu=>Sep.Vf hu hk1 hp hcl;rw[he]at K2;unfold Dr.took at K4⊢;unfold Dr.held at K2;generalize(S.x.alloc d.room).1.1=k1 at*;generalize(S.x.alloc d.room).2=x1 at*;clear h hb hk hm ok hr he hp hk1 hcl;go_enter Tryz.func136,Tryz.ntmps136
 go_wp2_with fail
 generalize World.alloc _ _=v1 at*;generalize w.heap.size=qn at*;refine Calls.mono KM.out ?_;rintro e v2 ⟨rfl,s2⟩;obtain⟨qs,⟨q0,q1,q2,q3,q4⟩,qf⟩:=Sep.qH (Sep.iE (Sep.pk [_,_,_,_] s2)).choose_spec.choose_spec.choose_spec.choose_spec.2;obtain⟨ts,⟨t0,t1,t2⟩,tf⟩:=Sep.zb (Sep.pk [_,_] s2);have K3:Hid _:=K2.out _ _ s2;clear KM K2 s2 S1 qf tf q1 q2 q3 q4 t1 t2
 go_wp2_with fail
 refine Calls.mono K3.out ?_;rintro e v3 ⟨rfl,s3⟩;obtain⟨g,m,va,vb,hl,ho⟩:=Sep.iE (Sep.pk [_,_,_,_] s3);obtain⟨zs,⟨z0,z1,z2,z3,z4⟩,zf⟩:=Sep.qH ho;obtain⟨_,av,cv,rfl⟩:=Sep.ints (Sep.pk [_,_] ho);simp only at ho hl z4;have S2:Hid (Sep B w0 v3 (aR 3 (.slice av S.taken.length cv) (S.taken.map (Value.int .i64))::ax C.q (mi C.tq m (.slice av S.taken.length cv) vb S.bot)::cT m g S.cnt::aR 3 vb (S.spare.map (Value.int .i64))::Tx C.t C.f x1::File C.f C.b d::nc C::Pl P::ax qn (.cells (cN p) 184)::l)):=Sep.pk [_,_] ho;have HL:Hid (EU P S.nodes g):=hl;clear K3 s3 hl ho
 go_wp2_with (at_builtin;refine mL rfl _ _ rfl _ _ rfl (S2.out.alloc _) _ _ k1 rfl (by simp) (by simp;omega) ?_)
 intro ao n' c' v4 s4;obtain⟨xs,⟨x0,x1',x2,x3,x4⟩,xf⟩:=Sep.qH (Sep.pk [_] s4);have f2:=xf 2;have S3:Hid (Sep B w0 (v4.setCell ⟨C.q,2,none⟩ (.slice ao n' c')) (DL C ⟨x1,S.nodes,S.cnt,S.taken++[k1],S.spare,S.bot⟩ d P (ax qn (.cells (cN p) 184)::l))):=by
  have k1':=Sep.oD (x:=.slice ao n' c') (Sep.pk [_] s4) 2;have k2:Sep B w0 (v4.setCell ⟨C.q,2,none⟩ (.slice ao n' c')) (ax C.q (mi C.tq m (.slice ao n' c') vb S.bot)::cT m g S.cnt::aR 3 (.slice ao n' c') ((S.taken++[k1]).map (Value.int .i64))::aR 3 vb (S.spare.map (Value.int .i64))::Tx C.t C.f x1::File C.f C.b d::nc C::Pl P::ax qn (.cells (cN p) 184)::l):=by
   rw[List.map_append];exact Sep.pb [_,_] (Sep.pk [_] k1')
  exact Sep.pb [_,_,_,_] (Sep.oz (C:=C) (S:=⟨x1,S.nodes,S.cnt,S.taken++[k1],S.spare,S.bot⟩) HL.out k2)
 obtain⟨ZX,⟨c0,c1,c2,c3⟩,g0,g1,g2,g3⟩:=Sep.c4 (Sep.pk [_,_,_,_,_] S3.out);obtain⟨m',v5,y1,ys,hrun,s5⟩:=K4.out _ _ S3.out.drew;have y1':(v4.setCell ⟨C.q,2,none⟩ (.slice ao n' c')).cell? ⟨C.q,1,none⟩=some (.map (some m')):=y1;have ys':C.q< (v4.setCell ⟨C.q,2,none⟩ (.slice ao n' c')).heap.size:=ys;have S5:Hid (Sep B w0 v5 (DL C ((⟨x1,S.nodes,S.cnt,S.taken++[k1],S.spare,S.bot⟩:Dr).set k1 p.n) d P l)):=Sep.drop (Sep.pk [_,_,_,_,_] s5);clear S2 s4 s5 K4 z0 z1 z2 z3 z4 zf HL S3 y1 ys
 go_wp2_with fail
 generalize World.setCell _ _ _=v6 at*;clear x0 x1' x2 x3 x4 xf f2
 go_region
 all_goals go_wp2
 all_goals go_ret2
 all_goals exact⟨rfl,S5.out⟩
theorem IZ {p:NV}{S':Dr}{k er:Int}(h:Sep B w0 w (DL C S d P l))(hk:Wf id)(ok:S.x.Ok d.room)(hr:d.room<=16384)(hp:p∈P)(he:S.put d.room id p.n=some ((k,er),S')):Calls Tryz.prog 136 #[ptr C.q,.int .i64 id,.agg (cN p)] w fun e w'=>e=.returned (.tuple #[.int .i64 k,.int .i64 er])∧Sep B w0 w' (DL C S' d P l):=by
 unfold Dr.put at he;by_cases hb:(S.okB&&N.cE p.n)=false
 ·rw[if_pos hb]at he;cases he
 ·rw[if_neg hb]at he;have hb':S.okB=true:=by cases h1:S.okB<;>simp[h1]at hb⊢
  by_cases hm:S.may id=true
  ·rw[if_pos hm]at he;cases he;exact M8 h hk hb' hp hm
  ·rw[if_neg hm]at he;have hm':S.may id=false:=by simpa using hm
   by_cases hz:(S.x.alloc d.room).1.2=0
   ·rw[if_pos hz]at he;cases he;exact M9 h hk hb' ok hr hp hm' hz
   ·rw[if_neg hz]at he;cases he;exact IX h hk hb' ok hr hm' hz
theorem Dr.I0 (S:Dr)(id:Int):(S.drop id).x=S.x:=by unfold Dr.drop;split<;>rfl
theorem E6 {p:NV}{S':Dr}{a b k er:Int}(h:Sep B w0 w (DL C S d P l))(ha:Wf a)(hbb:Wf b)(ok:S.x.Ok d.room)(hr:d.room<=16384)(hp:p∈P)(he:S.fS d.room a b p.n=some ((k,er),S')):Calls Tryz.prog 201 #[ptr C.q,.int .i64 a,.int .i64 b,.agg (cN p)] w fun e w'=>e=.returned (.tuple #[.int .i64 k,.int .i64 er])∧Sep B w0 w' (DL C S' d P l):=by
 unfold Dr.fS at he;by_cases hb:S.okB=false
 ·rw[if_pos hb]at he;cases he
 ·rw[if_neg hb]at he;have hb':S.okB=true:=by simpa using hb
  have S1:Hid (Sep B w0 (w.alloc (.cells (cN p) 184)) (DL C S d P (ax w.heap.size (.cells (cN p) 184)::l))):=Sep.pb [_,_,_,_,_] (h.aQ _);have KM:Hid _:=ze S1.out ha hb';by_cases hm:S.may a=true
  ·rw[if_pos hm]at he;rw[hm]at KM;have K2:Hid (∀u L,Sep B w0 u (DL C S d P L)->Calls Tryz.prog 135 #[ptr C.q,.int .i64 b] u fun e w'=>e=.returned (.tuple #[])∧Sep B w0 w' (DL C (S.drop b) d P L)):=fun u L hu=>wS hu hbb hb';have K3:Hid (∀u L,Sep B w0 u (DL C (S.drop b) d P L)->Calls Tryz.prog 136 #[ptr C.q,.int .i64 a,.agg (cN p)] u fun e w'=>e=.returned (.tuple #[.int .i64 k,.int .i64 er])∧Sep B w0 w' (DL C S' d P L)):=fun u L hu=>IZ hu ha (by rw[Dr.I0];exact ok) hr hp he;generalize S.drop b=S2 at*;clear h ha hbb ok hr hp he hb hb' hm;go_enter Tryz.func201,Tryz.ntmps201
   go_wp2_with fail
   generalize World.alloc _ _=v1 at*;generalize w.heap.size=qn at*;refine Calls.mono KM.out ?_;rintro e v2 ⟨rfl,s2⟩;have K4:Hid _:=K2.out _ _ s2;clear KM K2 s2 S1
   go_wp2_with fail
   refine Calls.mono K4.out ?_;rintro e v3 ⟨rfl,s3⟩;obtain⟨qs,⟨c0,c1,c2,c3⟩,g0,g1,g2,g3⟩:=Sep.c4 (Sep.pk [_,_,_,_,_] s3);have K5:Hid _:=K3.out _ _ s3;clear K4 K3 s3
   go_wp2_with fail
   refine Calls.mono K5.out ?_;rintro e v4 ⟨rfl,s4⟩;have S4:Hid (Sep B w0 v4 (DL C S' d P l)):=Sep.drop (Sep.pk [_,_,_,_,_] s4);clear K5 s4;go_wp2;go_ret2;exact⟨rfl,S4.out⟩
  ·rw[if_neg hm]at he;have hm':S.may a=false:=by simpa using hm
   rw[hm']at KM;have K2:Hid (∀u L,Sep B w0 u (DL C S d P L)->Calls Tryz.prog 135 #[ptr C.q,.int .i64 a] u fun e w'=>e=.returned (.tuple #[])∧Sep B w0 w' (DL C (S.drop a) d P L)):=fun u L hu=>wS hu ha hb';have K3:Hid (∀u L,Sep B w0 u (DL C (S.drop a) d P L)->Calls Tryz.prog 136 #[ptr C.q,.int .i64 b,.agg (cN p)] u fun e w'=>e=.returned (.tuple #[.int .i64 k,.int .i64 er])∧Sep B w0 w' (DL C S' d P L)):=fun u L hu=>IZ hu hbb (by rw[Dr.I0];exact ok) hr hp he;generalize S.drop a=S2 at*;clear h ha hbb ok hr hp he hb hb' hm hm';go_enter Tryz.func201,Tryz.ntmps201
   go_wp2_with fail
   generalize World.alloc _ _=v1 at*;generalize w.heap.size=qn at*;refine Calls.mono KM.out ?_;rintro e v2 ⟨rfl,s2⟩;have K4:Hid _:=K2.out _ _ s2;clear KM K2 s2 S1
   go_wp2_with fail
   refine Calls.mono K4.out ?_;rintro e v3 ⟨rfl,s3⟩;obtain⟨qs,⟨c0,c1,c2,c3⟩,g0,g1,g2,g3⟩:=Sep.c4 (Sep.pk [_,_,_,_,_] s3);have K5:Hid _:=K3.out _ _ s3;clear K4 K3 s3
   go_wp2_with fail
   refine Calls.mono K5.out ?_;rintro e v4 ⟨rfl,s4⟩;have S4:Hid (Sep B w0 v4 (DL C S' d P l)):=Sep.drop (Sep.pk [_,_,_,_,_] s4);clear K5 s4;go_wp2;go_ret2;exact⟨rfl,S4.out⟩
def bI (d d':Dk):Prop:=∃k,gH d d' k
theorem bI.refl (d:Dk):bI d d:=⟨0,gH.refl d⟩
theorem bI.trans {a b c:Dk}(h:bI a b)(k:bI b c):bI a c:=by obtain⟨_,h⟩:=h;obtain⟨_,k⟩:=k;exact⟨_,h.trans k⟩
theorem bI.room {a b:Dk}(h:bI a b):b.room=a.room:=by obtain⟨_,h⟩:=h;exact h.room
theorem bI.dL {a b:Dk}(h:bI a b)(x:TX)(id depth:Int):dL x b id depth=dL x a id depth:=by obtain⟨_,h⟩:=h;exact h.dL x id depth
theorem bI.read {a b:Dk}(h:bI a b)(S:Dr)(id depth:Int):S.read b id depth=S.read a id depth:=by unfold Dr.read;rw[h.dL]
def GD (B:Nat)(w0:World)(C:Cx)(S':Dr)(d:Dk)(P:List NV)(l:List aN)(n:Nd)(er:Int)(e:Ending)(w':World):Prop:=
 ∃p P' d',p.n=n∧p∈P'∧(∀x∈P,x∈P')∧e=.returned (.tuple #[p.v,.int .i64 er])∧bI d d'∧Sep B w0 w' (DL C S' d' P' l)
end
end
section
open N (Nd nd0 aL)
section
variable {B:Nat}{w0 w w':World}{l:List aN}{P:List NV}{C:Cx}{S:Dr}{d:Dk}{id depth:Int}
theorem Sep.O0 (h:Sep B w0 w (DL C S d P l))(hk:Wf id):∃m,w.cell? ⟨C.q,1,none⟩=some (.map (some m))∧w.cell? ⟨C.q,0,none⟩=some (ptr C.tq)∧C.q<w.heap.size∧((S.nodes id=none∧(Instr.lookup 151 (.map (some m)) (.int .i64 id) true).run Tryz.prog w=.ok (.tuple #[.agg cZ,.bool false]) w)∨∃p∈P,S.nodes id=some p.n∧(Instr.lookup 151 (.map (some m)) (.int .i64 id) true).run Tryz.prog w=.ok (.tuple #[.agg (cN p),.bool true]) w):=by
 obtain⟨g,m,va,vb,hl,ho⟩:=Sep.iE (Sep.pP h);obtain⟨qs,⟨q0,q1,q2,q3,q4⟩,qf⟩:=Sep.qH ho;have hlk:=(Sep.kh ho).LI hk;refine⟨m,q1,q0,qs,?_⟩;rcases hl id with⟨h1,h2⟩| ⟨p,hp,h1,h2⟩
 ·rw[h2]at hlk;exact .inl ⟨h1,hlk⟩
 ·rw[h2]at hlk;exact .inr ⟨p,hp,h1,hlk⟩
theorem E7 {p:NV}(h:Sep B w0 w (DL C S d P l))(m:Nat)(q1:w.cell? ⟨C.q,1,none⟩=some (.map (some m)))(qs:C.q<w.heap.size)(hp:p∈P)(hd:depth<24)
  (hlk:(Instr.lookup 151 (.map (some m)) (.int .i64 id) true).run Tryz.prog (w.alloc (.cells cZ 184))=.ok (.tuple #[.agg (cN p),.bool true]) (w.alloc (.cells cZ 184))):
  Calls Tryz.prog 133 #[ptr C.q,.int .i64 id,.int .i64 depth] w (GD B w0 C S d P l p.n 0):=by
 have SF:Hid (Sep B w0 ((w.alloc (.cells (cN p) 184)).alloc (.cells (cN p) 184)) _):=Sep.alloc (h.aQ _) _;have HP:Hid (p∈P):=hp;clear h hp;go_enter Tryz.func133,Tryz.ntmps133;go_wp2
 (try simp only[Exit.inBlock,Exit.then])
 clear hlk q1 qs;generalize World.alloc _ _=vf at*;generalize w.heap.size+1=qq at*;generalize w.heap.size=qr at*;obtain⟨_,⟨c0,c1,c2,c3⟩,g0,g1,g2,g3⟩:=Sep.c4 SF.out;refine bodyPost_ret (v:=.tuple #[.agg (cN p),.int .i64 0]) ?_ rfl ⟨p,P,d,rfl,HP.out,fun _ h=>h,rfl,bI.refl d,SF.out.drop⟩;rw[aL rfl];go_simp
theorem I3:(∀ {p0:NV} (T:cd B w0) (h:Sep B w0 w (DL C S d P l)) (hk:Wf id) (ok:S.x.Ok d.room) (hr:d.room<=16384) (hz:S.x.Sz) (m:Nat) (q0:w.cell? ⟨C.q,0,none⟩=some (ptr C.tq)) (q1:w.cell? ⟨C.q,1,none⟩=some (.map (some m))) (qs:C.q<w.heap.size) (hlk:(Instr.lookup 151 (.map (some m)) (.int .i64 id) true).run Tryz.prog (w.alloc (.cells cZ 184))=.ok (.tuple #[.agg cZ,.bool false]) (w.alloc (.cells cZ 184))),Calls Tryz.prog 133 #[ptr C.q,.int .i64 id,.int .i64 depth] w (GD B w0 C S d P l (dL S.x d id depth).1 (dL S.x d id depth).2))∧
  (∀ {p0:NV} (T:cd B w0) (h:Sep B w0 w (DL C S d P l)) (hk:Wf id) (ok:S.x.Ok d.room) (hr:d.room<=16384) (hz:S.x.Sz) (m:Nat) (q0:w.cell? ⟨C.q,0,none⟩=some (ptr C.tq)) (q1:w.cell? ⟨C.q,1,none⟩=some (.map (some m))) (qs:C.q<w.heap.size) (hd:24<=depth) (hlk:(Instr.lookup 151 (.map (some m)) (.int .i64 id) true).run Tryz.prog (w.alloc (.cells cZ 184))=.ok (.tuple #[.agg (cN p0),.bool true]) (w.alloc (.cells cZ 184))),Calls Tryz.prog 133 #[ptr C.q,.int .i64 id,.int .i64 depth] w (GD B w0 C S d P l (dL S.x d id depth).1 (dL S.x d id depth).2)):=by
 and_intros
 have jk:=trivial
 rotate_left
 have fu:=trivial
 rotate_left
 all_goals
  first
   |have zz:=fu
    intro p0 T h hk ok hr hz m q0 q1 qs hd hlk;have S1:Hid (Sep B w0 ((w.alloc (.cells cZ 184)).alloc (.cells (cN p0) 184)) _):=Sep.alloc (Sep.tH (h.aQ _)) _
   |intro p0 T h hk ok hr hz m q0 q1 qs hlk
    have S1:Hid (Sep B w0 ((w.alloc (.cells cZ 184)).alloc (.cells cZ 184)) _):=Sep.alloc (Sep.tH (h.aQ _)) _
  have K1:Hid (∀u L,Sep B w0 u (DL C S d P L)->Calls Tryz.prog 123 #[ptr C.tq,.int .i64 id,.int .i64 depth] u fun e w'=>∃p d',p.n=(dL S.x d id depth).1∧e=.returned (.tuple #[.agg (cN p),.int .i64 (dL S.x d id depth).2])∧bI d d'∧Sep B w0 w' (DL C S d' (p::P) L)):=fun u L hu=>(wR T hu hk ok hr hz).mono fun e w' ⟨p,d',h1,h2,h3,h4⟩=>⟨p,d',h1,h2,⟨_,h3⟩,Sep.Vc (Sep.wQ (Sep.pP h4) fun x hx=>List.mem_cons_of_mem _ hx)⟩;generalize(dL S.x d id depth).1=nn at*;generalize(dL S.x d id depth).2=er at*;clear h hk ok hr hz T;go_enter Tryz.func133,Tryz.ntmps133
  go_wp2_with fail
  clear hlk q0 q1 qs
  first
   |have zz:=fu
    generalize World.alloc _ _=v2 at*
   |generalize World.alloc _ _=v2 at*
  generalize w.heap.size+1=qq at*;generalize w.heap.size=qr at*;refine Calls.mono (K1.out _ _ S1.out) ?_;rintro e v3 ⟨p,d',hn,rfl,hd',s3⟩;have HN:Hid (p.n=nn):=hn;have HD:Hid (bI d d'):=hd';obtain⟨_,⟨c0,c1,c2,c3⟩,g0,g1,g2,g3⟩:=Sep.c4 (Sep.dS s3);have SF:Hid (Sep B w0 ((((v3.setCell ⟨qr,0,none⟩ (.bool p.n.leaf)).setCell ⟨qr,1,none⟩ (.slice p.ae p.n.es.length p.ce)).setCell ⟨qr,2,none⟩ (.slice p.ak p.n.ks.length p.ck)).setCell ⟨qr,3,none⟩ (.slice p.az p.n.ss.length p.cz)) _):=Sep.s4 (Sep.dS s3) _ _ _ _;clear K1 S1 s3 hn hd';go_wp2
  (try simp only[Exit.inBlock,Exit.then])
  generalize World.setCell _ _ _=vf at*;clear c0 c1 c2 c3 g0 g1 g2 g3;obtain⟨_,⟨c0,c1,c2,c3⟩,g0,g1,g2,g3⟩:=Sep.c4 SF.out;refine bodyPost_ret (v:=.tuple #[.agg (cN p),.int .i64 er]) ?_ rfl ⟨p,p::P,d',HN.out,List.mem_cons_self,fun x hx=>List.mem_cons_of_mem _ hx,rfl,HD.out,SF.out.drop⟩;rw[aL rfl];go_simp
theorem qI (T:cd B w0)(h:Sep B w0 w (DL C S d P l))(hk:Wf id)(ok:S.x.Ok d.room)(hr:d.room<=16384)(hz:S.x.Sz):
  Calls Tryz.prog 133 #[ptr C.q,.int .i64 id,.int .i64 depth] w (GD B w0 C S d P l (S.read d id depth).1 (S.read d id depth).2):=by
 have h1:Sep B w0 (w.alloc (.cells cZ 184)) (DL C S d P l):=h.alloc _;obtain⟨m,q1,q0,qs,hm⟩:=Sep.O0 h hk;obtain⟨m',q1',q0',ZX,hm'⟩:=Sep.O0 h1 hk;have e:m'=m:=by
  have:=(Below.cell (p:=⟨C.q,1,none⟩) ((Below.refl _ w).alloc (Nat.le_refl _) (.cells cZ 184)) qs).symm.trans q1';rw[q1]at this;simpa using this.symm
 subst e;unfold Dr.read;rcases hm' with⟨hn,hl⟩| ⟨p,hp,hn,hl⟩
 ·rw[hn,if_neg (by simp)];exact I3.1 (p0:=pZ) T h hk ok hr hz m' q0 q1 qs hl
 ·by_cases hd:depth<24
  ·rw[hn,if_pos ⟨rfl,hd⟩];exact E7 h m' q1 qs hp hd hl
  ·rw[hn,if_neg (fun h=>hd h.2)];exact I3.2 (p0:=p) T h hk ok hr hz m' q0 q1 qs (by omega) hl
end
end
section
open N (Nd nd0 aL)
theorem bR {z:Int}(h0:-9223372036854775808<=z)(h1:z<=9223372036854775807):IntKind.i64.wrap z=z:=by
 rw[IntKind.wrap_i64];omega
theorem NV.kid {p:NV}{w:World}(h:p.R w){i:Nat}(hi:i<p.n.ks.length):∃r o,p.ak=some ⟨r,o,none⟩∧r<w.heap.size∧w.cell? ⟨r,o+i,none⟩=some (.int .i64 (p.n.ks.getD i 0)):=by
 obtain⟨ao,cap,e,h1,h2,h3⟩:=h.k;have hne:p.n.ks≠[]:=fun e=>by rw[e]at hi;simp at hi
 obtain⟨b,off,e2,hb,hc⟩:=h3 hne;injection e with e1 _ _;refine⟨b,off,e1.trans e2,hb,?_⟩;rw[hc i (by simpa using hi)];have hs:i<p.n.ks.toArray.size*1:=by simpa using hi
 rw[get_flatK _ _ _ _ hs,Nat.div_one,Nat.mod_one];simp[N.encI,List.getD_eq_getElem?_getD,hi]
theorem pq {fn:Func}{p p' q:Tmp}{ty ty':TypeId}(h:fn.results=#[.cell p ty,.cell p' ty',.tmp q])(tmps:Array Value)(P:Program)(w:World):
  (results fn tmps).run P w=((asAddr (tmps.getD p undef)).run P w).andThen fun a w₁=>((loadVar ty a).run P w₁).andThen fun x w₂=>((asAddr (tmps.getD p' undef)).run P w₂).andThen fun a' w₃=>((loadVar ty' a').run P w₃).andThen fun x' w₄=>.ok (.tuple #[x,x',tmps.getD q undef]) w₄:=by
 simp only[results,h];simp[Sem.run_bind,Result.andThen]
theorem dN {l:List Int}{i:Nat}(h:i<l.length):l.getD i 0∈l:=by
 rw[List.getD_eq_getElem?_getD,List.getElem?_eq_getElem h];exact List.getElem_mem h
def GP (B:Nat)(w0:World)(C:Cx)(S':Dr)(d:Dk)(P:List NV)(l:List aN)(n n':Nd)(er:Int)(e:Ending)(w':World):Prop:=
 ∃p p' P' d',p.n=n∧p'.n=n'∧p∈P'∧p'∈P'∧(∀x∈P,x∈P')∧e=.returned (.tuple #[p.v,p'.v,.int .i64 er])∧bI d d'∧Sep B w0 w' (DL C S' d' P' l)
theorem Sep.aZ {B:Nat}{w0 w:World}{l:List aN}(h:Sep B w0 w l)(o:Obj)(q:Nat)(hq:q=w.heap.size):Sep B w0 (w.alloc o) (ax q o::l):=by subst hq;exact h.aQ o
theorem DL.zero {B:Nat}{w0 w:World}{l:List aN}{P:List NV}{C:Cx}{S:Dr}{d:Dk}(h:Sep B w0 w (DL C S d P l)):Sep B w0 w (DL C S d (pZ::P) l):=
 Sep.Vc (Sep.wQ (Sep.pP (Sep.po h (Below.refl _ _) (MW _ _))) fun x hx=>List.mem_cons_of_mem _ hx)
theorem Sep.ne {B:Nat}{w0 w:World}{l:List aN}{q q':Nat}{o o':Obj}(h:Sep B w0 w (ax q o::ax q' o'::l)):q≠q':=fun e=>by
 obtain⟨_,_,Y,⟨_,X,Z,hx,⟨_,X',Z',hx',_,_,hz⟩,hd,_⟩,_⟩:=h;exact hd q ((hx.2 q).2 rfl) ((hz q).2 (.inl ((hx'.2 q).2 e)))
section
variable {B:Nat}{w0 w w':World}{l:List aN}{P:List NV}{C:Cx}{S:Dr}{d:Dk}{depth:Int}{ae ak az:Option Addr}{ce ck cz:Nat}{n:Nd}{i:Nat}
theorem I4 (T:cd B w0)(h:Sep B w0 w (DL C S d P l))(hp:(⟨ae,ce,ak,ck,az,cz,n⟩:NV)∈P)(hi:i+1<n.ks.length)(hl:n.ks.length<=500)(hk:∀k∈n.ks,Wf k)(ok:S.x.Ok d.room)(hr:d.room<=16384)(hz:S.x.Sz)(hd0:-1<=depth)(hd1:depth<=1000000)(h0:(S.read d (n.ks.getD i 0) (depth+1)).2≠0):Calls Tryz.prog 199 #[ptr C.q,.agg #[.bool n.leaf,.slice ae n.es.length ce,.slice ak n.ks.length ck,.slice az n.ss.length cz],.int .i64 depth,.int .i64 (i:Int)] w (GP B w0 C S d P l nd0 nd0 (S.read d (n.ks.getD i 0) (depth+1)).2):=by
 obtain⟨r,ro,hak,_⟩:=NV.kid (p:=(⟨ae,ce,ak,ck,az,cz,n⟩:NV)) (Sep.pool (Sep.A7 h) _ hp) (i:=i) (by simp only;omega);simp only at hak;subst hak;have K1:Hid (∀u d' P' L,bI d d'->Sep B w0 u (DL C S d' P' L)->Calls Tryz.prog 133 #[ptr C.q,.int .i64 (n.ks.getD (i) 0),.int .i64 (depth+1)] u fun e w'=>∃pa P2 d2,pa.n=(S.read d (n.ks.getD i 0) (depth+1)).1∧pa∈P2∧(∀x∈P',x∈P2)∧e=.returned (.tuple #[.agg (cN pa),.int .i64 (S.read d (n.ks.getD i 0) (depth+1)).2])∧bI d d2∧Sep B w0 w' (DL C S d2 P2 L)):=fun u d' P' L hd hu=>by
  have:=qI (depth:=depth+1) T hu (hk _ (dN (by omega:i<n.ks.length))) (by rw[hd.room];exact ok) (by rw[hd.room];exact hr) hz;rw[hd.read]at this;exact this.mono fun e w' ⟨pa,P2,d2,h1,h2,h3,h4,h5,h6⟩=>⟨pa,P2,d2,h1,h2,h3,h4,hd.trans h5,h6⟩
 have S1:Hid (Sep B w0 (((w.alloc (.cells #[.bool n.leaf,.slice ae n.es.length ce,.slice (some ⟨r,ro,none⟩) n.ks.length ck,.slice az n.ss.length cz] 184)).alloc (.cells cZ 184)).alloc (.cells cZ 184)) (DL C S d P (ax w.heap.size (.cells #[.bool n.leaf,.slice ae n.es.length ce,.slice (some ⟨r,ro,none⟩) n.ks.length ck,.slice az n.ss.length cz] 184)::ax (w.heap.size+1) (.cells cZ 184)::ax (w.heap.size+2) (.cells cZ 184)::l))):=Sep.xH (Sep.aZ (Sep.oC (Sep.aZ (Sep.tH (h.aQ _)) _ _ (by simp))) _ _ (by simp));obtain⟨r',ro',hak,hrs,hrc⟩:=NV.kid (p:=(⟨ae,ce,some ⟨r,ro,none⟩,ck,az,cz,n⟩:NV)) (Sep.pool (Sep.A7 S1.out) _ hp) (i:=i) (by simp only;omega);cases hak;simp only at hrc;have KR:Hid (∀u d' P' L,Sep B w0 u (DL C S d' P' L)->(⟨ae,ce,some ⟨r,ro,none⟩,ck,az,cz,n⟩:NV)∈P'->r<u.heap.size∧u.cell? ⟨r,ro+(i+1),none⟩=some (.int .i64 (n.ks.getD (i+1) 0))):=fun u d' P' L hu hp'=>by
  obtain⟨r',ro',hak,h1,h2⟩:=NV.kid (p:=(⟨ae,ce,some ⟨r,ro,none⟩,ck,az,cz,n⟩:NV)) (Sep.pool (Sep.A7 hu) _ hp') (i:=i+1) hi;cases hak;exact⟨h1,h2⟩
 have w1:IntKind.i64.wrap (depth+1)=depth+1:=bR (by omega) (by omega);have w2:IntKind.i64.wrap ((i:Int)+1)=((i+1:Nat):Int):=by rw[bR (by omega) (by omega)];rfl
 have hil:(i:Int)< (n.ks.length:Int):=by omega
 have Lt:((i+1:Nat):Int)< (n.ks.length:Int):=by omega
 have HP:Hid ((⟨ae,ce,some ⟨r,ro,none⟩,ck,az,cz,n⟩:NV)∈P):=hp;have hne:((S.read d (n.ks.getD i 0) (depth+1)).2 != 0)=true:=bne_iff_ne.2 h0;generalize(S.read d (n.ks.getD i 0) (depth+1))=ra at*;obtain⟨na,ea⟩:=ra;clear h ok hr hz hk T hd0 hd1 hp KR Lt w2 h0;simp only at hne K1⊢;generalize n.ks.getD i 0=ka at*;go_enter Tryz.func199,Tryz.ntmps199
 go_wp2_with fail
 generalize World.alloc _ _=v1 at*;generalize w.heap.size+2=q2 at*;generalize w.heap.size+1=q1 at*;generalize w.heap.size=q0 at*;refine Calls.mono (K1.out _ _ _ _ (bI.refl d) S1.out) ?_;rintro e v3 ⟨pa,P1,d1,hn1,hm1,hs1,rfl,hd1,s3⟩;have S3:Hid (Sep B w0 v3 (DL C S d1 P1 (ax q0 (.cells #[.bool n.leaf,.slice ae n.es.length ce,.slice (some ⟨r,ro,none⟩) n.ks.length ck,.slice az n.ss.length cz] 184)::ax q1 (.cells cZ 184)::ax q2 (.cells cZ 184)::l))):=s3;have D1:Hid (bI d d1):=hd1;have M1:Hid (∀x∈P,x∈P1):=hs1;obtain⟨_,⟨c0,c1,c2,c3⟩,g0,g1,g2,g3⟩:=Sep.c4 (Sep.cR s3);obtain⟨_,⟨e0,e1,e2,e3⟩,f0,f1,f2,f3⟩:=Sep.c4 (Sep.eN s3);have n12:q1≠q2:=Sep.ne (Sep.eN (Sep.eN s3));clear S1 K1 s3 hrc hrs hn1 hm1 hs1 hd1;have n21:=n12.symm;have SF:Hid (Sep B w0 (((((((((v3.setCell ⟨q1,0,none⟩ (.bool false)).setCell ⟨q1,1,none⟩ (.slice none 0 0)).setCell ⟨q1,2,none⟩ (.slice none 0 0)).setCell ⟨q1,3,none⟩ (.slice none 0 0)).setCell ⟨q2,0,none⟩ (.bool false)).setCell ⟨q2,1,none⟩ (.slice none 0 0)).setCell ⟨q2,2,none⟩ (.slice none 0 0)).setCell ⟨q2,3,none⟩ (.slice none 0 0)).alloc (.cells (cN pa) 184)) _):=Sep.alloc (Sep.xH (Sep.s4 (Sep.eN (Sep.oC (Sep.s4 (Sep.cR S3.out) _ _ _ _))) _ _ _ _)) _;clear S3;go_wp2
 (try simp only[Exit.inBlock,Exit.then])
 generalize World.setCell _ _ _=vf at*;clear c0 c1 c2 c3 g0 g1 g2 g3 e0 e1 e2 e3 f0 f1 f2 f3;obtain⟨_,⟨c0,c1,c2,c3⟩,g0,g1,g2,g3⟩:=Sep.c4 (Sep.cR SF.out);obtain⟨_,⟨e0,e1,e2,e3⟩,f0,f1,f2,f3⟩:=Sep.c4 (Sep.eN SF.out);refine bodyPost_ret (v:=.tuple #[.agg cZ,.agg cZ,.int .i64 ea]) ?_ rfl ⟨pZ,pZ,pZ::P1,d1,rfl,rfl,List.mem_cons_self,List.mem_cons_self,fun x hx=>List.mem_cons_of_mem _ (M1.out x hx),rfl,D1.out,DL.zero (Sep.drop (Sep.dS (Sep.drop (Sep.cR (Sep.drop (Sep.eN SF.out))))))⟩;rw[pq rfl];go_simp
theorem Na (T:cd B w0)(h:Sep B w0 w (DL C S d P l))(hp:(⟨ae,ce,ak,ck,az,cz,n⟩:NV)∈P)(hi:i+1<n.ks.length)(hl:n.ks.length<=500)(hk:∀k∈n.ks,Wf k)(ok:S.x.Ok d.room)(hr:d.room<=16384)(hz:S.x.Sz)(hd0:-1<=depth)(hd1:depth<=1000000)(h0:(S.read d (n.ks.getD i 0) (depth+1)).2=0):Calls Tryz.prog 199 #[ptr C.q,.agg #[.bool n.leaf,.slice ae n.es.length ce,.slice ak n.ks.length ck,.slice az n.ss.length cz],.int .i64 depth,.int .i64 (i:Int)] w (GP B w0 C S d P l (S.read d (n.ks.getD i 0) (depth+1)).1 (S.read d (n.ks.getD (i+1) 0) (depth+1)).1 (S.read d (n.ks.getD (i+1) 0) (depth+1)).2):=by
 obtain⟨r,ro,hak,_⟩:=NV.kid (p:=(⟨ae,ce,ak,ck,az,cz,n⟩:NV)) (Sep.pool (Sep.A7 h) _ hp) (i:=i) (by simp only;omega);simp only at hak;subst hak;have K1:Hid (∀u d' P' L,bI d d'->Sep B w0 u (DL C S d' P' L)->Calls Tryz.prog 133 #[ptr C.q,.int .i64 (n.ks.getD (i) 0),.int .i64 (depth+1)] u fun e w'=>∃pa P2 d2,pa.n=(S.read d (n.ks.getD i 0) (depth+1)).1∧pa∈P2∧(∀x∈P',x∈P2)∧e=.returned (.tuple #[.agg (cN pa),.int .i64 (S.read d (n.ks.getD i 0) (depth+1)).2])∧bI d d2∧Sep B w0 w' (DL C S d2 P2 L)):=fun u d' P' L hd hu=>by
  have:=qI (depth:=depth+1) T hu (hk _ (dN (by omega:i<n.ks.length))) (by rw[hd.room];exact ok) (by rw[hd.room];exact hr) hz;rw[hd.read]at this;exact this.mono fun e w' ⟨pa,P2,d2,h1,h2,h3,h4,h5,h6⟩=>⟨pa,P2,d2,h1,h2,h3,h4,hd.trans h5,h6⟩
 have K2:Hid (∀u d' P' L,bI d d'->Sep B w0 u (DL C S d' P' L)->Calls Tryz.prog 133 #[ptr C.q,.int .i64 (n.ks.getD (i+1) 0),.int .i64 (depth+1)] u fun e w'=>∃pa P2 d2,pa.n=(S.read d (n.ks.getD (i+1) 0) (depth+1)).1∧pa∈P2∧(∀x∈P',x∈P2)∧e=.returned (.tuple #[.agg (cN pa),.int .i64 (S.read d (n.ks.getD (i+1) 0) (depth+1)).2])∧bI d d2∧Sep B w0 w' (DL C S d2 P2 L)):=fun u d' P' L hd hu=>by
  have:=qI (depth:=depth+1) T hu (hk _ (dN (by omega:i+1<n.ks.length))) (by rw[hd.room];exact ok) (by rw[hd.room];exact hr) hz;rw[hd.read]at this;exact this.mono fun e w' ⟨pa,P2,d2,h1,h2,h3,h4,h5,h6⟩=>⟨pa,P2,d2,h1,h2,h3,h4,hd.trans h5,h6⟩
 have S1:Hid (Sep B w0 (((w.alloc (.cells #[.bool n.leaf,.slice ae n.es.length ce,.slice (some ⟨r,ro,none⟩) n.ks.length ck,.slice az n.ss.length cz] 184)).alloc (.cells cZ 184)).alloc (.cells cZ 184)) (DL C S d P (ax w.heap.size (.cells #[.bool n.leaf,.slice ae n.es.length ce,.slice (some ⟨r,ro,none⟩) n.ks.length ck,.slice az n.ss.length cz] 184)::ax (w.heap.size+1) (.cells cZ 184)::ax (w.heap.size+2) (.cells cZ 184)::l))):=Sep.xH (Sep.aZ (Sep.oC (Sep.aZ (Sep.tH (h.aQ _)) _ _ (by simp))) _ _ (by simp));obtain⟨r',ro',hak,hrs,hrc⟩:=NV.kid (p:=(⟨ae,ce,some ⟨r,ro,none⟩,ck,az,cz,n⟩:NV)) (Sep.pool (Sep.A7 S1.out) _ hp) (i:=i) (by simp only;omega);cases hak;simp only at hrc;have KR:Hid (∀u d' P' L,Sep B w0 u (DL C S d' P' L)->(⟨ae,ce,some ⟨r,ro,none⟩,ck,az,cz,n⟩:NV)∈P'->r<u.heap.size∧u.cell? ⟨r,ro+(i+1),none⟩=some (.int .i64 (n.ks.getD (i+1) 0))):=fun u d' P' L hu hp'=>by
  obtain⟨r',ro',hak,h1,h2⟩:=NV.kid (p:=(⟨ae,ce,some ⟨r,ro,none⟩,ck,az,cz,n⟩:NV)) (Sep.pool (Sep.A7 hu) _ hp') (i:=i+1) hi;cases hak;exact⟨h1,h2⟩
 have w1:IntKind.i64.wrap (depth+1)=depth+1:=bR (by omega) (by omega);have w2:IntKind.i64.wrap ((i:Int)+1)=((i+1:Nat):Int):=by rw[bR (by omega) (by omega)];rfl
 have hil:(i:Int)< (n.ks.length:Int):=by omega
 have Lt:((i+1:Nat):Int)< (n.ks.length:Int):=by omega
 have HP:Hid ((⟨ae,ce,some ⟨r,ro,none⟩,ck,az,cz,n⟩:NV)∈P):=hp;have wk:∀z:Int,z=n.ks.getD (i+1) 0->True:=fun _ _=>trivial;rw[h0]at K1;generalize(S.read d (n.ks.getD i 0) (depth+1)).1=na at*;generalize(S.read d (n.ks.getD (i+1) 0) (depth+1)).1=nb at*;generalize(S.read d (n.ks.getD (i+1) 0) (depth+1)).2=eb at*;generalize n.ks.getD (i+1) 0=kb at*;clear h ok hr hz hk T hd0 hd1 hp h0 wk;generalize n.ks.getD i 0=ka at*;go_enter Tryz.func199,Tryz.ntmps199
 go_wp2_with fail
 generalize World.alloc _ _=v1 at*;generalize w.heap.size+2=q2 at*;generalize w.heap.size+1=q1 at*;generalize w.heap.size=q0 at*;refine Calls.mono (K1.out _ _ _ _ (bI.refl d) S1.out) ?_;rintro e v3 ⟨pa,P1,d1,hn1,hm1,hs1,rfl,hd1,s3⟩;have S3:Hid (Sep B w0 v3 (DL C S d1 P1 (ax q0 (.cells #[.bool n.leaf,.slice ae n.es.length ce,.slice (some ⟨r,ro,none⟩) n.ks.length ck,.slice az n.ss.length cz] 184)::ax q1 (.cells cZ 184)::ax q2 (.cells cZ 184)::l))):=s3;have D1:Hid (bI d d1):=hd1;have M1:Hid (∀x∈P,x∈P1):=hs1;have N1:Hid (pa.n=na):=hn1;have MA:Hid (pa∈P1):=hm1;have S4:Hid (Sep B w0 (v3.alloc (.cells (cN pa) 184)) _):=Sep.Kr (Sep.aQ S3.out _);obtain⟨qs0,⟨c0,c1,c2,c3⟩,g0,g1,g2,g3⟩:=Sep.c4 (Sep.dS S3.out);obtain⟨Yk,Yl⟩:=KR.out _ _ _ _ S4.out (hs1 _ HP.out);clear S1 K1 s3 hrc hrs hn1 hm1 hs1 hd1 S3 KR
 go_wp2_with fail
 clear c0 c1 c2 c3 g0 g1 g2 g3 Yk Yl qs0;generalize World.alloc _ _=v4 at*;generalize v3.heap.size=q3 at*;refine Calls.mono (K2.out _ _ _ _ D1.out S4.out) ?_;rintro e v5 ⟨pb,P2,d2,hn2,hm2,hs2,rfl,hd2,s5⟩;have S5:Hid (Sep B w0 (v5.alloc (.cells (cN pb) 184)) _):=Sep.Wx (Sep.aQ s5 _);have D2:Hid (bI d d2):=hd2;have M2:Hid (∀x∈P1,x∈P2):=hs2;have N2:Hid (pb.n=nb):=hn2;have MB:Hid (pb∈P2):=hm2;clear s5 S4 K2 hn2 hm2 hs2 hd2 D1
 go_wp2_with fail
 generalize World.alloc _ _=v6 at*;generalize v5.heap.size=q4 at*;obtain⟨qa,⟨c0,c1,c2,c3⟩,g0,g1,g2,g3⟩:=Sep.c4 (Sep.cR S5.out);obtain⟨qb,⟨e0,e1,e2,e3⟩,f0,f1,f2,f3⟩:=Sep.c4 (Sep.eN S5.out);obtain⟨qc,⟨i0,i1,i2,i3⟩,_⟩:=Sep.c4 (Sep.iZ S5.out);obtain⟨qd,⟨j0,j1,j2,j3⟩,_⟩:=Sep.c4 (Sep.pQ S5.out);have n12:q1≠q2:=Sep.ne (Sep.eN (Sep.eN S5.out));have n21:=n12.symm;have n13:q1≠q3:=Sep.ne (Sep.eN (Sep.iZ S5.out));have n31:=n13.symm;have n14:q1≠q4:=Sep.ne (Sep.eN (Sep.pQ S5.out));have n41:=n14.symm;have n23:q2≠q3:=Sep.ne (Sep.iZ (Sep.iZ S5.out));have n32:=n23.symm;have n24:q2≠q4:=Sep.ne (Sep.iZ (Sep.pQ S5.out));have n42:=n24.symm;have SF:Hid (Sep B w0 ((((((((v6.setCell ⟨q1,0,none⟩ (.bool pa.n.leaf)).setCell ⟨q1,1,none⟩ (.slice pa.ae pa.n.es.length pa.ce)).setCell ⟨q1,2,none⟩ (.slice pa.ak pa.n.ks.length pa.ck)).setCell ⟨q1,3,none⟩ (.slice pa.az pa.n.ss.length pa.cz)).setCell ⟨q2,0,none⟩ (.bool pb.n.leaf)).setCell ⟨q2,1,none⟩ (.slice pb.ae pb.n.es.length pb.ce)).setCell ⟨q2,2,none⟩ (.slice pb.ak pb.n.ks.length pb.ck)).setCell ⟨q2,3,none⟩ (.slice pb.az pb.n.ss.length pb.cz)).drew (DL C S d2 P2 (ax q0 (.cells #[.bool n.leaf,.slice ae n.es.length ce,.slice (some ⟨r,ro,none⟩) n.ks.length ck,.slice az n.ss.length cz] 184)::ax q1 (.cells (cN pa) 184)::ax q2 (.cells (cN pb) 184)::ax q3 (.cells (cN pa) 184)::ax q4 (.cells (cN pb) 184)::l))):=Sep.drew (Sep.xH (Sep.s4 (Sep.eN (Sep.oC (Sep.s4 (Sep.cR S5.out) _ _ _ _))) _ _ _ _));clear S5
 go_region
 all_goals go_wp2
 generalize World.setCell _ _ _=vf at*;clear c0 c1 c2 c3 g0 g1 g2 g3 e0 e1 e2 e3 f0 f1 f2 f3 i0 i1 i2 i3 j0 j1 j2 j3 qa qb qc qd;obtain⟨_,⟨c0,c1,c2,c3⟩,g0,g1,g2,g3⟩:=Sep.c4 (Sep.cR SF.out);obtain⟨_,⟨e0,e1,e2,e3⟩,f0,f1,f2,f3⟩:=Sep.c4 (Sep.eN SF.out);refine bodyPost_ret (v:=.tuple #[.agg (cN pa),.agg (cN pb),.int .i64 eb]) ?_ rfl ⟨pa,pb,P2,d2,N1.out,N2.out,M2.out _ MA.out,MB.out,fun x hx=>M2.out x (M1.out x hx),rfl,D2.out,Sep.drop (Sep.dS (Sep.drop (Sep.cR (Sep.drop (Sep.eN (Sep.drop (Sep.iZ (Sep.drop (Sep.pQ SF.out)))))))))⟩;rw[pq rfl];go_simp
end
end
end Go.Proofs.YtdcpfbidcpfboaaGreatDoor
namespace Go.Proofs.YtdcpfbidcpfboaaGreatDoor
section
open Go.RowKit
open N (Nd nd0 cE dx dZ cP bW qi tS uM kV uL Da Sm ji gp)
structure DI (S:Dr)(room:Nat):Prop where
 ok:S.x.Ok room
 sz:S.x.Sz
 ns:∀k n,S.nodes k=some n->cE n=true
theorem TX.zh {x:TX}(h:x.Sz)(room:Nat):(x.alloc room).2.Sz:=by
 obtain⟨fr,p,g,c⟩:=x;unfold TX.alloc;have key:∀(k:Int),∀q c',gN g k c0 q=some c'->c'.body.size<=240:=fun k q c' hc=>by
  unfold gN at hc;split at hc
  ·cases hc;simp[c0]
  ·exact h q c' hc
 cases fr with
 |cons r s=>exact fun q c' hc=>key r.1 q c' hc
 |nil=>
  simp only;split
  ·exact h
  ·exact fun q c' hc=>key _ q c' hc
theorem DI.drop {S:Dr}{room:Nat}(h:DI S room)(id:Int):DI (S.drop id) room:=by
 unfold Dr.drop;split
 ·refine⟨h.ok,h.sz,fun k n hn=>?_⟩;simp only at hn;split at hn
  ·cases hn
  ·exact h.ns k n hn
 ·exact h
theorem DI.set {S:Dr}{room:Nat}(h:DI S room)(id:Int){n:Nd}(hf:cE n=true):DI (S.set id n) room:=by
 refine⟨h.ok,h.sz,fun k m hm=>?_⟩;unfold Dr.set at hm;simp only at hm;split at hm
 ·cases hm;exact hf
 ·exact h.ns k m hm
theorem DI.put {S S':Dr}{room:Nat}(h:DI S room){id:Int}{n:Nd}{r:Int×Int}(he:S.put room id n=some (r,S')):DI S' room:=by
 unfold Dr.put at he;split at he
 ·cases he
 ·rename_i hb
  have hf:cE n=true:=by cases h1:cE n<;>simp[h1]at hb⊢
  split at he
  ·cases he;exact h.set _ hf
  ·split at he
   ·cases he;exact DI.set (S:=S.took room) ⟨TX.sq h.ok,TX.zh h.sz room,h.ns⟩ _ hf
   ·cases he;exact⟨TX.sq h.ok,TX.zh h.sz room,h.ns⟩
theorem DI.fS {S S':Dr}{room:Nat}(h:DI S room){a b:Int}{n:Nd}{r:Int×Int}(he:S.fS room a b n=some (r,S')):DI S' room:=by
 unfold Dr.fS at he;split at he
 ·cases he
 ·split at he
  ·exact(h.drop b).put he
  ·exact(h.drop a).put he
theorem DI.join {rec:qF}{S S':Dr}{room:Nat}{d:Dk}{n:Nd}{depth i first:Int}{r:Nd×Bool×Int}(h:DI S room)
  (hr:∀ {S S':Dr} {n:Nd} {depth i tt:Int} {r:Nd×Int},DI S room->rec S n depth i tt=some (r,S')->DI S' room)
  (he:fV rec room d S n depth i first=some (r,S')):DI S' room:=by
 unfold fV at he
 repeat' split at he
 all_goals first
  |(cases he;done)
  |(cases he;exact h)
  |skip
 ·cases he;exact hr h (by assumption)
 ·cases he
  rename_i h1 h2 _ _ _ h3
  exact(hr h (by assumption)).fS (by assumption)
theorem DI.settle {room:Nat}{d:Dk}:∀(f:Nat) {S S':Dr} {n:Nd} {depth i tt:Int} {r:Nd×Int},DI S room->bh room d f S n depth i tt=some (r,S')->DI S' room
 |0,_,_,_,_,_,_,_,_,he=>by cases he
 |f+1,S,S',n,depth,i,tt,r,h,he=>by
  unfold bh at he;split at he
  ·cases he
  ·split at he
   ·split at he
    ·cases he
    ·rename_i hj
     have h1:=DI.join h (fun h he=>DI.settle f h he) hj;split at he
     ·cases he;exact h1
     ·split at he
      ·exact DI.settle f h1 he
      ·exact DI.settle f h1 he
   ·cases he;exact h
theorem Dg {kind:Int}{s:List UInt8}(h:kV (uM kind s)=0):cE (tS kind s)=true:=by
 cases hd:uL kind s with
 |none=>
  rw[(N.iV hd).2]at h;cases h
 |some n=>
  obtain⟨h1,h2,_⟩:=N.Hq hd;rw[(N.mZ hd).1];unfold cE;rw[h1,decide_eq_true h2];rfl
theorem I5 {x:TX}{d:Dk}{id depth:Int}(h:(dL x d id depth).2=0):cE (dL x d id depth).1=true:=by
 unfold dL at h⊢;split
 ·rfl
 ·rename_i h0
  rw[if_neg h0]at h;split
  ·rename_i h1;rw[if_pos h1]at h;cases h
  ·rename_i h1
   rw[if_neg h1]at h;split
   ·rename_i h2
    rw[if_pos h2]at h;split
    ·rename_i h3;rw[if_pos h3]at h;exact Dg h
    ·rename_i h3;rw[if_neg h3]at h;exact absurd h h3
   ·rename_i h2
    rw[if_neg h2]at h;split
    ·rename_i h3;rw[if_pos h3]at h;exact Dg h
    ·rename_i h3;rw[if_neg h3]at h;exact absurd h h3
theorem DI.read {S:Dr}{room:Nat}(h:DI S room){d:Dk}{id depth:Int}(he:(S.read d id depth).2=0):cE (S.read d id depth).1=true:=by
 unfold Dr.read at he⊢;split
 ·rename_i hc
  obtain⟨n,hn⟩:=Option.isSome_iff_exists.1 hc.1;rw[hn];exact h.ns id n hn
 ·rename_i hc
  rw[if_neg hc]at he;exact I5 he
theorem gq {n:Nd}(h:cE n=true):Sm n∧cB n=true∧∀k∈n.ks,Wf k:=by
 unfold cE at h;simp only[Bool.and_eq_true,decide_eq_true_eq]at h;have hs:=Da h.1 h.2;have a:=N.kL n.es;have b:=N.kM n.ss;obtain⟨h1,h2⟩:=h;unfold dZ at h2;cases hl:n.leaf
 ·rw[hl,if_neg (by simp)]at h2;obtain⟨e1,e2,e3,e4,e5⟩:=(N.fE hl).1 h1;have hk:∀k∈n.ks,2<=k∧k<=4294967295:=fun k hk=>N.mR.1 (N.wB e4 hk);have z:cP n.es=0:=by rw[e1];rfl
  refine⟨hs,?_,fun k hk'=>Wf.of_lt (by have:=hk k hk';omega) (hk k hk').2⟩;unfold cB;simp only[Bool.and_eq_true,decide_eq_true_eq,List.all_eq_true];refine⟨⟨⟨⟨⟨?_,?_⟩,?_⟩,?_⟩,?_⟩,fun k hk'=>?_⟩
  ·rw[e1];simp
  ·omega
  ·omega
  ·omega
  ·omega
  ·have:=hk k hk';omega
 ·rw[hl,if_pos rfl]at h2;obtain⟨e1,e2,_⟩:=(N.fR hl).1 h1;refine⟨hs,?_,fun k hk'=>by rw[e1]at hk';cases hk'⟩;unfold cB;rw[e1,e2];simp only[Bool.and_eq_true,decide_eq_true_eq,List.all_eq_true];refine⟨⟨⟨⟨⟨?_,?_⟩,?_⟩,?_⟩,?_⟩,fun k hk'=>absurd hk' List.not_mem_nil⟩
  ·omega
  ·simp
  ·simp
  ·omega
  ·simp[bW]
theorem fe {n:Nd}(h:cB n=true):Sm n∧n.ks.length<=500∧n.es.length<=500∧n.ss.length<=500∧∀k∈n.ks,Wf k:=by
 unfold cB at h;simp only[Bool.and_eq_true,decide_eq_true_eq,List.all_eq_true]at h;obtain⟨⟨⟨⟨⟨h1,h2⟩,h3⟩,h4⟩,h5⟩,h6⟩:=h;exact⟨⟨by omega,by omega,by omega,by omega,by omega⟩,h2,h1,h3,fun k hk=>Wf.of_lt (h6 k hk).1 (h6 k hk).2⟩
end
end Go.Proofs.YtdcpfbidcpfboaaGreatDoor
