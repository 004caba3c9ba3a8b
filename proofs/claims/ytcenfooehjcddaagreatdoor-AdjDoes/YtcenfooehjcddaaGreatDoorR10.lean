/- Walks of the package cowtree and of what it stands on: lemmas, made short. -/
import Derived.Test.YtcenfooehjcddaaGreatDoorR9
import Derived.Test.YtcenfooehjcddaaGreatDoorR6
import Derived.Shelf.SlIterI.Nil
import Derived.Shelf.SortM.Plain
import Derived.Shelf.SortM.SortNone
import Derived.Ground.GgzProg
import Derived.Ground.SlgmProg
import Derived.Shelf.SlGeneric
import Derived.Test.YtcenfooehjcddaaGreatDoorProg
import Derived.Test.YtcenfooehjcddaaGreatDoorR4
import Derived.Deep.LoopGhost
set_option maxHeartbeats 16000000
set_option maxRecDepth 100000
set_option linter.unusedVariables false
set_option linter.unusedSimpArgs false
namespace Go.Proofs.YtcenfooehjcddaaGreatDoor
open Go.Shelf Go.RowKit Go.Lib Go.Sort
section
theorem Tl (v:Value)(l:List Pr)(w:World)(h:Row ax 2 w v l)(hl:l.length<=100000):Calls Tryz.prog 79 #[v] w (jK w (pE l)):=(Ah v l w h hl).mono fun _ _ h=>vP h
theorem OE (va vb:Value)(a b:List Pr)(w:World)(ha:Row ax 2 w va a)(hb:Row ax 2 w vb b)(hl:a.length+b.length<=100000):
  Calls Tryz.prog 159 #[va,vb] w (jK w (Di a b)):=by
 have B0:Hid (Below w.heap.size w (w.alloc (.cells #[va,vb] 108))):=(Below.refl _ w).alloc (Nat.le_refl _) _;have hz:(w.alloc (.cells #[va,vb] 108)).heap.size=w.heap.size+1:=by simp
 have C:Hid (Calls Tryz.prog 191 #[.slice (some ⟨w.heap.size,0,none⟩) 2 2] (w.alloc (.cells #[va,vb] 108)) fun e w'=>∃v',e=.returned v'∧Own ax 2 (w.heap.size+1) w' v' (a++b)∧Below (w.heap.size+1) (w.alloc (.cells #[va,vb] 108)) w'):=by
  have:=Ci w.heap.size va vb a b (w.alloc (.cells #[va,vb] 108)) (Cl.new _ _ _) (ha.below B0.out) (hb.below B0.out) hl;rw[hz]at this;exact this
 have hl2:(a++b).length<=100000:=by simp;omega
 obtain⟨aa,ca,rfl,_⟩:=ha;obtain⟨ab,cb,rfl,_⟩:=hb;go_enter Tryz.func159,Tryz.ntmps159
 go_wp2_with (go_at_call 191;refine Calls.mono C.out ?_;rintro e w1 ⟨v1,rfl,ho1,hb1⟩;have N:Hid (Calls Tryz.prog 79 #[v1] w1 (jK w1 (pE (a++b)))):=Tl v1 (a++b) w1 ho1.row hl2;clear ho1)
 go_wp2_with (go_at_call 79;refine Calls.mono N.out ?_;rintro e w2 ⟨gR,n2,c2,rfl,r2,hb2⟩)
 go_ret;exact⟨_,_,_,rfl,r2.mono (by have:=hb1.size;omega),(B0.out.trans (hb1.mono (by omega))).trans (hb2.mono (by have:=hb1.size;omega))⟩
theorem Tm (va vb:Value)(a b:List Pr)(w:World)(ha:Row ax 2 w va a)(hb:Row ax 2 w vb b)(hl:a.length+b.length<=50000):
  Calls Tryz.prog 56 #[va,vb] w (jK w (uY a b)):=by
 have N1:Hid (Calls Tryz.prog 79 #[va] w (Gives w (pE a))):=JY va a w ha (by omega);have RB:Aside (Row ax 2 w vb b):=hb;have l1:=rO a;have l2:=rO b;obtain⟨aa,ca,rfl,_⟩:=ha;obtain⟨ab,cb,rfl,_⟩:=hb;go_enter Tryz.func56,Tryz.ntmps56
 go_wp2_with fail
 refine Calls.mono N1.out ?_;rintro e w1 ⟨um,n1,c1,rfl,r1,b1⟩;have N2:Hid (Calls Tryz.prog 79 #[.slice ab b.length cb] w1 (Gives w1 (pE b))):=JY _ b w1 (RB.out.below b1) (by omega);have R1:Aside (Row ax 2 w1 (.slice um n1 c1) (pE a)):=r1;have B1:Hid (Below w.heap.size w w1):=b1;clear r1 b1 N1 RB
 go_wp2_with fail
 refine Calls.mono N2.out ?_;rintro e w2 ⟨gR,n2,c2,rfl,r2,b2⟩;have M:Hid (Calls Tryz.prog 78 #[.slice um n1 c1,.slice gR n2 c2] w2 (jK w2 (uY (pE a) (pE b)))):=(JU _ _ _ _ w2 (R1.out.below b2) r2 (jX a) (jX b) (by omega)).mono fun _ _ h=>vP h;have B2:Hid (Below w.heap.size w w2):=B1.out.trans (b2.mono B1.out.size);clear r2 b2 N2 R1 B1
 go_wp2_with fail
 refine Calls.mono M.out ?_;rintro e w3 ⟨wZ,n3,c3,rfl,r3,b3⟩;rw[Rv]at r3;go_wp2;go_ret;exact⟨_,_,_,rfl,r3.mono B2.out.size,B2.out.trans (b3.mono B2.out.size)⟩
theorem Wx (va:Value)(a:List Pr)(n:Int)(w:World)(ha:Row ax 2 w va a)(hl:a.length<=50000):
  Calls Tryz.prog 126 #[va,.int .i64 n] w (jK w (Di a [(n,n)])):=by
 have RA:Aside (Row ax 2 w va a):=ha;have C:Hid (Calls Tryz.prog 160 #[.int .i64 n] w fun e w'=>∃v,e=.returned v∧Row ax 2 w' v [(n,n)]∧Below w.heap.size w w'):=Bb n w;obtain⟨aa,ca,rfl,_⟩:=ha;go_enter Tryz.func126,Tryz.ntmps126
 go_wp2_with fail
 refine Calls.mono C.out ?_;rintro e w1 ⟨v1,rfl,r1,b1⟩;have N:Hid (Calls Tryz.prog 159 #[.slice aa a.length ca,v1] w1 (jK w1 (Di a [(n,n)]))):=OE _ _ a [(n,n)] w1 (RA.out.below b1) r1 (by simp;omega);have B1:Hid (Below w.heap.size w w1):=b1;obtain⟨a1,c1,rfl,_⟩:=id r1;clear r1 b1 C
 go_wp2_with fail
 refine Calls.mono N.out ?_;rintro e w2 ⟨gR,n2,c2,rfl,r2,b2⟩;go_wp2;go_ret;exact⟨_,_,_,rfl,r2.mono B1.out.size,B1.out.trans (b2.mono B1.out.size)⟩
end
section
open Go.ChangeMaps (setBlock)
section
variable {B:Nat}{w0 w:World}{l:List aM}{t f b:Nat}{x:TX}{d:Dk}
theorem qX (w:World):Calls Tryz.prog 158 #[ptr t] w fun e w'=>e=.returned (ptr t)∧w=w':=by
 go_enter Tryz.func158,Tryz.ntmps158;go_wp2;go_ret;exact⟨rfl,rfl⟩
theorem JZ (h:Sep B w0 w (Tx t f x::l))(h2:2<=x.pages):Calls Tryz.prog 169 #[ptr t] w fun e w'=>e=.returned (.int .i64 (x.pages:Int))∧w=w':=by
 obtain⟨v,m,h⟩:=h.iH;obtain⟨ht,q0,q1,q2,q3,qf⟩:=h.fZ;have C:Hid _:=qX (t:=t) w;clear h;generalize x.pages=p at*;go_enter Tryz.func169,Tryz.ntmps169
 go_wp2_with fail
 refine Calls.mono C.out ?_;rintro e w1 ⟨rfl,rfl⟩;clear C;go_wp2;go_ret;exact⟨gW (by omega),rfl⟩
theorem Cj (h:Sep B w0 w (Tx t f x::l)){id:Int}(hk:Wf id):Calls Tryz.prog 125 #[ptr t,.int .i64 id] w fun e w'=>e=.returned (.bool (x.fresh id).isSome)∧Below w.heap.size w w':=by
 obtain⟨v,m,h⟩:=h.iH;obtain⟨ht,q0,q1,q2,q3,qf⟩:=h.fZ;have jd:=h.Qo.Jm hk;have C:Hid _:=qX (t:=t) w;clear h hk;generalize(x.fresh id).getD c0=cc at*;generalize(x.fresh id).isSome=bb at*;obtain⟨cb,ck,cs⟩:=cc;unfold cV at jd;simp only at jd;go_enter Tryz.func125,Tryz.ntmps125
 go_wp2_with fail
 refine Calls.mono C.out ?_;rintro e w1 ⟨rfl,rfl⟩;clear C;have B1:Hid (Below w.heap.size w (w.alloc (.cells #[.bool cb,.int .u8 (ck.toNat:Int),.string cs] 217))):=(Below.refl _ w).alloc (Nat.le_refl _) _;go_wp2;go_ret;exact⟨rfl,B1.out⟩
theorem Ai (h:Sep B w0 w (Tx t f x::l))(hc:Cn x.free):Calls Tryz.prog 186 #[ptr t] w fun e w'=>e=.returned (.tuple #[.int .i64 (Rx x.free),.bool (Ry x.free)])∧Sep B w0 w' (Tx t f ⟨gL x.free,x.pages,x.fresh,x.cnt⟩::l):=by
 obtain⟨fr,p,g,c⟩:=x;simp only at hc⊢;cases fr with
 |nil=>
  have HS:Hid (Sep B w0 w (Tx t f ⟨gL [],p,g,c⟩::l)):=h;obtain⟨v,m,h⟩:=h.iH;obtain⟨ht,q0,q1,q2,q3,qf⟩:=h.fZ;obtain⟨ao,cap,rfl,_⟩:=h.sR.free;clear h;go_enter Tryz.func186,Tryz.ntmps186;go_wp2;go_ret2;exact⟨rfl,HS.out⟩
 |cons r s=>
  obtain⟨v,m,h⟩:=h.iH;obtain⟨ht,q0,q1,q2,q3,qf⟩:=h.fZ;obtain⟨gb,o,cap,rfl,hcap,hg,x0,x1,xf⟩:=h.sR.Th;have q4:=qf 1;obtain⟨a,z⟩:=r;simp only at x0 x1;by_cases haz:a=z
  ·subst haz;have hd:gL ((a,a)::s)=s:=by rw[gy,if_neg (by simp)]
   rw[hd];have ho:=JQ gb o s.length cap hcap;have h1:=(h.sR.JP).sR;generalize(if cap=1 then some (⟨gb,o,none⟩:Addr)else some ⟨gb,o+2,none⟩)=ao at ho h1;have K:Hid (∀nq,((w.drewN nq).cell? ⟨t,1,none⟩=some (.slice (some ⟨gb,o,none⟩) (s.length+1) cap)∧(w.drewN nq).frozen? ⟨t,1,none⟩=false∧t< (w.drewN nq).heap.size)∧Sep B w0 ((w.drewN nq).setCell ⟨t,1,none⟩ (.slice ao s.length (cap-1))) (Tx t f ⟨s,p,g,c⟩::l)):=fun nq=>by
    refine⟨⟨q1,q4,ht⟩,?_⟩;exact Sep.txShut (m:=m) (x:=⟨s,p,g,c⟩) ((h1.drewN nq).tJ (i:=1) (.slice ao s.length (cap-1)))
   clear h h1;go_enter Tryz.func186,Tryz.ntmps186
   go_wp2_with fail
   go_quiet (fail)
   obtain⟨⟨q5,q6,q7⟩,s1⟩:=K.out nq;have S1:Hid _:=s1;clear K s1 q0 q1 q2 q3 qf q4 x0 x1 xf ht hg;generalize w.drewN nq=wq at*;go_wp2;go_ret2;exact⟨rfl,S1.out⟩
  ·have hlt:a<z:=by have:=(bE.1 hc).1.2.1;simp only at this;omega
   have hm:z<=4294967295:=(bE.1 hc).1.2.2;have h0:0<=a:=(bE.1 hc).1.1;have hd:gL ((a,z)::s)=(a+1,z)::s:=by rw[gy,if_pos hlt]
   rw[hd];have hw:wrap64 (a+1)=a+1:=U0 (by omega) (by omega);have K:Hid (∀nq,((w.drewN nq).cell? ⟨gb,o,none⟩=some (.int .i64 a)∧(w.drewN nq).frozen? ⟨gb,o,none⟩=false∧gb< (w.drewN nq).heap.size)∧Sep B w0 ((w.drewN nq).setCell ⟨gb,o,none⟩ (.int .i64 (a+1))) (Tx t f ⟨(a+1,z)::s,p,g,c⟩::l)):=fun nq=>⟨⟨x0,xf,hg⟩,Sep.txShut (m:=m) (x:=⟨(a+1,z)::s,p,g,c⟩) ((h.drewN nq).sR.OC (a':=a+1)).sR⟩;clear h;go_enter Tryz.func186,Tryz.ntmps186
   go_wp2_with fail
   go_quiet (fail)
   obtain⟨⟨q5,q6,q7⟩,s1⟩:=K.out nq;have S1:Hid _:=s1;clear K s1 q0 q1 q2 q3 qf q4 x0 x1 xf ht hg;generalize w.drewN nq=wq at*;go_wp2;go_ret2;exact⟨rfl,S1.out⟩
end
end
section
open Go.ChangeMaps (setBlock)
section
variable {B:Nat}{w0 w:World}{l:List aM}{t f b:Nat}{x:TX}{d:Dk}
def TX.behind (x:TX)(room:Nat):TX:=if room<=x.pages then x else⟨x.free,x.pages+1,x.fresh,x.cnt⟩
theorem xM (h:Sep B w0 w (Tx t f x::File f b d::l))(h2:2<=x.pages)(hp:x.pages<=20000):Calls Tryz.prog 187 #[ptr t] w fun e w'=>e=.returned (.tuple #[.int .i64 (if d.room<=x.pages then 0 else(x.pages:Int)),.bool (!decide (d.room<=x.pages))])∧Sep B w0 w' (Tx t f (x.behind d.room)::File f b d::l):=by
 have CP:Hid _:=JZ h h2;have CR:Hid _:=BG h.sR;have HS:Hid (Sep B w0 w (Tx t f x::File f b d::l)):=h;obtain⟨v,m,h⟩:=h.iH;obtain⟨ht,q0,q1,q2,q3,qf⟩:=h.fZ;have q4:=qf 2;unfold TX.behind;by_cases hr:d.room<=x.pages
 ·have hrz:(d.room:Int)<=(x.pages:Int):=by omega
  simp only[hr,if_true,decide_true,Bool.not_true];clear h hr;generalize d.room=rm at*;generalize x.pages=p at*;go_enter Tryz.func187,Tryz.ntmps187
  go_wp2_with fail
  refine Calls.mono CP.out ?_;rintro e w1 ⟨rfl,rfl⟩;clear CP
  go_wp2_with fail
  refine Calls.mono CR.out ?_;rintro e w1 ⟨rfl,rfl⟩;clear CR;go_wp2;go_ret2;exact⟨rfl,HS.out⟩
 ·have hrz:¬(d.room:Int)<=(x.pages:Int):=by omega
  simp only[hr,if_false,decide_false,Bool.not_false];have S1:Hid (Sep B w0 (w.setCell ⟨t,2,none⟩ (.int .i64 ((x.pages:Int)+1))) (Tx t f ⟨x.free,x.pages+1,x.fresh,x.cnt⟩::File f b d::l)):=by
   have h1:=h.tJ (i:=2) (.int .i64 ((x.pages:Int)+1));refine Sep.txShut (m:=m) (v:=v) (x:=⟨x.free,x.pages+1,x.fresh,x.cnt⟩) ?_;simpa[JR]using h1
  have hw:wrap64 ((x.pages:Int)+1)=(x.pages:Int)+1:=U0 (by omega) (by omega);clear h hr HS;generalize d.room=rm at*;generalize(x.pages:Int)=p at*;go_enter Tryz.func187,Tryz.ntmps187
  go_wp2_with fail
  refine Calls.mono CP.out ?_;rintro e w1 ⟨rfl,rfl⟩;clear CP
  go_wp2_with fail
  refine Calls.mono CR.out ?_;rintro e w1 ⟨rfl,rfl⟩;clear CR;go_wp2;go_ret2;exact⟨rfl,S1.out⟩
theorem Sep.J0 (h:Sep B w0 w (Tx t f x::l)){k:Int}(hk:Wf k)(c:C3)(hn:x.cnt<1000000):∃m w',w.cell? ⟨t,3,none⟩=some (.map (some m))∧t<w.heap.size∧(Instr.mapUpdate 113 (.map (some m)) (.int .i64 k) (cV c)).run Tryz.prog w=.ok () w'∧Sep B w0 w' (Tx t f ⟨x.free,x.pages,gY x.fresh k c,x.cnt+1⟩::l):=by
 obtain⟨v,m,h⟩:=h.iH;obtain⟨ht,q0,q1,q2,q3,qf⟩:=h.fZ;obtain⟨w',hr,h'⟩:=h.Qo.SG hk c hn;exact⟨m,w',q3,ht,hr,Sep.txShut (x:=⟨x.free,x.pages,gY x.fresh k c,x.cnt+1⟩) h'.VO⟩
theorem Wf.of_lt {n:Int}(h0:0<=n)(h1:n<=4294967295):Wf n:=⟨by omega,by omega⟩
theorem J4 (h:Sep B w0 w (Tx t f x::File f b d::l))(ok:x.Ok d.room)(hr:d.room<=16384)(hn:x.cnt<1000000):Calls Tryz.prog 151 #[ptr t] w fun e w'=>e=.returned (.tuple #[.int .i64 (x.alloc d.room).1.1,.int .i64 (x.alloc d.room).1.2])∧Sep B w0 w' (Tx t f (x.alloc d.room).2::File f b d::l):=by
 have C:Hid _:=qX (t:=t) w;have CL:Hid _:=Ai h ok.cn;obtain⟨fr,p,g,c⟩:=x;cases fr with
 |cons r s=>
  have hk:Wf r.1:=Wf.of_lt (bE.1 ok.cn).1.1 (by have:=(bE.1 ok.cn).1;omega);have K:Hid (∀u,Sep B w0 u (Tx t f ⟨gL (r::s),p,g,c⟩::File f b d::l)->∃m w',u.cell? ⟨t,3,none⟩=some (.map (some m))∧t<u.heap.size∧(Instr.mapUpdate 113 (.map (some m)) (.int .i64 r.1) (.agg #[.bool false,.int .u8 0,.string ⟨#[]⟩])).run Tryz.prog u=.ok () w'∧Sep B w0 w' (Tx t f ⟨gL (r::s),p,gY g r.1 c0,c+1⟩::File f b d::l)):=fun u hu=>hu.J0 hk c0 hn;simp only[TX.alloc];have e1:Rx (r::s)=r.1:=rfl;have e2:Ry (r::s)=true:=rfl;simp only[e1,e2]at CL;clear h ok hk e1 e2;generalize r.1=id at*;generalize gL (r::s)=fr2 at*;go_enter Tryz.func151,Tryz.ntmps151
  go_wp2_with fail
  refine Calls.mono C.out ?_;rintro e w1 ⟨rfl,rfl⟩;clear C
  go_wp2_with fail
  refine Calls.mono CL.out ?_;rintro e w2 ⟨rfl,s2⟩;obtain⟨m,w3,q3,ht,hrun,s3⟩:=K.out w2 s2;have S3:Hid (Sep B w0 w3 (Tx t f ⟨fr2,p,gY g id c0,c+1⟩::File f b d::l)):=s3;clear CL s2 s3 K;go_wp2;go_ret2;exact⟨rfl,S3.out⟩
 |nil=>
  have h2:=ok.p2;have h3:=ok.pr;simp only at h2 h3;have CB:Hid _:=fun u hu=>xM (w:=u) (x:=⟨[],p,g,c⟩) (B:=B) (w0:=w0) (t:=t) (f:=f) (b:=b) (d:=d) (l:=l) hu h2 (by simp only;omega);have e1:Rx []=0:=rfl;have e2:Ry []=false:=rfl;have e3:gL []=[]:=rfl;simp only[e1,e2,e3]at CL;simp only[TX.alloc];unfold TX.behind at CB;simp only at CB;by_cases hrm:d.room<=p
  ·simp only[hrm,if_true,decide_true,Bool.not_true]at CB⊢;clear h ok e1 e2 e3 h2 h3 hrm;go_enter Tryz.func151,Tryz.ntmps151
   go_wp2_with fail
   refine Calls.mono C.out ?_;rintro e w1 ⟨rfl,rfl⟩;clear C
   go_wp2_with fail
   refine Calls.mono CL.out ?_;rintro e w2 ⟨rfl,s2⟩;have C2:Hid _:=CB.out w2 s2;clear CL s2 CB
   go_wp2_with fail
   refine Calls.mono C2.out ?_;rintro e w3 ⟨rfl,s3⟩;have S3:Hid (Sep B w0 w3 (Tx t f ⟨[],p,g,c⟩::File f b d::l)):=s3;clear C2 s3;go_wp2;go_ret2;exact⟨rfl,S3.out⟩
  ·simp only[hrm,if_false,decide_false,Bool.not_false]at CB⊢;have K:Hid (∀u,Sep B w0 u (Tx t f ⟨[],p+1,g,c⟩::File f b d::l)->∃m w',u.cell? ⟨t,3,none⟩=some (.map (some m))∧t<u.heap.size∧(Instr.mapUpdate 113 (.map (some m)) (.int .i64 (p:Int)) (.agg #[.bool false,.int .u8 0,.string ⟨#[]⟩])).run Tryz.prog u=.ok () w'∧Sep B w0 w' (Tx t f ⟨[],p+1,gY g p c0,c+1⟩::File f b d::l)):=fun u hu=>hu.J0 (Wf.of_lt (by omega) (by omega)) c0 hn;clear h ok e1 e2 e3 h2 h3 hrm;go_enter Tryz.func151,Tryz.ntmps151
   go_wp2_with fail
   refine Calls.mono C.out ?_;rintro e w1 ⟨rfl,rfl⟩;clear C
   go_wp2_with fail
   refine Calls.mono CL.out ?_;rintro e w2 ⟨rfl,s2⟩;have C2:Hid _:=CB.out w2 s2;clear CL s2 CB
   go_wp2_with fail
   refine Calls.mono C2.out ?_;rintro e w3 ⟨rfl,s3⟩;obtain⟨m,w4,q3,ht,hrun,s4⟩:=K.out w3 s3;have S4:Hid (Sep B w0 w4 (Tx t f ⟨[],p+1,gY g p c0,c+1⟩::File f b d::l)):=s4;clear C2 s3 s4 K;go_wp2;go_ret2;exact⟨rfl,S4.out⟩
theorem Qv (h:Sep B w0 w (Tx t f x::l)){id:Int}(hk:Wf id)(hl:x.free.length<=20000):Calls Tryz.prog 93 #[ptr t,.int .i64 id] w fun e w'=>e=.returned (.tuple #[])∧Sep B w0 w' (Tx t f (x.drop id)::l):=by
 have Ej:=Cj h hk;have HS:Hid (Sep B w0 w (Tx t f x::l)):=h;unfold TX.drop;by_cases hi:(x.fresh id).isSome=true
 ·rw[if_pos hi];rw[hi]at Ej;have CF:Hid _:=Ej;have K:Hid (∀u,Sep B w0 u (Tx t f x::l)->∃v m w2,u.cell? ⟨t,3,none⟩=some (.map (some m))∧t<u.heap.size∧(Builtin.delete_ #[113,3] 0 #[.map (some m),.int .i64 id]).run Tryz.prog u=.ok (.tuple #[]) w2∧
    Sep B w0 w2 (aF t (JR f v x.pages m)::gS v x.free::nH m (tC x.fresh id) x.cnt::l)):=fun u hu=>by
   obtain⟨v,m,h⟩:=hu.iH;obtain⟨ht,q0,q1,q2,q3,qf⟩:=h.fZ;obtain⟨w2,hrun,h2⟩:=h.Qo.SH hk 0;exact⟨v,m,w2,q3,ht,hrun,h2.VO⟩
  clear h Ej;go_enter Tryz.func93,Tryz.ntmps93
  go_wp2_with fail
  refine Calls.mono CF.out ?_;rintro e w1 ⟨rfl,b1⟩;obtain⟨v,m,w2,q3,ht,hrun,h3⟩:=K.out w1 (HS.out.below b1);obtain⟨ht',q0',q1',q2',q3',qf'⟩:=h3.fZ;have q4:=qf' 1;have A:Hid _:=Wx v x.free id w2 h3.sR.free.row (by omega);have K2:Hid (∀ao n c u,Own ax 2 w2.heap.size u (.slice ao n c) (Di x.free [(id,id)])->Below w2.heap.size w2 u->Sep B w0 (u.setCell ⟨t,1,none⟩ (.slice ao n c)) (Tx t f ⟨Di x.free [(id,id)],x.pages,tC x.fresh id,x.cnt⟩::l)):=fun ao n c u ho hb=>by
   have k1:=(h3.sR.drop.Eh hb ho).sR.tJ (i:=1) (.slice ao n c);exact Sep.txShut (x:=⟨Di x.free [(id,id)],x.pages,tC x.fresh id,x.cnt⟩) k1
  obtain⟨ao,cap,rfl,_⟩:=h3.sR.free;have hsz:Hid (t<w2.heap.size):=ht';clear h3 CF K HS b1
  go_wp2_with fail
  refine Calls.mono A.out ?_;rintro e w3 ⟨wZ,n3,c3,rfl,r3,b3⟩;have S3:Hid _:=K2.out _ _ _ _ r3 b3;have q5:w3.frozen? ⟨t,1,none⟩=false:=(b3.frozen (p:=⟨t,1,none⟩) hsz.out).trans q4;have q6:=(b3.cell (p:=⟨t,1,none⟩) hsz.out).trans q1';have q7:t<w3.heap.size:=Nat.lt_of_lt_of_le hsz.out b3.size;clear A K2 r3 b3;go_wp2
  go_end0
  exact⟨rfl,S3.out⟩
 ·have hf:(x.fresh id).isSome=false:=by simpa using hi
  rw[if_neg hi];rw[hf]at Ej;have CF:Hid _:=Ej;clear h Ej hi hf;go_enter Tryz.func93,Tryz.ntmps93
  go_wp2_with fail
  refine Calls.mono CF.out ?_;rintro e w1 ⟨rfl,b1⟩;have S1:Hid (Sep B w0 w1 (Tx t f x::l)):=HS.out.below b1;clear CF b1;go_wp2;refine bodyPost_ret (results_none rfl _ _ _) rfl ?_;exact⟨rfl,S1.out⟩
theorem ZB (h:Sep B w0 w (Tx t f x::l)){id:Int}(hk:Wf id)(kind:UInt8)(s:ByteArray)(hs:s.size<=maxLen)(hn:x.cnt<1000000):Calls Tryz.prog 97 #[ptr t,.int .i64 id,.int .u8 (kind.toNat:Int),.string s] w fun e w'=>e=.returned (.int .i64 (x.put id kind s).1)∧Sep B w0 w' (Tx t f (x.put id kind s).2::l):=by
 have Ej:=Cj h hk;have HS:Hid (Sep B w0 w (Tx t f x::l)):=h;unfold TX.put;by_cases hi:(x.fresh id).isSome=true
 ·rw[if_pos hi];rw[hi]at Ej;have CF:Hid _:=Ej;by_cases hz:240<s.size
  ·have hz2:(240:Int)< (s.size:Int):=by omega
   rw[if_pos hz];clear h Ej hi hz;go_enter Tryz.func97,Tryz.ntmps97
   go_wp2_with fail
   refine Calls.mono CF.out ?_;rintro e w1 ⟨rfl,b1⟩;have S1:Hid (Sep B w0 w1 (Tx t f x::l)):=HS.out.below b1;clear CF b1;go_wp2;go_ret;exact⟨rfl,S1.out⟩
  ·have hz2:¬(240:Int)< (s.size:Int):=by omega
   rw[if_neg hz];have K:Hid (∀u,Sep B w0 u (Tx t f x::l)->∃m w',u.cell? ⟨t,3,none⟩=some (.map (some m))∧t<u.heap.size∧(Instr.mapUpdate 113 (.map (some m)) (.int .i64 id) (.agg #[.bool true,.int .u8 (kind.toNat:Int),.string s])).run Tryz.prog u=.ok () w'∧Sep B w0 w' (Tx t f ⟨x.free,x.pages,gY x.fresh id ⟨true,kind,s⟩,x.cnt+1⟩::l)):=fun u hu=>hu.J0 hk ⟨true,kind,s⟩ hn;clear h Ej hi hz;go_enter Tryz.func97,Tryz.ntmps97
   go_wp2_with fail
   refine Calls.mono CF.out ?_;rintro e w1 ⟨rfl,b1⟩;obtain⟨m,w2,q3,ht,hrun,s2⟩:=K.out w1 (HS.out.below b1);have S2:Hid _:=s2;clear CF b1 K HS s2;go_wp2;go_ret;exact⟨rfl,S2.out⟩
 ·have hf:(x.fresh id).isSome=false:=by simpa using hi
  rw[if_neg hi];rw[hf]at Ej;have CF:Hid _:=Ej;clear h Ej hi hf;go_enter Tryz.func97,Tryz.ntmps97
  go_wp2_with fail
  refine Calls.mono CF.out ?_;rintro e w1 ⟨rfl,b1⟩;have S1:Hid (Sep B w0 w1 (Tx t f x::l)):=HS.out.below b1;clear CF b1;go_wp2;go_ret;exact⟨rfl,S1.out⟩
end
end
end Go.Proofs.YtcenfooehjcddaaGreatDoor
namespace Go.Proofs.YtcenfooehjcddaaGreatDoor
section
open Go.Shelf Go.RowKit Go.Lib Go.Sort Go.Maps
open Go.ChangeMaps (setBlock)
section
variable {B:Nat}{w0 w:World}{l:List aM}{t f b:Nat}{x:TX}{d:Dk}
theorem Wy (w:World):(Instr.makeMap 113 none).run Tryz.prog w=.ok (.map (some w.heap.size)) (w.alloc (.map #[] 0)):=by kernel_rfl
theorem ZC (h:Sep B w0 w (File f b d::l))(hm:d.room<=16384){v:Value}{fr:List Pr}(hr:Row ax 2 w v fr)(hl:fr.length<=40000)(pages:Int):
  Calls Tryz.prog 28 #[ptr f,v,.int .i64 pages] w fun e w'=>∃t,e=.returned (ptr t)∧Sep B w0 w' (Tx t f (TX.new fr pages d.room)::File f b d::l):=by
 have CR:Hid _:=BG h;have hpo:Hid ((cR pages d.room:Int)=max 2 (min pages (d.room:Int))):=by show _=_;unfold cR;omega
 have hP2:(2:Int)<=max 2 (min pages (d.room:Int)):=by omega
 have hP3:max 2 (min pages (d.room:Int))<=16384:=by omega
 obtain⟨X,hX⟩:∃X,TX.new fr pages d.room=X:=⟨_,rfl⟩;have HX:Hid (X=⟨uY fr [(2,(cR pages d.room:Int)-1)],cR pages d.room,fun _=>none,0⟩):=hX.symm;rw[hX];clear hX;have K:Hid (∀P:Int,(cR pages d.room:Int)=P->∀W:World,W=w.alloc (.cells #[.int .i64 2,.int .i64 (P-1)] 112)->Calls Tryz.prog 56 #[v,.slice (some ⟨w.heap.size,0,none⟩) 1 1] W (jK W (uY fr [(2,(cR pages d.room:Int)-1)]))):=by
  intro P hP W hW;rw[hP];refine Tm _ _ _ _ W ?_ ?_ (by simp;omega)
  ·rw[hW];exact hr.below ((Below.refl _ _).alloc (Nat.le_refl _) _)
  ·rw[hW];exact row_one (Cl.new _ _ _)
 have S:Hid (∀W,Below w.heap.size w W->Sep B w0 W (File f b d::l)):=fun W hb=>h.below hb;clear h;obtain⟨av,cv,rfl,_⟩:=hr;go_enter Tryz.func28,Tryz.ntmps28
 go_wp2_with fail
 refine Calls.mono CR.out ?_;rintro e w1 ⟨rfl,rfl⟩;clear CR
 go_wp2_with fail
 refine Calls.mono (K.out _ hpo.out _ rfl) ?_;rintro e w2 ⟨gR,n2,c2,rfl,r2,b2⟩;have s2:=(S.out _ ((Below.refl _ _).alloc (Nat.le_refl _) _)).Eh b2 r2;have s3:=s2.SD.sR.aO (JR f (.slice gR n2 c2) (cR pages d.room) w2.heap.size);have S4:=Sep.txShut (x:=⟨uY fr [(2,(cR pages d.room:Int)-1)],cR pages d.room,fun _=>none,0⟩) s3;rw[<-HX.out]at S4;unfold JR at S4;rw[hpo.out,show(w2.alloc (.map #[] 0)).heap.size=w2.heap.size+1 by simp]at S4;have S5:Hid _:=S4;have hmk:=Wy w2;clear s2 s3 S K r2 b2 hpo HX S4;generalize max 2 (min pages (d.room:Int))=P at*;go_wp2;go_ret;exact⟨_,rfl,S5.out⟩
end
end
end Go.Proofs.YtcenfooehjcddaaGreatDoor
section
namespace Go.Proofs
open Go.Shelf
def Tryz.vR:Go.Shelf.Ren:=⟨fun|7=>95|10=>129|n=>n,fun|23=>138|26=>3|3=>170|28=>178|0=>0|27=>177|33=>75|4=>4|n=>n,fun|n=>n⟩
theorem Tryz.Qw:Go.Proofs.SlLaysZI.n7 Tryz.prog Tryz.vR:={
 mixed:=by kernel_rfl
 f7:=⟨Tryz.f95.name,by decide,Tryz.func95.trans (congrArg some (by kernel_rfl))⟩
 f10:=⟨Tryz.f129.name,by decide,Tryz.func129.trans (congrArg some (by kernel_rfl))⟩
 t0:=Tryz.underlying0
 a0:=Tryz.isAgg0
 z0:=Tryz.sizeOf0
 v0:=Tryz.zeroValue0
 t4:=Tryz.underlying4
 a4:=Tryz.isAgg4
 z4:=Tryz.sizeOf4
 v4:=Tryz.zeroValue4
 t23:=Tryz.underlying138
 a23:=Tryz.isAgg138
 z23:=Tryz.sizeOf138
 v23:=Tryz.zeroValue138
 t26:=Tryz.underlying3
 a26:=Tryz.isAgg3
 z26:=Tryz.sizeOf3
 v26:=Tryz.zeroValue3
 t27:=Tryz.underlying177
 a27:=Tryz.isAgg177
 z27:=Tryz.sizeOf177
 v27:=Tryz.zeroValue177
 t28:=Tryz.underlying178
 a28:=Tryz.isAgg178
 z28:=Tryz.sizeOf178
 v28:=Tryz.zeroValue178
 t33:=Tryz.underlying75
 a33:=Tryz.isAgg75
 z33:=Tryz.sizeOf75
 v33:=Tryz.zeroValue75}
def Tryz.pL:Go.Shelf.Ren:=⟨fun|6=>94|8=>127|9=>128|11=>161|13=>163|12=>162|23=>201|24=>202|14=>192|15=>193|16=>194|17=>195|18=>196|19=>197|20=>198|21=>199|22=>200|25=>222|26=>223|27=>224|28=>225|29=>226|30=>175|31=>238|n=>n,fun|26=>3|28=>178|24=>85|0=>0|3=>3|37=>151|48=>193|50=>196|4=>4|40=>274|39=>273|45=>144|5=>5|9=>9|51=>297|55=>301|57=>315|58=>316|33=>75|n=>n,fun|n=>n⟩
theorem Tryz.OG:Go.Proofs.SlLaysZI.n6 Tryz.prog Tryz.pL:={
 mixed:=by kernel_rfl
 f6:=⟨Tryz.f94.name,by decide,Tryz.func94.trans (congrArg some (by kernel_rfl))⟩
 f8:=⟨Tryz.f127.name,by decide,Tryz.func127.trans (congrArg some (by kernel_rfl))⟩
 f11:=⟨Tryz.f161.name,by decide,Tryz.func161.trans (congrArg some (by kernel_rfl))⟩
 t0:=Tryz.underlying0
 a0:=Tryz.isAgg0
 z0:=Tryz.sizeOf0
 v0:=Tryz.zeroValue0
 t24:=Tryz.underlying85
 a24:=Tryz.isAgg85
 z24:=Tryz.sizeOf85
 v24:=Tryz.zeroValue85
 t26:=Tryz.underlying3
 a26:=Tryz.isAgg3
 z26:=Tryz.sizeOf3
 v26:=Tryz.zeroValue3
 t28:=Tryz.underlying178
 a28:=Tryz.isAgg178
 z28:=Tryz.sizeOf178
 v28:=Tryz.zeroValue178
 i26:=by kernel_rfl}
def Tryz.Ge:Go.Shelf.Ren:=⟨fun|5=>128|8=>163|7=>162|19=>201|20=>202|10=>192|11=>193|12=>194|13=>195|14=>196|15=>197|16=>198|17=>199|18=>200|30=>222|31=>223|32=>224|33=>225|34=>226|35=>175|40=>238|n=>n,fun|23=>85|25=>3|3=>3|32=>151|22=>85|0=>0|44=>193|46=>196|4=>4|36=>274|35=>273|41=>144|5=>5|9=>9|53=>297|57=>301|63=>315|64=>316|n=>n,fun|n=>n⟩
theorem Tryz.Qx:Go.Proofs.SlLaysM.n5 Tryz.prog Tryz.Ge:={
 mixed:=by kernel_rfl
 f5:=⟨Tryz.f128.name,by decide,Tryz.func128.trans (congrArg some (by kernel_rfl))⟩
 f7:=⟨Tryz.f162.name,by decide,Tryz.func162.trans (congrArg some (by kernel_rfl))⟩
 f8:=Tryz.func163.trans (congrArg some (by kernel_rfl))
 f10:=⟨Tryz.f192.name,by decide,Tryz.func192.trans (congrArg some (by kernel_rfl))⟩
 f11:=⟨Tryz.f193.name,by decide,Tryz.func193.trans (congrArg some (by kernel_rfl))⟩
 f12:=⟨Tryz.f194.name,by decide,Tryz.func194.trans (congrArg some (by kernel_rfl))⟩
 f13:=⟨Tryz.f195.name,by decide,Tryz.func195.trans (congrArg some (by kernel_rfl))⟩
 f14:=⟨Tryz.f196.name,by decide,Tryz.func196.trans (congrArg some (by kernel_rfl))⟩
 f15:=⟨Tryz.f197.name,by decide,Tryz.func197.trans (congrArg some (by kernel_rfl))⟩
 f16:=⟨Tryz.f198.name,by decide,Tryz.func198.trans (congrArg some (by kernel_rfl))⟩
 f17:=⟨Tryz.f199.name,by decide,Tryz.func199.trans (congrArg some (by kernel_rfl))⟩
 f18:=⟨Tryz.f200.name,by decide,Tryz.func200.trans (congrArg some (by kernel_rfl))⟩
 f19:=Tryz.func201.trans (congrArg some (by kernel_rfl))
 f20:=Tryz.func202.trans (congrArg some (by kernel_rfl))
 f30:=⟨Tryz.f222.name,by decide,Tryz.func222.trans (congrArg some (by kernel_rfl))⟩
 f31:=Tryz.func223.trans (congrArg some (by kernel_rfl))
 f32:=Tryz.func224.trans (congrArg some (by kernel_rfl))
 f33:=⟨Tryz.f225.name,by decide,Tryz.func225.trans (congrArg some (by kernel_rfl))⟩
 f34:=⟨Tryz.f226.name,by decide,Tryz.func226.trans (congrArg some (by kernel_rfl))⟩
 f35:=⟨Tryz.f175.name,by decide,Tryz.func175.trans (congrArg some (by kernel_rfl))⟩
 f40:=⟨Tryz.f238.name,by decide,Tryz.func238.trans (congrArg some (by kernel_rfl))⟩
 t0:=Tryz.underlying0
 a0:=Tryz.isAgg0
 z0:=Tryz.sizeOf0
 v0:=Tryz.zeroValue0
 t3:=Tryz.underlying3
 a3:=Tryz.isAgg3
 z3:=Tryz.sizeOf3
 v3:=Tryz.zeroValue3
 t4:=Tryz.underlying4
 a4:=Tryz.isAgg4
 z4:=Tryz.sizeOf4
 v4:=Tryz.zeroValue4
 t5:=Tryz.underlying5
 a5:=Tryz.isAgg5
 z5:=Tryz.sizeOf5
 v5:=Tryz.zeroValue5
 t9:=Tryz.underlying9
 a9:=Tryz.isAgg9
 z9:=Tryz.sizeOf9
 v9:=Tryz.zeroValue9
 t22:=Tryz.underlying85
 a22:=Tryz.isAgg85
 z22:=Tryz.sizeOf85
 v22:=Tryz.zeroValue85
 t23:=Tryz.underlying85
 a23:=Tryz.isAgg85
 z23:=Tryz.sizeOf85
 v23:=Tryz.zeroValue85
 t25:=Tryz.underlying3
 a25:=Tryz.isAgg3
 z25:=Tryz.sizeOf3
 v25:=Tryz.zeroValue3
 t32:=Tryz.underlying151
 a32:=Tryz.isAgg151
 z32:=Tryz.sizeOf151
 v32:=Tryz.zeroValue151
 t35:=Tryz.underlying273
 a35:=Tryz.isAgg273
 z35:=Tryz.sizeOf273
 v35:=Tryz.zeroValue273
 t36:=Tryz.underlying274
 a36:=Tryz.isAgg274
 z36:=Tryz.sizeOf274
 v36:=Tryz.zeroValue274
 t41:=Tryz.underlying144
 a41:=Tryz.isAgg144
 z41:=Tryz.sizeOf144
 v41:=Tryz.zeroValue144
 t44:=Tryz.underlying193
 a44:=Tryz.isAgg193
 z44:=Tryz.sizeOf193
 v44:=Tryz.zeroValue193
 t46:=Tryz.underlying196
 a46:=Tryz.isAgg196
 z46:=Tryz.sizeOf196
 v46:=Tryz.zeroValue196
 t53:=Tryz.underlying297
 a53:=Tryz.isAgg297
 z53:=Tryz.sizeOf297
 v53:=Tryz.zeroValue297
 t57:=Tryz.underlying301
 a57:=Tryz.isAgg301
 z57:=Tryz.sizeOf301
 v57:=Tryz.zeroValue301
 t63:=Tryz.underlying315
 a63:=Tryz.isAgg315
 z63:=Tryz.sizeOf315
 v63:=Tryz.zeroValue315
 t64:=Tryz.underlying316
 a64:=Tryz.isAgg316
 z64:=Tryz.sizeOf316
 v64:=Tryz.zeroValue316}
end Go.Proofs
end
namespace Go.Proofs.YtcenfooehjcddaaGreatDoor
section
open Go.Shelf Go.RowKit Go.Maps Go.Sort
theorem Tn (m:Nat):AnyZI.SortsIn Tryz.prog Tryz.pL Fence.wide m:=
 ⟨fun blk off cap ss W hH hblk hsz=>callsIn_wide.2 (AnyM.slices_Sort_int Tryz.Qx blk off cap ss W hH hblk hsz),
  fun p cap W=>callsIn_wide.2 (AnyM.slices_Sort_int_none Tryz.Qx p cap W)⟩
section
variable {B:Nat}{w0 w:World}{l:List aM}{t f b:Nat}{x:TX}{d:Dk}
end
end
end Go.Proofs.YtcenfooehjcddaaGreatDoor
namespace Go.Proofs.YtcenfooehjcddaaGreatDoor
open Go.Shelf Go.RowKit Go.Lib Go.Sort
section
def y0:TX:=TX.new [(3,3)] 5 6
def y1:(Int×Int)×TX:=y0.alloc 6
def y2:(Int×Int)×TX:=y1.2.alloc 6
def y3:(Int×Int)×TX:=y2.2.alloc 6
def y4:TX:=y3.2.drop 3
def y5:(Int×Int)×TX:=y4.alloc 6
end
section
section
variable {B:Nat}{w0 w w':World}{l:List aM}{v:Value}{s:List Pr}
end
section
variable {B:Nat}{w0 w:World}{l:List aM}
end
section
variable {B:Nat}{w0 w w':World}{l:List aM}
end
section
variable {ops:Array Oper}{rest:List Oper}{o:Oper}{a:Act}{Q:Exit->Act->World->Prop}{B:Nat}{w0 w:World}{l:List aM}
end
section
variable {ops:Array Oper}{o:Oper}{a:Act}{K:Act->World->Prop}{Q:Exit->Act->World->Prop}{E:Prop}{B:Nat}{w0 w:World}{l:List aM}
end
end
section
open Go.ChangeMaps (setBlock)
section
variable {B:Nat}{w0 w:World}{l:List aM}{t f b:Nat}{x:TX}{d:Dk}
theorem OH (T:bW B w0)(h:Sep B w0 w (Tx t f x::File f b d::l)){id:Int}(hk:Wf id)(kind:UInt8)(h2:2<=x.pages)(hl:x.free.length<=20000):
  Calls Tryz.prog 134 #[ptr t,.int .i64 id,.int .u8 (kind.toNat:Int)] w fun e w'=>e=.returned (.tuple #[.string (x.get d id kind).1.1,.int .i64 (x.get d id kind).1.2])∧Sep B w0 w' (Tx t f x::File f b (x.get d id kind).2::l):=by
 have C:Hid _:=qX (t:=t) w;obtain⟨v,m,ho⟩:=h.iH;obtain⟨ht,q0,q1,q2,q3,qf⟩:=ho.fZ;have jd:=ho.Qo.Jm hk;have HS:Hid (Sep B w0 w (Tx t f x::File f b d::l)):=h;unfold TX.get;cases hx:x.fresh id with
 |some c=>
  rw[hx]at jd;simp only[Option.getD_some,Option.isSome_some]at jd;obtain⟨ct,ck,cs⟩:=c;unfold cV at jd;simp only at jd⊢;have S1:Hid (Sep B w0 (w.alloc (.cells #[.bool ct,.int .u8 (ck.toNat:Int),.string cs] 217)) (Tx t f x::File f b d::l)):=h.alloc _;clear h ho hx HS hk;cases ct with
  |false=>
   simp only[Bool.false_eq_true,false_and,if_false];go_enter Tryz.func134,Tryz.ntmps134
   go_wp2_with fail
   refine Calls.mono C.out ?_;rintro e w1 ⟨rfl,rfl⟩;clear C;go_wp2;go_ret2;exact⟨rfl,S1.out⟩
  |true=>
   by_cases hkk:ck=kind
   ·subst hkk;simp only[and_self,if_true];go_enter Tryz.func134,Tryz.ntmps134
    go_wp2_with fail
    refine Calls.mono C.out ?_;rintro e w1 ⟨rfl,rfl⟩;clear C;go_wp2;go_ret2;exact⟨rfl,S1.out⟩
   ·simp only[hkk,and_false,if_false];have hne:((ck.toNat:Int)==(kind.toNat:Int))=false:=beq_eq_false_iff_ne.2 (fun e=>hkk (UInt8.toNat_inj.1 (by omega)));generalize(ck.toNat:Int)=ckz at*;generalize(kind.toNat:Int)=kz at*;go_enter Tryz.func134,Tryz.ntmps134
    go_wp2_with fail
    refine Calls.mono C.out ?_;rintro e w1 ⟨rfl,rfl⟩;clear C;go_wp2;go_ret2;exact⟨rfl,S1.out⟩
 |none=>
  rw[hx]at jd;simp only[Option.getD_none,Option.isSome_none]at jd;unfold cV c0 at jd;simp only[show((0:UInt8).toNat:Int)=0 from rfl]at jd⊢;have ZE:(Instr.lookup 113 (.map (some m)) (.int .i64 id) true).run Tryz.prog w=.ok (.tuple #[.agg #[.bool false,.int .u8 0,.string ⟨#[]⟩],.bool false]) w:=jd;have S1:Hid (Sep B w0 (w.alloc (.cells #[.bool false,.int .u8 0,.string ⟨#[]⟩] 217)) (Tx t f x::File f b d::l)):=h.alloc _;have CP:Hid _:=JZ S1.out h2;clear h ho hx HS hk jd;by_cases hp:(x.pages:Int)<=id
  ·simp only[hp,true_or,if_true];generalize(x.pages:Int)=pz at*;go_enter Tryz.func134,Tryz.ntmps134
   go_wp2_with fail
   refine Calls.mono C.out ?_;rintro e w1 ⟨rfl,rfl⟩;clear C
   go_wp2_with fail
   refine Calls.mono CP.out ?_;rintro e w2 ⟨rfl,rfl⟩;clear CP;go_wp2;go_ret2;exact⟨rfl,S1.out⟩
  ·obtain⟨v2,m2,ho2⟩:=S1.out.iH;obtain⟨ht2,p0,p1,p2,p3,pf⟩:=ho2.fZ;have CH:Hid _:=MH v2 x.free id _ ho2.sR.free.row (by omega);obtain⟨av2,cv2,rfl,_⟩:=ho2.sR.free;clear ho2;by_cases hh:hasB x.free id=true
   ·rw[hh]at CH;simp only[hp,hh,or_true,if_true];generalize(x.pages:Int)=pz at*;go_enter Tryz.func134,Tryz.ntmps134
    go_wp2_with fail
    refine Calls.mono C.out ?_;rintro e w1 ⟨rfl,rfl⟩;clear C
    go_wp2_with fail
    refine Calls.mono CP.out ?_;rintro e w2 ⟨rfl,rfl⟩;clear CP
    go_wp2_with fail
    refine Calls.mono CH.out ?_;rintro e w3 ⟨rfl,b3⟩;have S3:Hid _:=Sep.below S1.out b3;clear CH b3 S1;go_wp2;go_ret2;exact⟨rfl,S3.out⟩
   ·have hf:hasB x.free id=false:=by simpa using hh
    rw[hf]at CH;simp only[hp,hf,Bool.false_eq_true,or_self,if_false,SK];have CR:Hid (∀u,Sep B w0 u (Tx t f x::File f b d::l)->Calls Tryz.prog 171 #[ptr f,.int .i64 id,.int .u8 (kind.toNat:Int)] u fun e w'=>e=.returned (.tuple #[.string (d.rd id kind).1.1,.int .i64 (d.rd id kind).1.2])∧Sep B w0 w' (File f b (d.rd id kind).2::Tx t f x::l)):=fun u hu=>Sw T hu.sR id kind;generalize(d.rd id kind).1.1=rs at*;generalize(d.rd id kind).1.2=re at*;generalize(d.rd id kind).2=d2 at*;generalize(x.pages:Int)=pz at*;go_enter Tryz.func134,Tryz.ntmps134
    go_wp2_with fail
    refine Calls.mono C.out ?_;rintro e w1 ⟨rfl,rfl⟩;clear C
    go_wp2_with fail
    refine Calls.mono CP.out ?_;rintro e w2 ⟨rfl,rfl⟩;clear CP
    go_wp2_with fail
    refine Calls.mono CH.out ?_;rintro e w3 ⟨rfl,b3⟩;have s3:Sep B w0 w3 (Tx t f x::File f b d::l):=Sep.below S1.out b3;have C4:Hid _:=CR.out w3 s3;obtain⟨v4,m4,h4⟩:=s3.iH;obtain⟨u0,u1,u2,u3,u4,u5⟩:=h4.fZ;clear CH b3 S1 CR s3 h4;by_cases h40:re=40
    ·subst h40
     go_wp2_with fail
     refine Calls.mono C4.out ?_;rintro e w5 ⟨rfl,s5⟩;have S5:Hid (Sep B w0 w5 (Tx t f x::File f b d2::l)):=s5.sR;clear C4 s5;go_wp2;go_ret2;exact⟨rfl,S5.out⟩
    ·have h4b:(re==40)=false:=beq_eq_false_iff_ne.2 h40
     go_wp2_with fail
     refine Calls.mono C4.out ?_;rintro e w5 ⟨rfl,s5⟩;have S5:Hid (Sep B w0 w5 (Tx t f x::File f b d2::l)):=s5.sR;clear C4 s5;go_wp2;go_ret2;exact⟨rfl,S5.out⟩
end
end
end Go.Proofs.YtcenfooehjcddaaGreatDoor
namespace Go.Proofs.YtcenfooehjcddaaGreatDoor
section
open Go.RowKit N
structure NV where
 ae:Option Addr
 ce:Nat
 ak:Option Addr
 ck:Nat
 az:Option Addr
 cz:Nat
 n:Nd
def NV.v (p:NV):Value:=.agg #[.bool p.n.leaf,.slice p.ae p.n.es.length p.ce,.slice p.ak p.n.ks.length p.ck,.slice p.az p.n.ss.length p.cz]
def NV.R (p:NV)(w:World):Prop:=iw w (.slice p.ae p.n.es.length p.ce) (.slice p.ak p.n.ks.length p.ck) (.slice p.az p.n.ss.length p.cz) p.n
def Pl (P:List NV):aM:=fun w X=>(∀k,X k->k<w.heap.size)∧∀w',(∀k,X k->w'.heap[k]? =w.heap[k]?)->w.heap.size<=w'.heap.size->∀p∈P,p.R w'
theorem xN (P:List NV):Good (Pl P):=
 ⟨fun w w' X h hk hs=>⟨fun k hx=>Nat.lt_of_lt_of_le (h.1 k hx) hs,fun w2 h2 hs2=>h.2 w2 (fun k hx=>(h2 k hx).trans (hk k hx)) (Nat.le_trans hs hs2)⟩,fun w X h=>h.1⟩
def NV.W (p:NV)(b:Nat)(w:World):Prop:=mG b w (.slice p.ae p.n.es.length p.ce) (.slice p.ak p.n.ks.length p.ck) (.slice p.az p.n.ss.length p.cz) p.n
theorem NV.of {b:Nat}{w:World}{ve vk vs:Value}{n:Nd}(h:mG b w ve vk vs n):∃p:NV,p.n=n∧Value.agg #[.bool n.leaf,ve,vk,vs]=p.v∧p.W b w:=by
 obtain⟨he,hk,hs⟩:=h;have he':=he;have hk':=hk;have hs':=hs;obtain⟨ae,ce,rfl,_⟩:=he';obtain⟨ak,ck,rfl,_⟩:=hk';obtain⟨az,cz,rfl,_⟩:=hs';exact⟨⟨ae,ce,ak,ck,az,cz,n⟩,rfl,rfl,⟨he,hk,hs⟩⟩
theorem tK {α:Type}[Inhabited α]{enc:α->List Value}{k base:Nat}{w w':World}{v:Value}{l:List α}(h:Own enc k base w v l)(hk:∀q,base<=q->q<w.heap.size->w'.heap[q]? =w.heap[q]?)(hs:w.heap.size<=w'.heap.size):Row enc k w' v l:=by
 obtain⟨ao,cap,e,h1,h2,h3⟩:=h;refine⟨ao,cap,e,h1,h2,fun hne=>?_⟩;obtain⟨b,off,e2,hb,hlt,hH⟩:=h3 hne;exact⟨b,off,e2,Nat.lt_of_lt_of_le hlt hs,fun t ht=>(World.cell?_of_block (w:=w) (w':=w') (a:=⟨b,off+t,none⟩) (hk b hb hlt)).trans (hH t (by simpa using ht)).1⟩
theorem NV.W.kept {p:NV}{b:Nat}{w w':World}(h:p.W b w)(hk:∀q,b<=q->q<w.heap.size->w'.heap[q]? =w.heap[q]?)(hs:w.heap.size<=w'.heap.size):p.R w':=⟨tK h.e hk hs,tK h.k hk hs,tK h.s hk hs⟩
section
variable {B:Nat}{w0 w w':World}{l:List aM}{P:List NV}{p:NV}
theorem Sep.pool (h:Sep B w0 w (Pl P::l)):∀p∈P,p.R w:=by
 obtain⟨_,_,Y,⟨_,X,_,ha,_⟩,_⟩:=h;exact ha.2 w (fun _ _=>rfl) (Nat.le_refl _)
theorem Sep.Wz (h:Sep B w0 w l):Sep B w0 w (Pl []::l):=
 h.add (Below.refl _ _) (xN _) (X:=fun _=>False) ⟨fun _ h=>h.elim,fun _ _ _ p hp=>absurd hp List.not_mem_nil⟩ (fun _ h=>h.elim)
theorem Sep.WB (h:Sep B w0 w (Pl P::l))(hb:Below w.heap.size w w')(hn:p.W w.heap.size w'):Sep B w0 w' (Pl (p::P)::l):=by
 obtain⟨hB,hbe,Y,⟨g,X,Z,hr,hl,hd,hy⟩,hY⟩:=h;have hl':=hl.kept hb.size (fun k hk=>hb.block k (hl.lt k hk));refine⟨Nat.le_trans hB hb.size,hbe.trans (hb.mono hB),fun k=>(X k∨(w.heap.size<=k∧k<w'.heap.size))∨Z k,⟨xN _,fun k=>X k∨(w.heap.size<=k∧k<w'.heap.size),Z,⟨fun k hk=>?_,fun w2 h2 hs2 q hq=>?_⟩,hl',fun k hk hz=>?_,fun _=>Iff.rfl⟩,fun k hk=>?_⟩
 ·rcases hk with hk|hk
  ·exact Nat.lt_of_lt_of_le (hr.1 k hk) hb.size
  ·exact hk.2
 ·rcases List.mem_cons.1 hq with rfl|hq
  ·exact hn.kept (fun k h1 h3=>h2 k (.inr ⟨h1,h3⟩)) hs2
  ·exact hr.2 w2 (fun k hk=>(h2 k (.inl hk)).trans (hb.block k (hr.1 k hk))) (Nat.le_trans hb.size hs2) q hq
 ·rcases hk with hk|hk
  ·exact hd k hk hz
  ·have:=hl.lt k hz;omega
 ·rcases hk with(hk|hk)|hk
  ·exact hY k ((hy k).2 (.inl hk))
  ·exact Nat.le_trans hB hk.1
  ·exact hY k ((hy k).2 (.inr hk))
end
structure Cx where
 q:Nat
 tq:Nat
 t:Nat
 f:Nat
 b:Nat
 root:Int
 err:Int
def trO (t:Nat)(root err:Int):Obj:=.cells #[ptr t,.int .i64 root,.int .i64 err] 91 (0,0)
def nM (C:Cx):aM:=aF C.tq (trO C.t C.root C.err)
abbrev TL (C:Cx)(x:TX)(d:Dk)(P:List NV)(l:List aM):List aM:=Tx C.t C.f x::File C.f C.b d::nM C::Pl P::l
def mH (tq m:Nat)(va vb:Value)(bot:Int):Obj:=.cells #[ptr tq,.map (some m),va,vb,.int .i64 bot] 140 (0,0)
def Gf (P:List NV)(nodes:Int->Option Nd)(g:Gv):Prop:=∀k,(nodes k=none∧g k=none)∨∃p∈P,nodes k=some p.n∧g k=some p.v
def Tp (C:Cx)(S:Dr)(P:List NV):aM:=fun w X=>∃g m va vb,Gf P S.nodes g∧Both (aF C.q (mH C.tq m va vb S.bot)) (Both (dh m g S.cnt) (Both (aR 3 va (S.taken.map (Value.int .i64))) (aR 3 vb (S.spare.map (Value.int .i64))))) w X
theorem Ek (C:Cx)(S:Dr)(P:List NV):Good (Tp C S P):=
 ⟨fun w w' X ⟨g,m,va,vb,hl,h⟩ hk hs=>⟨g,m,va,vb,hl,(aQ (aU _ _) (aQ (dH _ _ _) (aQ (good_row _ _ _) (good_row _ _ _)))).kept w w' X h hk hs⟩,
  fun w X ⟨g,m,va,vb,hl,h⟩=>(aQ (aU _ _) (aQ (dH _ _ _) (aQ (good_row _ _ _) (good_row _ _ _)))).lt w X h⟩
abbrev DL (C:Cx)(S:Dr)(d:Dk)(P:List NV)(l:List aM):List aM:=TL C S.x d P (Tp C S P::l)
section
variable {B:Nat}{w0 w w':World}{l:List aM}{P Q:List NV}{p:NV}{C:Cx}{S:Dr}{x:TX}{d:Dk}
theorem Gf.mono {g:Gv}{nodes:Int->Option Nd}(h:Gf P nodes g)(hq:∀p∈P,p∈Q):Gf Q nodes g:=fun k=>(h k).imp id fun⟨p,hp,r⟩=>⟨p,hq p hp,r⟩
theorem Sep.xO (h:Sep B w0 w (Tp C S P::l))(hq:∀p∈P,p∈Q):Sep B w0 w (Tp C S Q::l):=
 h.step (Ek _ _ _) fun X ⟨g,m,va,vb,hl,hX⟩=>⟨X,⟨g,m,va,vb,hl.mono hq,hX⟩,dw.refl _ _,fun k hk=>.inl hk⟩
theorem Sep.iI (h:Sep B w0 w (Tp C S P::l)):∃g m va vb,Gf P S.nodes g∧Sep B w0 w (aF C.q (mH C.tq m va vb S.bot)::dh m g S.cnt::aR 3 va (S.taken.map (Value.int .i64))::aR 3 vb (S.spare.map (Value.int .i64))::l):=by
 obtain⟨hB,hb,Y,⟨gg,X,Z,⟨g,m,va,vb,hl,hX⟩,hz,hd,hy⟩,hY⟩:=h;refine⟨g,m,va,vb,hl,hB,hb,Y,?_,hY⟩;have h0:Hp w (Both (aF C.q (mH C.tq m va vb S.bot)) (Both (dh m g S.cnt) (Both (aR 3 va (S.taken.map (Value.int .i64))) (aR 3 vb (S.spare.map (Value.int .i64)))))::l) Y:=⟨aQ (aU _ _) (aQ (dH _ _ _) (aQ (good_row _ _ _) (good_row _ _ _))),X,Z,hX,hz,hd,hy⟩;refine Hp.under (Hp.part (aU _ _) (aQ (dH _ _ _) (aQ (good_row _ _ _) (good_row _ _ _))) h0) fun _ h1=>Hp.under (Hp.part (dH _ _ _) (aQ (good_row _ _ _) (good_row _ _ _)) h1) fun _ h2=>Hp.part (good_row _ _ _) (good_row _ _ _) h2
theorem Sep.oV {g:Gv}{m:Nat}{va vb:Value}(hl:Gf P S.nodes g)(h:Sep B w0 w (aF C.q (mH C.tq m va vb S.bot)::dh m g S.cnt::aR 3 va (S.taken.map (Value.int .i64))::aR 3 vb (S.spare.map (Value.int .i64))::l)):Sep B w0 w (Tp C S P::l):=by
 have h2:=(((h.map fun _ h=>Hp.under h fun _ h=>Hp.under h fun _=>Hp.join).map fun _ h=>Hp.under h fun _=>Hp.join)).join;obtain⟨hB,hb,Y,⟨gg,X,Z,hX,hz,hd,hy⟩,hY⟩:=h2;exact⟨hB,hb,Y,⟨Ek _ _ _,X,Z,⟨g,m,va,vb,hl,hX⟩,hz,hd,hy⟩,hY⟩
end
theorem Hp.pk {w:World}{a:aM}:∀(l1:List aM) {l2:List aM} {Y:Nat->Prop},Hp w (l1++a::l2) Y->Hp w (a::(l1++l2)) Y
 |[],_,_,h=>h
 |b::l1,_,_,h=>Hp.swap (Hp.under h fun _ h'=>Hp.pk l1 h')
theorem Hp.pb {w:World}{a:aM}:∀(l1:List aM) {l2:List aM} {Y:Nat->Prop},Hp w (a::(l1++l2)) Y->Hp w (l1++a::l2) Y
 |[],_,_,h=>h
 |b::l1,_,_,h=>Hp.under (Hp.swap h) fun _ h'=>Hp.pb l1 h'
theorem Sep.pk {B:Nat}{w0 w:World}{a:aM}(l1:List aM){l2:List aM}(h:Sep B w0 w (l1++a::l2)):Sep B w0 w (a::(l1++l2)):=h.map fun _=>Hp.pk l1
theorem Sep.pb {B:Nat}{w0 w:World}{a:aM}(l1:List aM){l2:List aM}(h:Sep B w0 w (a::(l1++l2))):Sep B w0 w (l1++a::l2):=h.map fun _=>Hp.pb l1
structure gT (d d':Dk)(n:Nat):Prop where
 eq:d'={d with reads:=d'.reads}
 cnt:0<=d.reads->d.reads+n<=1000000000000->d.reads<=d'.reads∧d'.reads<=d.reads+n
theorem gT.refl (d:Dk):gT d d 0:=⟨rfl,fun _ _=>⟨Int.le_refl _,by omega⟩⟩
theorem gT.trans {a b c:Dk}{n m:Nat}(h:gT a b n)(k:gT b c m):gT a c (n+m):=⟨by rw[k.eq,h.eq],fun h0 h1=>by
 have h2:=h.cnt h0 (by omega)
 have h3:=k.cnt (by omega) (by omega)
 omega⟩
theorem gT.mono {a b:Dk}{n m:Nat}(h:gT a b n)(k:n<=m):gT a b m:=⟨h.eq,fun h0 h1=>by have:=h.cnt h0 (by omega);omega⟩
theorem gT.room {a b:Dk}{n:Nat}(h:gT a b n):b.room=a.room:=by rw[h.eq];rfl
theorem wrap_small {n:Int}(h0:0<=n)(h1:n<=1000000000001):wrap64 n=n:=by
 unfold wrap64;omega
theorem Dk.k6 (d:Dk)(i:Int):gT d (d.get i).2 1:=by
 unfold Dk.get;split
 ·exact(gT.refl d).mono (by omega)
 ·split
  ·refine⟨rfl,fun h0 h1=>?_⟩;simp only;rw[wrap_small (by omega) (by omega)];omega
  ·exact(gT.refl d).mono (by omega)
theorem gT.get {a b:Dk}{n:Nat}(h:gT a b n)(i:Int):(b.get i).1=(a.get i).1:=by
 rw[h.eq];unfold Dk.get Dk.has Dk.now;simp only;split
 ·rfl
 ·split<;>rfl
theorem Dk.Tq (d:Dk)(i:Int)(k:UInt8):gT d (d.rd i k).2 1:=by
 unfold Dk.rd;split
 ·exact d.k6 i
 ·exact(gT.refl d).mono (by omega)
theorem gT.rd {a b:Dk}{n:Nat}(h:gT a b n)(i:Int)(k:UInt8):(b.rd i k).1=(a.rd i k).1:=by
 have hp:uI b i=uI a i:=by rw[h.eq];rfl
 unfold Dk.rd;rw[hp,h.get i];split<;>rfl
theorem TX.k6 (x:TX)(d:Dk)(id:Int)(k:UInt8):gT d (x.get d id k).2 1:=by
 unfold TX.get;split
 ·split<;>exact(gT.refl d).mono (by omega)
 ·split
  ·exact(gT.refl d).mono (by omega)
  ·exact d.Tq id k
theorem gT.bX {a b:Dk}{n:Nat}(h:gT a b n)(x:TX)(id:Int)(k:UInt8):bX x b id k=bX x a id k:=by
 unfold Go.Proofs.YtcenfooehjcddaaGreatDoor.bX TX.get;split
 ·split<;>rfl
 ·split
  ·rfl
  ·unfold SK;simp only;rw[h.rd id k]
theorem gT.dX {a b:Dk}{n:Nat}(h:gT a b n)(x:TX)(id depth:Int):dX x b id depth=dX x a id depth:=by
 unfold Go.Proofs.YtcenfooehjcddaaGreatDoor.dX;simp only[h.bX]
section
variable {B:Nat}{w0 w w':World}{l:List aM}{q:Nat}{a0 a1 a2 a3:Value}{ty:TypeId}
theorem Sep.c4 (h:Sep B w0 w (aF q (.cells #[a0,a1,a2,a3] ty)::l)):q<w.heap.size∧(w.cell? ⟨q,0,none⟩=some a0∧w.cell? ⟨q,1,none⟩=some a1∧w.cell? ⟨q,2,none⟩=some a2∧w.cell? ⟨q,3,none⟩=some a3)∧w.frozen? ⟨q,0,none⟩=false∧w.frozen? ⟨q,1,none⟩=false∧w.frozen? ⟨q,2,none⟩=false∧w.frozen? ⟨q,3,none⟩=false:=by
 have hb:=h.blk;refine⟨(Array.getElem?_eq_some_iff.1 hb).1,⟨?_,?_,?_,?_⟩,?_,?_,?_,?_⟩<;>simp[World.cell?,World.frozen?,hb]
theorem Sep.dA {cs:Array Value}(h:Sep B w0 w (aF q (.cells cs ty)::l))(i:Nat)(v:Value):Sep B w0 (w.setCell ⟨q,i,none⟩ v) (aF q (.cells (cs.setIfInBounds i v) ty)::l):=h.tJ v
theorem Sep.s4 (h:Sep B w0 w (aF q (.cells #[a0,a1,a2,a3] ty)::l))(b0 b1 b2 b3:Value):Sep B w0 ((((w.setCell ⟨q,0,none⟩ b0).setCell ⟨q,1,none⟩ b1).setCell ⟨q,2,none⟩ b2).setCell ⟨q,3,none⟩ b3) (aF q (.cells #[b0,b1,b2,b3] ty)::l):=
 (((h.dA 0 b0).dA 1 b1).dA 2 b2).dA 3 b3
theorem Sep.c3 (h:Sep B w0 w (aF q (.cells #[a0,a1,a2] ty)::l)):q<w.heap.size∧(w.cell? ⟨q,0,none⟩=some a0∧w.cell? ⟨q,1,none⟩=some a1∧w.cell? ⟨q,2,none⟩=some a2)∧w.frozen? ⟨q,0,none⟩=false∧w.frozen? ⟨q,1,none⟩=false∧w.frozen? ⟨q,2,none⟩=false:=by
 have hb:=h.blk;refine⟨(Array.getElem?_eq_some_iff.1 hb).1,⟨?_,?_,?_⟩,?_,?_,?_⟩<;>simp[World.cell?,World.frozen?,hb]
end
end
section
open N
section
variable {B:Nat}{w0 w:World}{x a b c d e f g h i j k m n:aM}{l:List aM}
theorem Sep.ku (z:Sep B w0 w (a::x::l)):Sep B w0 w (x::a::l):=Sep.pk [_] z
theorem Sep.Yb (z:Sep B w0 w (x::a::l)):Sep B w0 w (a::x::l):=Sep.pb [_] z
theorem Sep.El (z:Sep B w0 w (a::b::x::l)):Sep B w0 w (x::a::b::l):=Sep.pk [_,_] z
theorem Sep.Ck (z:Sep B w0 w (a::b::c::x::l)):Sep B w0 w (x::a::b::c::l):=Sep.pk [_,_,_] z
theorem Sep.pb3 (z:Sep B w0 w (x::a::b::c::l)):Sep B w0 w (a::b::c::x::l):=Sep.pb [_,_,_] z
theorem Sep.qu (z:Sep B w0 w (a::b::c::d::x::l)):Sep B w0 w (x::a::b::c::d::l):=Sep.pk [_,_,_,_] z
theorem Sep.WC (z:Sep B w0 w (x::a::b::c::d::l)):Sep B w0 w (a::b::c::d::x::l):=Sep.pb [_,_,_,_] z
theorem Sep.dS (z:Sep B w0 w (a::b::c::d::e::x::l)):Sep B w0 w (x::a::b::c::d::e::l):=Sep.pk [_,_,_,_,_] z
theorem Sep.ur (z:Sep B w0 w (x::a::b::c::d::e::l)):Sep B w0 w (a::b::c::d::e::x::l):=Sep.pb [_,_,_,_,_] z
theorem Sep.cX (z:Sep B w0 w (a::b::c::d::e::f::x::l)):Sep B w0 w (x::a::b::c::d::e::f::l):=Sep.pk [_,_,_,_,_,_] z
theorem Sep.oW (z:Sep B w0 w (x::a::b::c::d::e::f::l)):Sep B w0 w (a::b::c::d::e::f::x::l):=Sep.pb [_,_,_,_,_,_] z
theorem Sep.eH (z:Sep B w0 w (a::b::c::d::e::f::g::x::l)):Sep B w0 w (x::a::b::c::d::e::f::g::l):=Sep.pk [_,_,_,_,_,_,_] z
theorem Sep.yD (z:Sep B w0 w (x::a::b::c::d::e::f::g::l)):Sep B w0 w (a::b::c::d::e::f::g::x::l):=Sep.pb [_,_,_,_,_,_,_] z
theorem Sep.je (z:Sep B w0 w (a::b::c::d::e::f::g::h::x::l)):Sep B w0 w (x::a::b::c::d::e::f::g::h::l):=Sep.pk [_,_,_,_,_,_,_,_] z
theorem Sep.Mc (z:Sep B w0 w (x::a::b::c::d::e::f::g::h::l)):Sep B w0 w (a::b::c::d::e::f::g::h::x::l):=Sep.pb [_,_,_,_,_,_,_,_] z
theorem Sep.qw (z:Sep B w0 w (a::b::c::d::e::f::g::h::i::x::l)):Sep B w0 w (x::a::b::c::d::e::f::g::h::i::l):=Sep.pk [_,_,_,_,_,_,_,_,_] z
theorem Sep.Yc (z:Sep B w0 w (x::a::b::c::d::e::f::g::h::i::l)):Sep B w0 w (a::b::c::d::e::f::g::h::i::x::l):=Sep.pb [_,_,_,_,_,_,_,_,_] z
theorem Sep.e8 (z:Sep B w0 w (a::b::c::d::e::f::g::h::i::j::x::l)):Sep B w0 w (x::a::b::c::d::e::f::g::h::i::j::l):=Sep.pk [_,_,_,_,_,_,_,_,_,_] z
theorem Sep.Cm (z:Sep B w0 w (x::a::b::c::d::e::f::g::h::i::j::l)):Sep B w0 w (a::b::c::d::e::f::g::h::i::j::x::l):=Sep.pb [_,_,_,_,_,_,_,_,_,_] z
theorem Sep.jQ (z:Sep B w0 w (a::b::c::d::e::f::g::h::i::j::k::x::l)):Sep B w0 w (x::a::b::c::d::e::f::g::h::i::j::k::l):=Sep.pk [_,_,_,_,_,_,_,_,_,_,_] z
theorem Sep.Gg (z:Sep B w0 w (x::a::b::c::d::e::f::g::h::i::j::k::l)):Sep B w0 w (a::b::c::d::e::f::g::h::i::j::k::x::l):=Sep.pb [_,_,_,_,_,_,_,_,_,_,_] z
theorem Sep.OJ (z:Sep B w0 w (a::b::c::d::e::f::g::h::i::j::k::m::x::l)):Sep B w0 w (x::a::b::c::d::e::f::g::h::i::j::k::m::l):=Sep.pk [_,_,_,_,_,_,_,_,_,_,_,_] z
theorem Sep.WD (z:Sep B w0 w (a::b::c::d::e::f::g::h::i::j::k::m::n::x::l)):Sep B w0 w (x::a::b::c::d::e::f::g::h::i::j::k::m::n::l):=Sep.pk [_,_,_,_,_,_,_,_,_,_,_,_,_] z
theorem Sep.ZF (z:Sep B w0 w (x::a::b::c::d::e::f::g::h::i::j::k::m::n::l)):Sep B w0 w (a::b::c::d::e::f::g::h::i::j::k::m::n::x::l):=Sep.pb [_,_,_,_,_,_,_,_,_,_,_,_,_] z
end
end
section
open N
abbrev cN (p:NV):Array Value:=#[.bool p.n.leaf,.slice p.ae p.n.es.length p.ce,.slice p.ak p.n.ks.length p.ck,.slice p.az p.n.ss.length p.cz]
abbrev cZ:Array Value:=#[.bool false,.slice none 0 0,.slice none 0 0,.slice none 0 0]
end
end Go.Proofs.YtcenfooehjcddaaGreatDoor
namespace Go.Proofs.YtcenfooehjcddaaGreatDoor
open Go.Shelf Go.RowKit Go.Lib Go.Sort
section
open N (Nd nd0 mG iw kt Qu aL uD lr vA)
def pLf:NV:=⟨none,0,none,0,none,0,lf0⟩
def pZ:NV:=⟨none,0,none,0,none,0,nd0⟩
theorem WE (b:Nat)(w:World):pLf.W b w:=⟨Own.nil,Own.nil,Own.nil⟩
theorem OL (b:Nat)(w:World):pZ.W b w:=mG.zero b w
def TX.Sz (x:TX):Prop:=∀k c,x.fresh k=some c->c.body.size<=240
def GN (B:Nat)(w0:World)(C:Cx)(x:TX)(d:Dk)(P:List NV)(l:List aM)(k:Nat)(n:Nd)(er:Int)(e:Ending)(w':World):Prop:=
 ∃p d',p.n=n∧e=.returned (.tuple #[p.v,.int .i64 er])∧gT d d' k∧Sep B w0 w' (TL C x d' (p::P) l)
section
variable {B:Nat}{w0 w:World}{l:List aM}{P:List NV}{C:Cx}{x:TX}{d:Dk}{id depth:Int}
theorem Sep.pN {p:NV}(h:Sep B w0 w (Tx C.t C.f x::File C.f C.b d::nM C::Pl P::l)){w':World}(hb:Below w.heap.size w w')(hp:p.W w.heap.size w'):Sep B w0 w' (TL C x d (p::P) l):=
 (Sep.WB h.up3 hb hp).dn3
theorem Dk.OM (d:Dk)(id:Int)(k:UInt8):(d.rd id k).1.1.size<=maxLen:=by
 unfold Dk.rd;split
 ·split
  ·unfold sT;split
   ·have hz:(opn id (d.get id).1.1.data.toList).2.1.length<=240:=by
     rcases oy id (d.get id).1.1.data.toList with⟨k,b,h1,h2,h3⟩| ⟨_,h3⟩
     ·rw[h3];exact(jw.1 h1).1
     ·rw[h3];exact Nat.zero_le _
    show(⟨(opn id (d.get id).1.1.data.toList).2.1.toArray⟩:ByteArray).size<=maxLen;rw[fu];unfold maxLen;omega
   ·exact Nat.zero_le _
  ·exact Nat.zero_le _
 ·exact Nat.zero_le _
theorem vS (x:TX)(d:Dk)(hz:x.Sz)(id:Int)(k:UInt8):(bX x d id k).1.size<=maxLen:=by
 unfold bX TX.get;split
 ·rename_i c hc
  split
  ·have:=hz id c hc;show c.body.size<=maxLen;unfold maxLen;omega
  ·exact Nat.zero_le _
 ·split
  ·exact Nat.zero_le _
  ·exact d.OM id k
theorem Gh (h:Sep B w0 w (TL C x d P l)):Calls Tryz.prog 101 #[ptr C.tq,.int .i64 0,.int .i64 depth] w (GN B w0 C x d P l 2 (lf0) (0)):=by
 have SF:Hid (Sep B w0 (w.alloc (.cells #[.bool true,.slice none 0 0,.slice none 0 0,.slice none 0 0] 170)) _):=h.aO _;clear h;go_enter Tryz.func101,Tryz.ntmps101;go_wp2
 (try simp only[Exit.inBlock,Exit.then])
 generalize World.alloc _ _=vf at*;generalize w.heap.size=q at*;obtain⟨qs,⟨c0,c1,c2,c3⟩,g0,g1,g2,g3⟩:=Sep.c4 SF.out;refine bodyPost_ret (v:=.tuple #[.agg #[.bool true,.slice none 0 0,.slice none 0 0,.slice none 0 0],.int .i64 0]) ?_ rfl ⟨pLf,d,rfl,rfl,(gT.refl d).mono (by omega),Sep.pN SF.out.drop (Below.refl _ _) (WE _ _)⟩;rw[aL rfl];go_simp
theorem Gi (h:Sep B w0 w (TL C x d P l))(h0:id≠0)(h1:24<=depth):Calls Tryz.prog 101 #[ptr C.tq,.int .i64 id,.int .i64 depth] w (GN B w0 C x d P l 2 (nd0) (3)):=by
 have SF:Hid (Sep B w0 (w.alloc (.cells cZ 170)) _):=h.aO _;have e0:(id==0)=false:=beq_eq_false_iff_ne.2 h0;clear h h0;go_enter Tryz.func101,Tryz.ntmps101;go_wp2
 (try simp only[Exit.inBlock,Exit.then])
 generalize World.alloc _ _=vf at*;generalize w.heap.size=q at*;obtain⟨qs,⟨c0,c1,c2,c3⟩,g0,g1,g2,g3⟩:=Sep.c4 SF.out;refine bodyPost_ret (v:=.tuple #[.agg cZ,.int .i64 3]) ?_ rfl ⟨pZ,d,rfl,rfl,(gT.refl d).mono (by omega),Sep.pN SF.out.drop (Below.refl _ _) (OL _ _)⟩;rw[aL rfl];go_simp
theorem OO (h:Sep B w0 w (TL C x d P l))(T:bW B w0)(hk:Wf id)(ok:x.Ok d.room)(hr:d.room<=16384)(hz:x.Sz)(h0:id≠0)(h1:depth<24)(h2:(bX x d id 1).2≠0)(XO:(bX x d id 1).2≠3):Calls Tryz.prog 101 #[ptr C.tq,.int .i64 id,.int .i64 depth] w (GN B w0 C x d P l 2 (nd0) ((bX x d id 1).2)):=by
 have S1:Hid (Sep B w0 (w.alloc (.cells cZ 170)) _):=(h.aO _).Y7;have K1:Hid (∀u d' L,gT d d' 1->Sep B w0 u (Tx C.t C.f x::File C.f C.b d'::L)->Calls Tryz.prog 134 #[ptr C.t,.int .i64 id,.int .u8 1] u fun e w'=>e=.returned (.tuple #[.string (bX x d id 1).1,.int .i64 (bX x d id 1).2])∧∃d2,gT d' d2 1∧Sep B w0 w' (Tx C.t C.f x::File C.f C.b d2::L)):=fun u d' L hd hu=>by
  have:=OH (t:=C.t) (f:=C.f) (b:=C.b) T hu hk 1 ok.p2 (by have:=ok.len;have:=ok.pr;omega);refine this.mono fun e w' h=>⟨?_,_,TX.k6 x d' id 1,h.2⟩;rw[h.1,<-hd.bX x id 1];rfl
 have e0:(id==0)=false:=beq_eq_false_iff_ne.2 h0;have e1:¬24<=depth:=by omega
 generalize(bX x d id 1).2=er at*;have e2:(er==3)=false:=beq_eq_false_iff_ne.2 XO;have e3:(er != 0)=true:=bne_iff_ne.2 h2;clear h2 XO;generalize(bX x d id 1).1=s1 at*;clear h h0 h1 ok hr T hk hz;have HC:∃c,c=C.tq:=⟨_,rfl⟩;obtain⟨_,⟨r0,r1,r2⟩,_⟩:=Sep.c3 (Sep.El S1.out);go_enter Tryz.func101,Tryz.ntmps101
 go_wp2_with fail
 generalize World.alloc _ _=v1 at*;generalize w.heap.size=q at*;refine Calls.mono (K1.out _ _ _ ((gT.refl d).mono (by omega)) S1.out) ?_;rintro e v2 ⟨rfl,d2,hd2,s2'⟩;have S2:Hid _:=s2';have D2:Hid (gT d d2 1):=hd2;clear S1 K1 s2' r0 r1 r2 hd2;have D3:Hid (gT d d2 2):=D2.out.mono (by omega);clear D2;obtain⟨qs,⟨c0,c1,c2,c3⟩,g0,g1,g2,g3⟩:=Sep.c4 (Sep.qu S2.out);have SF:Hid (Sep B w0 ((((v2.setCell ⟨q,0,none⟩ (.bool false)).setCell ⟨q,1,none⟩ (.slice none 0 0)).setCell ⟨q,2,none⟩ (.slice none 0 0)).setCell ⟨q,3,none⟩ (.slice none 0 0)) _):=Sep.s4 (Sep.qu S2.out) _ _ _ _;clear S2;go_wp2
 (try simp only[Exit.inBlock,Exit.then])
 generalize World.setCell _ _ _=vf at*;clear c0 c1 c2 c3 g0 g1 g2 g3 qs;obtain⟨qs,⟨c0,c1,c2,c3⟩,g0,g1,g2,g3⟩:=Sep.c4 SF.out;refine bodyPost_ret (v:=.tuple #[.agg cZ,.int .i64 er]) ?_ rfl ⟨pZ,d2,rfl,rfl,D3.out,Sep.pN SF.out.drop (Below.refl _ _) (OL _ _)⟩;rw[aL rfl];go_simp
theorem Tr (h:Sep B w0 w (TL C x d P l))(T:bW B w0)(hk:Wf id)(ok:x.Ok d.room)(hr:d.room<=16384)(hz:x.Sz)(h0:id≠0)(h1:depth<24)(h2:(bX x d id 1).2=0):Calls Tryz.prog 101 #[ptr C.tq,.int .i64 id,.int .i64 depth] w (GN B w0 C x d P l 2 ((uS 1 (bX x d id 1).1).1) ((uS 1 (bX x d id 1).1).2)):=by
 have S1:Hid (Sep B w0 (w.alloc (.cells cZ 170)) _):=(h.aO _).Y7;have K1:Hid (∀u d' L,gT d d' 1->Sep B w0 u (Tx C.t C.f x::File C.f C.b d'::L)->Calls Tryz.prog 134 #[ptr C.t,.int .i64 id,.int .u8 1] u fun e w'=>e=.returned (.tuple #[.string (bX x d id 1).1,.int .i64 (bX x d id 1).2])∧∃d2,gT d' d2 1∧Sep B w0 w' (Tx C.t C.f x::File C.f C.b d2::L)):=fun u d' L hd hu=>by
  have:=OH (t:=C.t) (f:=C.f) (b:=C.b) T hu hk 1 ok.p2 (by have:=ok.len;have:=ok.pr;omega);refine this.mono fun e w' h=>⟨?_,_,TX.k6 x d' id 1,h.2⟩;rw[h.1,<-hd.bX x id 1];rfl
 have KD:Hid (∀u,Calls Tryz.prog 135 #[.int .u8 1,.string (bX x d id 1).1] u fun e w'=>∃p:NV,p.n=uD 1 (bX x d id 1).1.data.toList∧e=.returned (.tuple #[.agg (cN p),.int .i64 (lr (vA 1 (bX x d id 1).1.data.toList))])∧p.W u.heap.size w'∧Below u.heap.size u w'):=fun u=>(kt 1 _ u (vS x d hz id 1)).mono fun e w' ⟨ve,vk,vs,h1,h2,h3⟩=>by
  obtain⟨p,p1,p2,p3⟩:=NV.of h2;exact⟨p,p1,by rw[h1,p2];rfl,p3,h3⟩
 unfold uS;have e0:(id==0)=false:=beq_eq_false_iff_ne.2 h0;have e1:¬24<=depth:=by omega
 rw[h2]at K1;generalize(bX x d id 1).1=s1 at*;clear h h0 h1 ok hr T hk hz h2;have HC:∃c,c=C.tq:=⟨_,rfl⟩;obtain⟨_,⟨r0,r1,r2⟩,_⟩:=Sep.c3 (Sep.El S1.out);go_enter Tryz.func101,Tryz.ntmps101
 go_wp2_with fail
 generalize World.alloc _ _=v1 at*;generalize w.heap.size=q at*;refine Calls.mono (K1.out _ _ _ ((gT.refl d).mono (by omega)) S1.out) ?_;rintro e v2 ⟨rfl,d2,hd2,s2'⟩;have S2:Hid _:=s2';have D2:Hid (gT d d2 1):=hd2;clear S1 K1 s2' r0 r1 r2 hd2;have D3:Hid (gT d d2 2):=D2.out.mono (by omega);clear D2
 go_wp2_with fail
 refine Calls.mono (KD.out _) ?_;rintro e v4 ⟨p,hn,rfl,hw,hb⟩;have S4:Hid _:=Sep.pN S2.out hb hw;clear S2 KD hw hb;have HN:Hid (p.n=uD 1 s1.data.toList):=hn;clear hn;generalize lr (vA 1 s1.data.toList)=er at*;generalize uD 1 s1.data.toList=nn at*;obtain⟨qs,⟨c0,c1,c2,c3⟩,g0,g1,g2,g3⟩:=Sep.c4 (Sep.qu S4.out);have SF:Hid (Sep B w0 ((((v4.setCell ⟨q,0,none⟩ (.bool p.n.leaf)).setCell ⟨q,1,none⟩ (.slice p.ae p.n.es.length p.ce)).setCell ⟨q,2,none⟩ (.slice p.ak p.n.ks.length p.ck)).setCell ⟨q,3,none⟩ (.slice p.az p.n.ss.length p.cz)) _):=Sep.s4 (Sep.qu S4.out) _ _ _ _;clear S4;go_wp2
 (try simp only[Exit.inBlock,Exit.then])
 generalize World.setCell _ _ _=vf at*;clear c0 c1 c2 c3 g0 g1 g2 g3 qs;obtain⟨qs,⟨c0,c1,c2,c3⟩,g0,g1,g2,g3⟩:=Sep.c4 SF.out;refine bodyPost_ret (v:=.tuple #[.agg (cN p),.int .i64 er]) ?_ rfl ⟨p,d2,HN.out,rfl,D3.out,SF.out.drop⟩;rw[aL rfl];go_simp
theorem Qy:(∀(h:Sep B w0 w (TL C x d P l)) (T:bW B w0) (hk:Wf id) (ok:x.Ok d.room) (hr:d.room<=16384) (hz:x.Sz) (h0:id≠0) (h1:depth<24) (h2:(bX x d id 1).2=3) (h3:(bX x d id 2).2≠0),Calls Tryz.prog 101 #[ptr C.tq,.int .i64 id,.int .i64 depth] w (GN B w0 C x d P l 2 (nd0) ((bX x d id 2).2)))∧
  (∀(h:Sep B w0 w (TL C x d P l)) (T:bW B w0) (hk:Wf id) (ok:x.Ok d.room) (hr:d.room<=16384) (hz:x.Sz) (h0:id≠0) (h1:depth<24) (h2:(bX x d id 1).2=3) (h3:(bX x d id 2).2=0),Calls Tryz.prog 101 #[ptr C.tq,.int .i64 id,.int .i64 depth] w (GN B w0 C x d P l 2 ((uS 2 (bX x d id 2).1).1) ((uS 2 (bX x d id 2).1).2))):=by
 refine⟨have jq:=trivial; ?_,have fC:=trivial; ?_⟩
 all_goals
  intro h T hk ok hr hz h0 h1 h2 h3;have S1:Hid (Sep B w0 (w.alloc (.cells cZ 170)) _):=(h.aO _).Y7;have K1:Hid (∀u d' L,gT d d' 1->Sep B w0 u (Tx C.t C.f x::File C.f C.b d'::L)->Calls Tryz.prog 134 #[ptr C.t,.int .i64 id,.int .u8 1] u fun e w'=>e=.returned (.tuple #[.string (bX x d id 1).1,.int .i64 (bX x d id 1).2])∧∃d2,gT d' d2 1∧Sep B w0 w' (Tx C.t C.f x::File C.f C.b d2::L)):=fun u d' L hd hu=>by
   have:=OH (t:=C.t) (f:=C.f) (b:=C.b) T hu hk 1 ok.p2 (by have:=ok.len;have:=ok.pr;omega);refine this.mono fun e w' h=>⟨?_,_,TX.k6 x d' id 1,h.2⟩;rw[h.1,<-hd.bX x id 1];rfl
  have K2:Hid (∀u d' L,gT d d' 1->Sep B w0 u (Tx C.t C.f x::File C.f C.b d'::L)->Calls Tryz.prog 134 #[ptr C.t,.int .i64 id,.int .u8 2] u fun e w'=>e=.returned (.tuple #[.string (bX x d id 2).1,.int .i64 (bX x d id 2).2])∧∃d2,gT d' d2 1∧Sep B w0 w' (Tx C.t C.f x::File C.f C.b d2::L)):=fun u d' L hd hu=>by
   have:=OH (t:=C.t) (f:=C.f) (b:=C.b) T hu hk 2 ok.p2 (by have:=ok.len;have:=ok.pr;omega);refine this.mono fun e w' h=>⟨?_,_,TX.k6 x d' id 2,h.2⟩;rw[h.1,<-hd.bX x id 2];rfl
  first
   |have zz:=fC
    have KD:Hid (∀u,Calls Tryz.prog 135 #[.int .u8 2,.string (bX x d id 2).1] u fun e w'=>∃p:NV,p.n=uD 2 (bX x d id 2).1.data.toList∧e=.returned (.tuple #[.agg (cN p),.int .i64 (lr (vA 2 (bX x d id 2).1.data.toList))])∧p.W u.heap.size w'∧Below u.heap.size u w'):=fun u=>(kt 2 _ u (vS x d hz id 2)).mono fun e w' ⟨ve,vk,vs,h1,h2,h3⟩=>by
     obtain⟨p,p1,p2,p3⟩:=NV.of h2;exact⟨p,p1,by rw[h1,p2];rfl,p3,h3⟩
    unfold uS
   |skip
  have e0:(id==0)=false:=beq_eq_false_iff_ne.2 h0;have e1:¬24<=depth:=by omega
  rw[h2]at K1
  first
   |have zz:=jq
    generalize(bX x d id 2).2=er at*;have e3:(er != 0)=true:=bne_iff_ne.2 h3;clear h3
   |rw[h3]at K2
  generalize(bX x d id 1).1=s1 at*;generalize(bX x d id 2).1=s2 at*
  first
   |have zz:=fC
    clear h h0 h1 ok hr T hk hz h2 h3
   |clear h h0 h1 ok hr T hk hz h2
  have HC:∃c,c=C.tq:=⟨_,rfl⟩;obtain⟨_,⟨r0,r1,r2⟩,_⟩:=Sep.c3 (Sep.El S1.out);go_enter Tryz.func101,Tryz.ntmps101
  go_wp2_with fail
  generalize World.alloc _ _=v1 at*;generalize w.heap.size=q at*;refine Calls.mono (K1.out _ _ _ ((gT.refl d).mono (by omega)) S1.out) ?_;rintro e v2 ⟨rfl,d2,hd2,s2'⟩;have S2:Hid _:=s2';have D2:Hid (gT d d2 1):=hd2;clear S1 K1 s2' r0 r1 r2 hd2;obtain⟨_,⟨r0,r1,r2⟩,_⟩:=Sep.c3 (Sep.El S2.out)
  go_wp2_with fail
  refine Calls.mono (K2.out _ _ _ D2.out S2.out) ?_;rintro e v3 ⟨rfl,d3,hd3,s3⟩;have S3:Hid (Sep B w0 v3 (TL C x d3 P (aF q (.cells cZ 170)::l))):=s3;have D3:Hid (gT d d3 2):=D2.out.trans hd3;clear S2 K2 s3 r0 r1 r2 hd3 D2
  first
   |have zz:=fC
    go_wp2_with fail
    refine Calls.mono (KD.out _) ?_;rintro e v4 ⟨p,hn,rfl,hw,hb⟩;have S4:Hid _:=Sep.pN S3.out hb hw;clear S3 KD hw hb;have HN:Hid (p.n=uD 2 s2.data.toList):=hn;clear hn;generalize lr (vA 2 s2.data.toList)=er at*;generalize uD 2 s2.data.toList=nn at*;obtain⟨qs,⟨c0,c1,c2,c3⟩,g0,g1,g2,g3⟩:=Sep.c4 (Sep.qu S4.out);have SF:Hid (Sep B w0 ((((v4.setCell ⟨q,0,none⟩ (.bool p.n.leaf)).setCell ⟨q,1,none⟩ (.slice p.ae p.n.es.length p.ce)).setCell ⟨q,2,none⟩ (.slice p.ak p.n.ks.length p.ck)).setCell ⟨q,3,none⟩ (.slice p.az p.n.ss.length p.cz)) _):=Sep.s4 (Sep.qu S4.out) _ _ _ _;clear S4
   |obtain⟨qs,⟨c0,c1,c2,c3⟩,g0,g1,g2,g3⟩:=Sep.c4 (Sep.qu S3.out)
    have SF:Hid (Sep B w0 ((((v3.setCell ⟨q,0,none⟩ (.bool false)).setCell ⟨q,1,none⟩ (.slice none 0 0)).setCell ⟨q,2,none⟩ (.slice none 0 0)).setCell ⟨q,3,none⟩ (.slice none 0 0)) _):=Sep.s4 (Sep.qu S3.out) _ _ _ _;clear S3
  go_wp2
  (try simp only[Exit.inBlock,Exit.then])
  first
   |have zz:=fC
    generalize World.setCell _ _ _=vf at*
   |generalize World.setCell _ _ _=vf at*
  clear c0 c1 c2 c3 g0 g1 g2 g3 qs;obtain⟨qs,⟨c0,c1,c2,c3⟩,g0,g1,g2,g3⟩:=Sep.c4 SF.out
  first
   |have zz:=fC
    refine bodyPost_ret (v:=.tuple #[.agg (cN p),.int .i64 er]) ?_ rfl ⟨p,d3,HN.out,rfl,D3.out,SF.out.drop⟩
   |refine bodyPost_ret (v:=.tuple #[.agg cZ,.int .i64 er]) ?_ rfl ⟨pZ,d3,rfl,rfl,D3.out,Sep.pN SF.out.drop (Below.refl _ _) (OL _ _)⟩
  rw[aL rfl];go_simp
theorem xP (T:bW B w0)(h:Sep B w0 w (TL C x d P l))(hk:Wf id)(ok:x.Ok d.room)(hr:d.room<=16384)(hz:x.Sz):Calls Tryz.prog 101 #[ptr C.tq,.int .i64 id,.int .i64 depth] w (GN B w0 C x d P l 2 (dX x d id depth).1 (dX x d id depth).2):=by
 unfold dX;by_cases h0:id=0
 ·subst h0;rw[if_pos rfl];exact Gh h
 ·rw[if_neg h0];by_cases h1:24<=depth
  ·rw[if_pos h1];exact Gi h h0 h1
  ·rw[if_neg h1];by_cases h2:(bX x d id 1).2=3
   ·rw[if_pos h2];by_cases h3:(bX x d id 2).2=0
    ·rw[if_pos h3];exact Qy.2 h T hk ok hr hz h0 (by omega) h2 h3
    ·rw[if_neg h3];exact Qy.1 h T hk ok hr hz h0 (by omega) h2 h3
   ·rw[if_neg h2];by_cases h3:(bX x d id 1).2=0
    ·rw[if_pos h3];exact Tr h T hk ok hr hz h0 (by omega) h3
    ·rw[if_neg h3];exact OO h T hk ok hr hz h0 (by omega) h3 h2
end
end
end Go.Proofs.YtcenfooehjcddaaGreatDoor
section
namespace Go.Proofs.YtcenfooehjcddaaGreatDoor.N
open Go.Shelf Go.RowKit Go.Lib Go.Sort
theorem Gj (va vb:Value)(a b:List En)(w:World)(ha:Row ax 2 w va a)(hb:Row ax 2 w vb b)(hl:a.length<=1000000)(hl2:b.length<=1000000):
  Calls Tryz.prog 117 #[va,vb] w fun e w'=>e=.returned (.bool (decide (a=b)))∧Below w.heap.size w w':=by
 obtain⟨ao,ca,rfl,a1,a2,a3⟩:=ha;obtain⟨bo,cb,rfl,b1,b2,b3⟩:=hb;have A3:Aside (a≠[]->∃b off,ao=some ⟨b,off,none⟩∧b<w.heap.size∧cx ax 2 w b off a):=a3;have B3:Aside (b≠[]->∃b' off,bo=some ⟨b',off,none⟩∧b'<w.heap.size∧cx ax 2 w b' off b):=b3;clear a3 b3;by_cases hlen:a.length=b.length
 ·have HL:Hid (a.length=b.length):=hlen;have hle1:a.length<=b.length:=by omega
  have hle2:b.length<=a.length:=by omega
  have hneq:((a.length:Int) != (b.length:Int))=false:=by simp;omega
  clear hlen;go_enter Tryz.func117,Tryz.ntmps117;go_wp2
  go_loopg [5,13] a.length (fun kx s5 s13 wr=>∃(i:Nat),s13=.int .i64 i∧i<=a.length∧a.length-i<=kx∧Hid (GR w wr)∧Hid (a.take i=b.take i))
  case atStart=>exact⟨0,rfl,Nat.zero_le _,Nat.le_refl _,GR.refl _,by simp[Hid]⟩
  case round=>
   obtain⟨i,rfl,hi,hki,HG,HN⟩:=hrel;by_cases hil:i<a.length
   ·have dO:(i:Int)< (a.length:Int):=by omega
    have zl:i<b.length:=by omega
    obtain⟨ba,oa,rfl,G6,x1,x2⟩:=cW A3.out i hil HG.out.below;obtain⟨bb,ob,rfl,hbb,y1,y2⟩:=cW B3.out i zl HG.out.below;have T:Hid (a.take (i+1)=a.take i++[a[i]!]):=bU hil;have T2:Hid (b.take (i+1)=b.take i++[b[i]!]):=bU zl;generalize a[i]! =x at*;generalize b[i]! =y at*;have HD:Hid (GR w wr.drew):=HG.out.drew;by_cases he:x=y
    ·have E:=fun W=>MZ (x:=x) (y:=y) (decide_eq_true he) W;have G:=XH x y;have HE:Hid (x=y):=he;clear he;simp only[Bool.not_true]at E
     go_wp2_with fail
     go_region
     all_goals go_wp2
     all_goals go_roundg (a.length- (i+1))
     case measure=>omega
     case rel=>
      refine⟨i+1,by go_num,by omega,Nat.le_refl _,HD,?_⟩;show _=_;rw[T.out,T2.out,HN.out,HE.out]
    ·have E:=fun W=>MZ (x:=x) (y:=y) (decide_eq_false he) W;have G:=XH x y;have HE:Hid (x≠y):=he;clear he;simp only[Bool.not_false]at E
     go_wp2_with fail
     go_region
     all_goals go_wp2
     all_goals go_ret
     all_goals
      refine⟨dK (decide_eq_false fun h=>HE.out ?_).symm,HD.out.below⟩;subst h;have:=T.out.symm.trans T2.out;simpa using this
   ·have dO:¬(i:Int)< (a.length:Int):=by omega
    obtain rfl:i=a.length:=by omega
    go_wp2;go_ret;refine⟨dK (decide_eq_true ?_).symm,HG.out.below⟩;have:=HN.out;rw[List.take_length,HL.out,List.take_length]at this;exact this
 ·have hneq:((a.length:Int) != (b.length:Int))=true:=by simp;omega
  have HL:Hid (a.length≠b.length):=hlen;clear hlen;go_enter Tryz.func117,Tryz.ntmps117;go_wp2;go_ret;exact⟨dK (decide_eq_false fun h=>HL.out (by rw[h])).symm,Below.refl _ _⟩
end Go.Proofs.YtcenfooehjcddaaGreatDoor.N
namespace Go.Proofs.YtcenfooehjcddaaGreatDoor
open Go.Shelf Go.RowKit Go.Lib Go.Sort
theorem J7 {l:List Int}{i:Nat}{k:Int}(h:i<l.length):(l.take (i+1)).contains k=((l.take i).contains k||decide (k=l.getD i 0)):=by
 rw[vJ h,List.contains_eq_any_beq,List.contains_eq_any_beq,List.any_append,List.any_cons,List.any_nil,Bool.or_false];by_cases hh:k=l.getD i 0
 ·rw[decide_eq_true hh,beq_iff_eq.2 hh]
 ·rw[decide_eq_false hh,beq_eq_false_iff_ne.2 hh]
theorem Gk (v:Value)(l:List Int)(k:Int)(w:World)(h:oL w v l)(hl:l.length<=1000000):
  Calls Tryz.prog 220 #[v,.int .i64 k] w fun e w'=>∃i:Int,e=.returned (.int .i64 i)∧Hid (decide (0<=i)=l.contains k)∧-1<=i∧w'=w:=by
 obtain⟨ao,ca,rfl,_⟩:=id h;have HA:Aside (oL w (.slice ao l.length ca) l):=h;clear h;go_enter Tryz.func220,Tryz.ntmps220;go_wp2
 go_loopg [5,8] l.length (fun kx s5 s8 wr=>∃(i:Nat),s8=.int .i64 i∧i<=l.length∧l.length-i<=kx∧wr=w∧Hid ((l.take i).contains k=false))
 case atStart=>exact⟨0,rfl,Nat.zero_le _,Nat.le_refl _,rfl,by simp[Hid]⟩
 case round=>
  obtain⟨i,rfl,hi,hki,rfl,HN⟩:=hrel;by_cases hil:i<l.length
  ·have dO:(i:Int)< (l.length:Int):=by omega
   obtain⟨ba,oa,rfl,G6,x1⟩:=HA.out.at hil;have T:Hid ((l.take (i+1)).contains k=((l.take i).contains k||decide (k=l.getD i 0))):=J7 hil;have T2:Hid (l.getD i 0∈l):=by
    show _∈_;rw[List.getD_eq_getElem?_getD,List.getElem?_eq_getElem hil];exact List.getElem_mem hil
   generalize l.getD i 0=x at*;by_cases he:k=x
   ·have E:(k==x)=true:=by simp[he]
    have HE:Hid (k=x):=he;clear he;go_wp2;go_ret;refine⟨(i:Int),rfl,?_,by omega,rfl⟩;show _=_;rw[decide_eq_true (by omega),List.contains_iff_mem.2 (HE.out▸T2.out)]
   ·have E:(k==x)=false:=by simp[he]
    have HE:Hid (k≠x):=he;clear he;go_wp2
    all_goals go_roundg (l.length- (i+1))
    case measure=>omega
    case rel=>
     refine⟨i+1,by go_num,by omega,Nat.le_refl _,rfl,?_⟩;show _=_;rw[T.out,HN.out,decide_eq_false HE.out];rfl
  ·have dO:¬(i:Int)< (l.length:Int):=by omega
   obtain rfl:i=l.length:=by omega
   go_wp2;go_ret;refine⟨-1,rfl,?_,by omega,rfl⟩;have:=HN.out;rw[List.take_length]at this;refine⟨fun h=>absurd h (by omega),fun h=>?_⟩;rw[List.contains_iff_mem.2 h]at this;cases this
theorem Kc (v:Value)(l:List Int)(k:Int)(w:World)(h:oL w v l)(hl:l.length<=1000000):
  Calls Tryz.prog 185 #[v,.int .i64 k] w fun e w'=>e=.returned (.bool (l.contains k))∧w'=w:=by
 obtain⟨ao,ca,rfl,_⟩:=id h;have K:Hid _:=Gk _ l k w h hl;clear h;go_enter Tryz.func185,Tryz.ntmps185
 go_wp2_with fail
 refine Calls.mono K.out ?_;rintro e w1 ⟨i,rfl,HI,h1,rfl⟩;clear K;go_wp2;go_ret;refine⟨?_,rfl⟩;rw[<-HI.out];rfl
end Go.Proofs.YtcenfooehjcddaaGreatDoor
end
namespace Go.Proofs.YtcenfooehjcddaaGreatDoor
open Go.Shelf Go.RowKit Go.Lib Go.Sort
section
open N (Nd nd0 aL)
section
variable {B:Nat}{w0 w w':World}{l:List aM}{P:List NV}{C:Cx}{S:Dr}{d:Dk}{id depth:Int}{m:Nat}{va vb v:Value}{bot:Int}{tq:Nat}{q:Nat}{ids:List Int}
theorem Sep.qY (h:Sep B w0 w (aF q (mH tq m va vb bot)::l)):q<w.heap.size∧(w.cell? ⟨q,0,none⟩=some (ptr tq)∧w.cell? ⟨q,1,none⟩=some (.map (some m))∧w.cell? ⟨q,2,none⟩=some va∧w.cell? ⟨q,3,none⟩=some vb∧w.cell? ⟨q,4,none⟩=some (.int .i64 bot))∧∀i,w.frozen? ⟨q,i,none⟩=false:=by
 have hb:=h.blk;unfold mH at hb;refine⟨(Array.getElem?_eq_some_iff.1 hb).1,⟨?_,?_,?_,?_,?_⟩,fun i=>?_⟩<;>simp[World.cell?,World.frozen?,hb]
theorem Sep.Co (h:Sep B w0 w (nM C::l)):C.tq<w.heap.size∧(w.cell? ⟨C.tq,0,none⟩=some (ptr C.t)∧w.cell? ⟨C.tq,1,none⟩=some (.int .i64 C.root)∧w.cell? ⟨C.tq,2,none⟩=some (.int .i64 C.err))∧∀i,w.frozen? ⟨C.tq,i,none⟩=false:=by
 have hb:=Sep.blk h;unfold trO at hb;refine⟨(Array.getElem?_eq_some_iff.1 hb).1,⟨?_,?_,?_⟩,fun i=>?_⟩<;>simp[World.cell?,World.frozen?,hb]
theorem Sep.ints (h:Sep B w0 w (aR 3 v (ids.map (Value.int .i64))::l)):oL w v ids∧∃ao c,v=.slice ao ids.length c:=by
 obtain⟨ao,c,rfl⟩:=h.shape;refine⟨⟨ao,c,by simp,fun hne=>?_⟩,ao,c,by simp⟩;have hl:0< (ids.map (Value.int .i64)).length:=by simpa using List.length_pos_iff.2 hne
 obtain⟨r,c',e,hc,hr,_⟩:=h.cell (j:=0) hl;cases e;refine⟨r,0,rfl,hr,fun j hj=>?_⟩;obtain⟨r',c2,e,_,_,h2,_⟩:=h.cell (j:=j) (by simpa using hj);cases e;rw[Nat.zero_add,h2];simp[List.getD_eq_getElem?_getD,hj]
theorem Aj (h:Sep B w0 w (DL C S d P l))(hk:Wf id)(hb:S.okB=true):Calls Tryz.prog 150 #[ptr C.q,.int .i64 id] w fun e w'=>e=.returned (.bool (S.may id))∧Sep B w0 w' (DL C S d P l):=by
 have hsp:S.spare.length<=1000000:=by
  unfold Dr.okB at hb;simp only[Bool.and_eq_true,decide_eq_true_eq]at hb;omega
 obtain⟨g,m,va,vb,hl,ho⟩:=Sep.iI (Sep.pk [_,_,_,_] h);obtain⟨qs,⟨q0,q1,q2,q3,q4⟩,qf⟩:=Sep.qY ho;obtain⟨ts,⟨t0,t1,t2⟩,tf⟩:=Sep.Co (Sep.pk [_,_] h);obtain⟨_,av,cv,rfl⟩:=Sep.ints (Sep.pk [_,_,_] ho);have KF:Hid _:=Cj h hk;have HS:Hid (Sep B w0 w (DL C S d P l)):=h;have HC:Hid (∀u,Below w.heap.size w u->Calls Tryz.prog 185 #[.slice av S.spare.length cv,.int .i64 id] u fun e w'=>e=.returned (.bool (S.spare.contains id))∧w'=u):=fun u hb=>Kc _ S.spare id u (Sep.ints (Sep.pk [_,_,_] (ho.below hb))).1 hsp;have HP:Hid (∀u,Below w.heap.size w u->u.cell? ⟨C.q,3,none⟩=some (.slice av S.spare.length cv)∧C.q<u.heap.size):=fun u hb=>⟨(hb.cell (p:=⟨C.q,3,none⟩) qs).trans q3,Nat.lt_of_lt_of_le qs hb.size⟩;unfold Dr.may;clear h ho hl hb hk qf tf;cases hf:(S.x.fresh id).isSome with
 |false=>
  rw[hf]at KF;go_enter Tryz.func150,Tryz.ntmps150
  go_wp2_with fail
  refine Calls.mono KF.out ?_;rintro e w1 ⟨rfl,b1⟩;have S1:Hid _:=HS.out.below b1;clear KF HS HC HP b1;go_wp2;go_ret;exact⟨rfl,S1.out⟩
 |true=>
  rw[hf]at KF;generalize S.spare.contains id=bb at*;go_enter Tryz.func150,Tryz.ntmps150
  go_wp2_with fail
  refine Calls.mono KF.out ?_;rintro e w1 ⟨rfl,b1⟩;have S1:Hid _:=HS.out.below b1;have KC:Hid _:=HC.out w1 b1;obtain⟨y3,ys⟩:=HP.out w1 b1;clear KF HS HC HP b1
  go_wp2_with fail
  refine Calls.mono KC.out ?_;rintro e w2 ⟨rfl,rfl⟩;clear KC;go_wp2;go_ret;exact⟨by simp,S1.out⟩
theorem Sep.ml {x:Value}{cs:Array Value}{ty:TypeId}(h:Sep B w0 w (aF q (.cells cs ty (0,0))::l))(i:Nat):Sep B w0 (w.setCell ⟨q,i,none⟩ x) (aF q (.cells (cs.setIfInBounds i x) ty (0,0))::l):=h.tJ x
theorem xQ (h:Sep B w0 w (DL C S d P l))(hk:Wf id)(hb:S.okB=true):Calls Tryz.prog 120 #[ptr C.q,.int .i64 id] w fun e w'=>e=.returned (.tuple #[])∧Sep B w0 w' (DL C (S.drop id) d P l):=by
 have KM:Hid _:=Aj h hk hb;have hsp:S.spare.length<100000:=by
  unfold Dr.okB at hb;simp only[Bool.and_eq_true,decide_eq_true_eq]at hb;omega
 unfold Dr.drop;by_cases hm:S.may id=true
 ·rw[hm]at KM;rw[if_pos hm];have K1:Hid (∀u,Sep B w0 u (DL C S d P l)->∃g m va av cv w2,u.cell? ⟨C.q,1,none⟩=some (.map (some m))∧C.q<u.heap.size∧(Builtin.delete_ #[138,3] 0 #[.map (some m),.int .i64 id]).run Tryz.prog u=.ok (.tuple #[]) w2∧Gf P (fun q=>if q=id then none else S.nodes q) g∧
    Sep B w0 w2 (aR 3 (.slice av S.spare.length cv) (S.spare.map (Value.int .i64))::aF C.q (mH C.tq m va (.slice av S.spare.length cv) S.bot)::dh m g S.cnt::aR 3 va (S.taken.map (Value.int .i64))::Tx C.t C.f S.x::File C.f C.b d::nM C::Pl P::l)):=fun u hu=>by
   obtain⟨g,m,va,vb,hl,ho⟩:=Sep.iI (Sep.pk [_,_,_,_] hu);obtain⟨qs,⟨q0,q1,q2,q3,q4⟩,qf⟩:=Sep.qY ho;obtain⟨_,av,cv,rfl⟩:=Sep.ints (Sep.pk [_,_,_] ho);obtain⟨w2,hrun,h2⟩:=(Sep.pk [_] ho).NH hk 0;refine⟨_,m,va,av,cv,w2,q1,qs,hrun,fun k=>?_,Sep.pk [_,_,_] (Sep.pb [_] h2)⟩;unfold ND;simp only;by_cases hkk:k=id
   ·rw[if_pos hkk,if_pos hkk];exact .inl ⟨rfl,rfl⟩
   ·rw[if_neg hkk,if_neg hkk];exact hl k
  clear h hb hk;go_enter Tryz.func120,Tryz.ntmps120
  go_wp2_with fail
  refine Calls.mono KM.out ?_;rintro e w1 ⟨rfl,s1⟩;obtain⟨g,m,va,av,cv,w2,y1,ys,hrun,hl,s2⟩:=K1.out w1 s1;have S2:Hid (Sep B w0 w2 (aR 3 (.slice av S.spare.length cv) (S.spare.map (Value.int .i64))::aF C.q (mH C.tq m va (.slice av S.spare.length cv) S.bot)::dh m g S.cnt::aR 3 va (S.taken.map (Value.int .i64))::Tx C.t C.f S.x::File C.f C.b d::nM C::Pl P::l)):=s2;have HL:Hid (Gf P (fun q=>if q=id then none else S.nodes q) g):=hl;obtain⟨zs,⟨z0,z1,z2,z3,z4⟩,zf⟩:=Sep.qY (Sep.pk [_] s2);clear KM K1 s1 s2 hl
  go_wp2_with (at_builtin;refine nu rfl _ _ rfl _ _ rfl (S2.out.alloc _) _ _ id rfl (by simp) (by simp;omega) ?_)
  intro ao n' c' w3 s3;obtain⟨xs,⟨x0,x1,x2,x3,x4⟩,xf⟩:=Sep.qY (Sep.pk [_] s3);have f3:=xf 3;have S3:Hid (Sep B w0 (w3.setCell ⟨C.q,3,none⟩ (.slice ao n' c')) (DL C ⟨S.x,fun q=>if q=id then none else S.nodes q,S.cnt,S.taken,S.spare++[id],S.bot⟩ d P l)):=by
   have k1:=Sep.ml (x:=.slice ao n' c') (Sep.pk [_] s3) 3;have k2:Sep B w0 (w3.setCell ⟨C.q,3,none⟩ (.slice ao n' c')) (aF C.q (mH C.tq m va (.slice ao n' c') S.bot)::dh m g S.cnt::aR 3 va (S.taken.map (Value.int .i64))::aR 3 (.slice ao n' c') ((S.spare++[id]).map (Value.int .i64))::Tx C.t C.f S.x::File C.f C.b d::nM C::Pl P::l):=by
    rw[List.map_append];exact Sep.pb [_,_,_] (Sep.pk [_] k1)
   exact Sep.pb [_,_,_,_] (Sep.oV (C:=C) (S:=⟨S.x,fun q=>if q=id then none else S.nodes q,S.cnt,S.taken,S.spare++[id],S.bot⟩) HL.out k2)
  clear S2 s3 z0 z1 z2 z3 z4 zf xf HL hrun y1 ys;go_wp2
  go_end0
  exact⟨rfl,S3.out⟩
 ·rw[if_neg hm];have hm':S.may id=false:=by simpa using hm
  rw[hm']at KM;clear h hb hk hm hm';go_enter Tryz.func120,Tryz.ntmps120
  go_wp2_with fail
  refine Calls.mono KM.out ?_;rintro e w1 ⟨rfl,s1⟩;have S1:Hid (Sep B w0 w1 (DL C S d P l)):=s1;clear KM s1;go_wp2
  first|go_end0|refine bodyPost_ret (results_none rfl _ _ _) rfl ?_
  exact⟨rfl,S1.out⟩
theorem Sep.WG {p:NV}(hu:Sep B w0 w (DL C S d P l))(hk:Wf id)(hp:p∈P)(hn:S.cnt<1000000):∃m w2,w.cell? ⟨C.q,1,none⟩=some (.map (some m))∧C.q<w.heap.size∧(Instr.mapUpdate 138 (.map (some m)) (.int .i64 id) (.agg (cN p))).run Tryz.prog w=.ok () w2∧Sep B w0 w2 (DL C (S.set id p.n) d P l):=by
 obtain⟨g,m,va,vb,hl,ho⟩:=Sep.iI (Sep.pk [_,_,_,_] hu);obtain⟨qs,⟨q0,q1,q2,q3,q4⟩,qf⟩:=Sep.qY ho;obtain⟨w2,hrun,h2⟩:=(Sep.pk [_] ho).NG hk p.v hn;refine⟨m,w2,q1,qs,hrun,?_⟩;refine Sep.pb [_,_,_,_] (Sep.oV (C:=C) (S:=S.set id p.n) (g:=pY g id p.v) (fun k=>?_) (Sep.pb [_] h2));unfold pY Dr.set;simp only;by_cases hkk:k=id
 ·rw[if_pos hkk,if_pos hkk];exact .inr ⟨p,hp,rfl,rfl⟩
 ·rw[if_neg hkk,if_neg hkk];exact hl k
theorem Dr.Ak (h:S.okB=true):S.cnt<100000∧S.x.cnt<900000∧S.taken.length<100000∧S.spare.length<100000:=by
 unfold Dr.okB at h;simp only[Bool.and_eq_true,decide_eq_true_eq]at h;omega
theorem OP {p:NV}(h:Sep B w0 w (DL C S d P l))(hk:Wf id)(hb:S.okB=true)(hp:p∈P)(hm:S.may id=true):Calls Tryz.prog 121 #[ptr C.q,.int .i64 id,.agg (cN p)] w fun e w'=>e=.returned (.tuple #[.int .i64 id,.int .i64 0])∧Sep B w0 w' (DL C (S.set id p.n) d P l):=by
 have S1:Hid (Sep B w0 (w.alloc (.cells (cN p) 170)) (DL C S d P (aF w.heap.size (.cells (cN p) 170)::l))):=Sep.pb [_,_,_,_,_] (h.aO _);have KM:Hid _:=Aj S1.out hk hb;rw[hm]at KM;have K2:Hid (∀u L,Sep B w0 u (DL C S d P L)->∃m w2,u.cell? ⟨C.q,1,none⟩=some (.map (some m))∧C.q<u.heap.size∧(Instr.mapUpdate 138 (.map (some m)) (.int .i64 id) (.agg (cN p))).run Tryz.prog u=.ok () w2∧Sep B w0 w2 (DL C (S.set id p.n) d P L)):=fun u L hu=>Sep.WG hu hk hp (by have:=Dr.Ak hb;omega);clear h hb hk hp hm;go_enter Tryz.func121,Tryz.ntmps121
 go_wp2_with fail
 generalize World.alloc _ _=v1 at*;generalize w.heap.size=qn at*;refine Calls.mono KM.out ?_;rintro e v2 ⟨rfl,s2⟩;obtain⟨qs,⟨c0,c1,c2,c3⟩,g0,g1,g2,g3⟩:=Sep.c4 (Sep.pk [_,_,_,_,_] s2);obtain⟨m,v3,y1,ys,hrun,s3⟩:=K2.out _ _ s2.drew;have S3:Hid (Sep B w0 v3 (DL C (S.set id p.n) d P l)):=Sep.drop (Sep.pk [_,_,_,_,_] s3);have y1':v2.cell? ⟨C.q,1,none⟩=some (.map (some m)):=y1;have ys':C.q<v2.heap.size:=ys;clear KM K2 s2 s3 S1 y1 ys
 go_wp2_with fail
 go_region
 all_goals go_wp2
 all_goals go_ret2
 all_goals exact⟨rfl,S3.out⟩
theorem Kd {p:NV}(h:Sep B w0 w (DL C S d P l))(hk:Wf id)(hb:S.okB=true)(ok:S.x.Ok d.room)(hr:d.room<=16384)(hm:S.may id=false)(he:(S.x.alloc d.room).1.2≠0):Calls Tryz.prog 121 #[ptr C.q,.int .i64 id,.agg (cN p)] w fun e w'=>e=.returned (.tuple #[.int .i64 0,.int .i64 (S.x.alloc d.room).1.2])∧Sep B w0 w' (DL C (S.held d.room) d P l):=by
 have S1:Hid (Sep B w0 (w.alloc (.cells (cN p) 170)) (DL C S d P (aF w.heap.size (.cells (cN p) 170)::l))):=Sep.pb [_,_,_,_,_] (h.aO _);have KM:Hid _:=Aj S1.out hk hb;rw[hm]at KM;have K2:Hid (∀u L,Sep B w0 u (DL C S d P L)->Calls Tryz.prog 151 #[ptr C.t] u fun e w'=>e=.returned (.tuple #[.int .i64 (S.x.alloc d.room).1.1,.int .i64 (S.x.alloc d.room).1.2])∧Sep B w0 w' (DL C (S.held d.room) d P L)):=fun u L hu=>(J4 hu ok hr (by have:=Dr.Ak hb;omega)).mono fun e w' ⟨h1,h2⟩=>⟨h1,h2⟩;have hne:((S.x.alloc d.room).1.2 != 0)=true:=bne_iff_ne.2 he;generalize(S.x.alloc d.room).1.2=er at*;generalize(S.x.alloc d.room).1.1=k1 at*;clear h hb hk hm ok hr he;go_enter Tryz.func121,Tryz.ntmps121
 go_wp2_with fail
 generalize World.alloc _ _=v1 at*;generalize w.heap.size=qn at*;refine Calls.mono KM.out ?_;rintro e v2 ⟨rfl,s2⟩;obtain⟨qs,⟨q0,q1,q2,q3,q4⟩,qf⟩:=Sep.qY (Sep.iI (Sep.pk [_,_,_,_] s2)).choose_spec.choose_spec.choose_spec.choose_spec.2;obtain⟨ts,⟨t0,t1,t2⟩,tf⟩:=Sep.Co (Sep.pk [_,_] s2);have K3:Hid _:=K2.out _ _ s2;clear KM K2 s2 S1 qf tf q1 q2 q3 q4 t1 t2
 go_wp2_with fail
 refine Calls.mono K3.out ?_;rintro e v3 ⟨rfl,s3⟩;have S3:Hid (Sep B w0 v3 (DL C (S.held d.room) d P l)):=Sep.drop (Sep.pk [_,_,_,_,_] s3);clear K3 s3;go_wp2;go_ret2;exact⟨rfl,S3.out⟩
theorem Ke {x:TX}{room:Nat}(ok:x.Ok room)(hr:room<=16384):Wf (x.alloc room).1.1:=by
 obtain⟨fr,p,g,c⟩:=x;unfold TX.alloc;cases fr with
 |cons r s=>
  have:=ok.fr r.1 (ok.cn.dT (Int.le_refl _) (bE.1 ok.cn).1.2.1);have h3:=ok.pr;simp only at this h3⊢;exact Wf.of_lt (by omega) (by omega)
 |nil=>
  have h3:=ok.pr;simp only at h3⊢;split
  ·exact Wf.of_lt (by simp) (by simp)
  ·exact Wf.of_lt (by simp) (by simp only;omega)
theorem OQ {p:NV}(h:Sep B w0 w (DL C S d P l))(hk:Wf id)(hb:S.okB=true)(ok:S.x.Ok d.room)(hr:d.room<=16384)(hp:p∈P)(hm:S.may id=false)(he:(S.x.alloc d.room).1.2=0):Calls Tryz.prog 121 #[ptr C.q,.int .i64 id,.agg (cN p)] w fun e w'=>e=.returned (.tuple #[.int .i64 (S.x.alloc d.room).1.1,.int .i64 0])∧Sep B w0 w' (DL C ((S.took d.room).set (S.x.alloc d.room).1.1 p.n) d P l):=by
 have S1:Hid (Sep B w0 (w.alloc (.cells (cN p) 170)) (DL C S d P (aF w.heap.size (.cells (cN p) 170)::l))):=Sep.pb [_,_,_,_,_] (h.aO _);have KM:Hid _:=Aj S1.out hk hb;rw[hm]at KM;have K2:Hid (∀u L,Sep B w0 u (DL C S d P L)->Calls Tryz.prog 151 #[ptr C.t] u fun e w'=>e=.returned (.tuple #[.int .i64 (S.x.alloc d.room).1.1,.int .i64 (S.x.alloc d.room).1.2])∧Sep B w0 w' (DL C (S.held d.room) d P L)):=fun u L hu=>(J4 hu ok hr (by have:=Dr.Ak hb;omega)).mono fun e w' ⟨h1,h2⟩=>⟨h1,h2⟩;have hk1:Wf (S.x.alloc d.room).1.1:=Ke ok hr;have htl:S.taken.length<100000:=(Dr.Ak hb).2.2.1;have hcl:S.cnt<1000000:=by have:=Dr.Ak hb;omega
 have K4:Hid (∀u L,Sep B w0 u (DL C (S.took d.room) d P L)->∃m w2,u.cell? ⟨C.q,1,none⟩=some (.map (some m))∧C.q<u.heap.size∧(Instr.mapUpdate 138 (.map (some m)) (.int .i64 (S.x.alloc d.room).1.1) (.agg (cN p))).run Tryz.prog u=.ok () w2∧Sep B w0 w2 (DL C ((S.took d.room).set (S.x.alloc d.room).1.1 p.n) d P L)):=fun u L hu=>Sep.WG hu hk1 hp hcl;rw[he]at K2;unfold Dr.took at K4⊢;unfold Dr.held at K2;generalize(S.x.alloc d.room).1.1=k1 at*;generalize(S.x.alloc d.room).2=x1 at*;clear h hb hk hm ok hr he hp hk1 hcl;go_enter Tryz.func121,Tryz.ntmps121
 go_wp2_with fail
 generalize World.alloc _ _=v1 at*;generalize w.heap.size=qn at*;refine Calls.mono KM.out ?_;rintro e v2 ⟨rfl,s2⟩;obtain⟨qs,⟨q0,q1,q2,q3,q4⟩,qf⟩:=Sep.qY (Sep.iI (Sep.pk [_,_,_,_] s2)).choose_spec.choose_spec.choose_spec.choose_spec.2;obtain⟨ts,⟨t0,t1,t2⟩,tf⟩:=Sep.Co (Sep.pk [_,_] s2);have K3:Hid _:=K2.out _ _ s2;clear KM K2 s2 S1 qf tf q1 q2 q3 q4 t1 t2
 go_wp2_with fail
 refine Calls.mono K3.out ?_;rintro e v3 ⟨rfl,s3⟩;obtain⟨g,m,va,vb,hl,ho⟩:=Sep.iI (Sep.pk [_,_,_,_] s3);obtain⟨zs,⟨z0,z1,z2,z3,z4⟩,zf⟩:=Sep.qY ho;obtain⟨_,av,cv,rfl⟩:=Sep.ints (Sep.pk [_,_] ho);simp only at ho hl z4;have S2:Hid (Sep B w0 v3 (aR 3 (.slice av S.taken.length cv) (S.taken.map (Value.int .i64))::aF C.q (mH C.tq m (.slice av S.taken.length cv) vb S.bot)::dh m g S.cnt::aR 3 vb (S.spare.map (Value.int .i64))::Tx C.t C.f x1::File C.f C.b d::nM C::Pl P::aF qn (.cells (cN p) 170)::l)):=Sep.pk [_,_] ho;have HL:Hid (Gf P S.nodes g):=hl;clear K3 s3 hl ho
 go_wp2_with (at_builtin;refine nu rfl _ _ rfl _ _ rfl (S2.out.alloc _) _ _ k1 rfl (by simp) (by simp;omega) ?_)
 intro ao n' c' v4 s4;obtain⟨xs,⟨x0,x1',x2,x3,x4⟩,xf⟩:=Sep.qY (Sep.pk [_] s4);have f2:=xf 2;have S3:Hid (Sep B w0 (v4.setCell ⟨C.q,2,none⟩ (.slice ao n' c')) (DL C ⟨x1,S.nodes,S.cnt,S.taken++[k1],S.spare,S.bot⟩ d P (aF qn (.cells (cN p) 170)::l))):=by
  have k1':=Sep.ml (x:=.slice ao n' c') (Sep.pk [_] s4) 2;have k2:Sep B w0 (v4.setCell ⟨C.q,2,none⟩ (.slice ao n' c')) (aF C.q (mH C.tq m (.slice ao n' c') vb S.bot)::dh m g S.cnt::aR 3 (.slice ao n' c') ((S.taken++[k1]).map (Value.int .i64))::aR 3 vb (S.spare.map (Value.int .i64))::Tx C.t C.f x1::File C.f C.b d::nM C::Pl P::aF qn (.cells (cN p) 170)::l):=by
   rw[List.map_append];exact Sep.pb [_,_] (Sep.pk [_] k1')
  exact Sep.pb [_,_,_,_] (Sep.oV (C:=C) (S:=⟨x1,S.nodes,S.cnt,S.taken++[k1],S.spare,S.bot⟩) HL.out k2)
 obtain⟨qs',⟨c0,c1,c2,c3⟩,g0,g1,g2,g3⟩:=Sep.c4 (Sep.pk [_,_,_,_,_] S3.out);obtain⟨m',v5,y1,ys,hrun,s5⟩:=K4.out _ _ S3.out.drew;have y1':(v4.setCell ⟨C.q,2,none⟩ (.slice ao n' c')).cell? ⟨C.q,1,none⟩=some (.map (some m')):=y1;have ys':C.q< (v4.setCell ⟨C.q,2,none⟩ (.slice ao n' c')).heap.size:=ys;have S5:Hid (Sep B w0 v5 (DL C ((⟨x1,S.nodes,S.cnt,S.taken++[k1],S.spare,S.bot⟩:Dr).set k1 p.n) d P l)):=Sep.drop (Sep.pk [_,_,_,_,_] s5);clear S2 s4 s5 K4 z0 z1 z2 z3 z4 zf HL S3 y1 ys
 go_wp2_with fail
 generalize World.setCell _ _ _=v6 at*;clear x0 x1' x2 x3 x4 xf f2
 go_region
 all_goals go_wp2
 all_goals go_ret2
 all_goals exact⟨rfl,S5.out⟩
theorem Kf {p:NV}{S':Dr}{k er:Int}(h:Sep B w0 w (DL C S d P l))(hk:Wf id)(ok:S.x.Ok d.room)(hr:d.room<=16384)(hp:p∈P)(he:S.put d.room id p.n=some ((k,er),S')):Calls Tryz.prog 121 #[ptr C.q,.int .i64 id,.agg (cN p)] w fun e w'=>e=.returned (.tuple #[.int .i64 k,.int .i64 er])∧Sep B w0 w' (DL C S' d P l):=by
 unfold Dr.put at he;by_cases hb:(S.okB&&N.cF p.n)=false
 ·rw[if_pos hb]at he;cases he
 ·rw[if_neg hb]at he;have hb':S.okB=true:=by cases h1:S.okB<;>simp[h1]at hb⊢
  by_cases hm:S.may id=true
  ·rw[if_pos hm]at he;cases he;exact OP h hk hb' hp hm
  ·rw[if_neg hm]at he;have hm':S.may id=false:=by simpa using hm
   by_cases hz:(S.x.alloc d.room).1.2=0
   ·rw[if_pos hz]at he;cases he;exact OQ h hk hb' ok hr hp hm' hz
   ·rw[if_neg hz]at he;cases he;exact Kd h hk hb' ok hr hm' hz
theorem Dr.Kg (S:Dr)(id:Int):(S.drop id).x=S.x:=by unfold Dr.drop;split<;>rfl
theorem Gl {p:NV}{S':Dr}{a b k er:Int}(h:Sep B w0 w (DL C S d P l))(ha:Wf a)(hbb:Wf b)(ok:S.x.Ok d.room)(hr:d.room<=16384)(hp:p∈P)(he:S.fY d.room a b p.n=some ((k,er),S')):Calls Tryz.prog 190 #[ptr C.q,.int .i64 a,.int .i64 b,.agg (cN p)] w fun e w'=>e=.returned (.tuple #[.int .i64 k,.int .i64 er])∧Sep B w0 w' (DL C S' d P l):=by
 unfold Dr.fY at he;by_cases hb:S.okB=false
 ·rw[if_pos hb]at he;cases he
 ·rw[if_neg hb]at he;have hb':S.okB=true:=by simpa using hb
  have S1:Hid (Sep B w0 (w.alloc (.cells (cN p) 170)) (DL C S d P (aF w.heap.size (.cells (cN p) 170)::l))):=Sep.pb [_,_,_,_,_] (h.aO _);have KM:Hid _:=Aj S1.out ha hb';by_cases hm:S.may a=true
  ·rw[if_pos hm]at he;rw[hm]at KM;have K2:Hid (∀u L,Sep B w0 u (DL C S d P L)->Calls Tryz.prog 120 #[ptr C.q,.int .i64 b] u fun e w'=>e=.returned (.tuple #[])∧Sep B w0 w' (DL C (S.drop b) d P L)):=fun u L hu=>xQ hu hbb hb';have K3:Hid (∀u L,Sep B w0 u (DL C (S.drop b) d P L)->Calls Tryz.prog 121 #[ptr C.q,.int .i64 a,.agg (cN p)] u fun e w'=>e=.returned (.tuple #[.int .i64 k,.int .i64 er])∧Sep B w0 w' (DL C S' d P L)):=fun u L hu=>Kf hu ha (by rw[Dr.Kg];exact ok) hr hp he;generalize S.drop b=S2 at*;clear h ha hbb ok hr hp he hb hb' hm;go_enter Tryz.func190,Tryz.ntmps190
   go_wp2_with fail
   generalize World.alloc _ _=v1 at*;generalize w.heap.size=qn at*;refine Calls.mono KM.out ?_;rintro e v2 ⟨rfl,s2⟩;have K4:Hid _:=K2.out _ _ s2;clear KM K2 s2 S1
   go_wp2_with fail
   refine Calls.mono K4.out ?_;rintro e v3 ⟨rfl,s3⟩;obtain⟨qs,⟨c0,c1,c2,c3⟩,g0,g1,g2,g3⟩:=Sep.c4 (Sep.pk [_,_,_,_,_] s3);have K5:Hid _:=K3.out _ _ s3;clear K4 K3 s3
   go_wp2_with fail
   refine Calls.mono K5.out ?_;rintro e v4 ⟨rfl,s4⟩;have S4:Hid (Sep B w0 v4 (DL C S' d P l)):=Sep.drop (Sep.pk [_,_,_,_,_] s4);clear K5 s4;go_wp2;go_ret2;exact⟨rfl,S4.out⟩
  ·rw[if_neg hm]at he;have hm':S.may a=false:=by simpa using hm
   rw[hm']at KM;have K2:Hid (∀u L,Sep B w0 u (DL C S d P L)->Calls Tryz.prog 120 #[ptr C.q,.int .i64 a] u fun e w'=>e=.returned (.tuple #[])∧Sep B w0 w' (DL C (S.drop a) d P L)):=fun u L hu=>xQ hu ha hb';have K3:Hid (∀u L,Sep B w0 u (DL C (S.drop a) d P L)->Calls Tryz.prog 121 #[ptr C.q,.int .i64 b,.agg (cN p)] u fun e w'=>e=.returned (.tuple #[.int .i64 k,.int .i64 er])∧Sep B w0 w' (DL C S' d P L)):=fun u L hu=>Kf hu hbb (by rw[Dr.Kg];exact ok) hr hp he;generalize S.drop a=S2 at*;clear h ha hbb ok hr hp he hb hb' hm hm';go_enter Tryz.func190,Tryz.ntmps190
   go_wp2_with fail
   generalize World.alloc _ _=v1 at*;generalize w.heap.size=qn at*;refine Calls.mono KM.out ?_;rintro e v2 ⟨rfl,s2⟩;have K4:Hid _:=K2.out _ _ s2;clear KM K2 s2 S1
   go_wp2_with fail
   refine Calls.mono K4.out ?_;rintro e v3 ⟨rfl,s3⟩;obtain⟨qs,⟨c0,c1,c2,c3⟩,g0,g1,g2,g3⟩:=Sep.c4 (Sep.pk [_,_,_,_,_] s3);have K5:Hid _:=K3.out _ _ s3;clear K4 K3 s3
   go_wp2_with fail
   refine Calls.mono K5.out ?_;rintro e v4 ⟨rfl,s4⟩;have S4:Hid (Sep B w0 v4 (DL C S' d P l)):=Sep.drop (Sep.pk [_,_,_,_,_] s4);clear K5 s4;go_wp2;go_ret2;exact⟨rfl,S4.out⟩
def bH (d d':Dk):Prop:=∃k,gT d d' k
theorem bH.refl (d:Dk):bH d d:=⟨0,gT.refl d⟩
theorem bH.trans {a b c:Dk}(h:bH a b)(k:bH b c):bH a c:=by obtain⟨_,h⟩:=h;obtain⟨_,k⟩:=k;exact⟨_,h.trans k⟩
theorem bH.room {a b:Dk}(h:bH a b):b.room=a.room:=by obtain⟨_,h⟩:=h;exact h.room
theorem bH.dX {a b:Dk}(h:bH a b)(x:TX)(id depth:Int):dX x b id depth=dX x a id depth:=by obtain⟨_,h⟩:=h;exact h.dX x id depth
theorem bH.read {a b:Dk}(h:bH a b)(S:Dr)(id depth:Int):S.read b id depth=S.read a id depth:=by unfold Dr.read;rw[h.dX]
def GD (B:Nat)(w0:World)(C:Cx)(S':Dr)(d:Dk)(P:List NV)(l:List aM)(n:Nd)(er:Int)(e:Ending)(w':World):Prop:=
 ∃p P' d',p.n=n∧p∈P'∧(∀x∈P,x∈P')∧e=.returned (.tuple #[p.v,.int .i64 er])∧bH d d'∧Sep B w0 w' (DL C S' d' P' l)
end
end
section
open N (Nd nd0 aL)
section
variable {B:Nat}{w0 w w':World}{l:List aM}{P:List NV}{C:Cx}{S:Dr}{d:Dk}{id depth:Int}
theorem Sep.Qz (h:Sep B w0 w (DL C S d P l))(hk:Wf id):∃m,w.cell? ⟨C.q,1,none⟩=some (.map (some m))∧w.cell? ⟨C.q,0,none⟩=some (ptr C.tq)∧C.q<w.heap.size∧((S.nodes id=none∧(Instr.lookup 138 (.map (some m)) (.int .i64 id) true).run Tryz.prog w=.ok (.tuple #[.agg cZ,.bool false]) w)∨∃p∈P,S.nodes id=some p.n∧(Instr.lookup 138 (.map (some m)) (.int .i64 id) true).run Tryz.prog w=.ok (.tuple #[.agg (cN p),.bool true]) w):=by
 obtain⟨g,m,va,vb,hl,ho⟩:=Sep.iI (Sep.qu h);obtain⟨qs,⟨q0,q1,q2,q3,q4⟩,qf⟩:=Sep.qY ho;have hlk:=(Sep.ku ho).NF hk;refine⟨m,q1,q0,qs,?_⟩;rcases hl id with⟨h1,h2⟩| ⟨p,hp,h1,h2⟩
 ·rw[h2]at hlk;exact .inl ⟨h1,hlk⟩
 ·rw[h2]at hlk;exact .inr ⟨p,hp,h1,hlk⟩
theorem Gm {p:NV}(h:Sep B w0 w (DL C S d P l))(m:Nat)(q1:w.cell? ⟨C.q,1,none⟩=some (.map (some m)))(qs:C.q<w.heap.size)(hp:p∈P)(hd:depth<24)
  (hlk:(Instr.lookup 138 (.map (some m)) (.int .i64 id) true).run Tryz.prog (w.alloc (.cells cZ 170))=.ok (.tuple #[.agg (cN p),.bool true]) (w.alloc (.cells cZ 170))):
  Calls Tryz.prog 118 #[ptr C.q,.int .i64 id,.int .i64 depth] w (GD B w0 C S d P l p.n 0):=by
 have SF:Hid (Sep B w0 ((w.alloc (.cells (cN p) 170)).alloc (.cells (cN p) 170)) _):=Sep.alloc (h.aO _) _;have HP:Hid (p∈P):=hp;clear h hp;go_enter Tryz.func118,Tryz.ntmps118;go_wp2
 (try simp only[Exit.inBlock,Exit.then])
 clear hlk q1 qs;generalize World.alloc _ _=vf at*;generalize w.heap.size+1=qq at*;generalize w.heap.size=qr at*;obtain⟨_,⟨c0,c1,c2,c3⟩,g0,g1,g2,g3⟩:=Sep.c4 SF.out;refine bodyPost_ret (v:=.tuple #[.agg (cN p),.int .i64 0]) ?_ rfl ⟨p,P,d,rfl,HP.out,fun _ h=>h,rfl,bH.refl d,SF.out.drop⟩;rw[aL rfl];go_simp
theorem Kh:(∀ {p0:NV} (T:bW B w0) (h:Sep B w0 w (DL C S d P l)) (hk:Wf id) (ok:S.x.Ok d.room) (hr:d.room<=16384) (hz:S.x.Sz) (m:Nat) (q0:w.cell? ⟨C.q,0,none⟩=some (ptr C.tq)) (q1:w.cell? ⟨C.q,1,none⟩=some (.map (some m))) (qs:C.q<w.heap.size) (hlk:(Instr.lookup 138 (.map (some m)) (.int .i64 id) true).run Tryz.prog (w.alloc (.cells cZ 170))=.ok (.tuple #[.agg cZ,.bool false]) (w.alloc (.cells cZ 170))),Calls Tryz.prog 118 #[ptr C.q,.int .i64 id,.int .i64 depth] w (GD B w0 C S d P l (dX S.x d id depth).1 (dX S.x d id depth).2))∧
  (∀ {p0:NV} (T:bW B w0) (h:Sep B w0 w (DL C S d P l)) (hk:Wf id) (ok:S.x.Ok d.room) (hr:d.room<=16384) (hz:S.x.Sz) (m:Nat) (q0:w.cell? ⟨C.q,0,none⟩=some (ptr C.tq)) (q1:w.cell? ⟨C.q,1,none⟩=some (.map (some m))) (qs:C.q<w.heap.size) (hd:24<=depth) (hlk:(Instr.lookup 138 (.map (some m)) (.int .i64 id) true).run Tryz.prog (w.alloc (.cells cZ 170))=.ok (.tuple #[.agg (cN p0),.bool true]) (w.alloc (.cells cZ 170))),Calls Tryz.prog 118 #[ptr C.q,.int .i64 id,.int .i64 depth] w (GD B w0 C S d P l (dX S.x d id depth).1 (dX S.x d id depth).2)):=by
 and_intros
 have jq:=trivial
 rotate_left
 have fC:=trivial
 rotate_left
 all_goals
  first
   |have zz:=fC
    intro p0 T h hk ok hr hz m q0 q1 qs hd hlk;have S1:Hid (Sep B w0 ((w.alloc (.cells cZ 170)).alloc (.cells (cN p0) 170)) _):=Sep.alloc (Sep.ur (h.aO _)) _
   |intro p0 T h hk ok hr hz m q0 q1 qs hlk
    have S1:Hid (Sep B w0 ((w.alloc (.cells cZ 170)).alloc (.cells cZ 170)) _):=Sep.alloc (Sep.ur (h.aO _)) _
  have K1:Hid (∀u L,Sep B w0 u (DL C S d P L)->Calls Tryz.prog 101 #[ptr C.tq,.int .i64 id,.int .i64 depth] u fun e w'=>∃p d',p.n=(dX S.x d id depth).1∧e=.returned (.tuple #[.agg (cN p),.int .i64 (dX S.x d id depth).2])∧bH d d'∧Sep B w0 w' (DL C S d' (p::P) L)):=fun u L hu=>(xP T hu hk ok hr hz).mono fun e w' ⟨p,d',h1,h2,h3,h4⟩=>⟨p,d',h1,h2,⟨_,h3⟩,Sep.WC (Sep.xO (Sep.qu h4) fun x hx=>List.mem_cons_of_mem _ hx)⟩;generalize(dX S.x d id depth).1=nn at*;generalize(dX S.x d id depth).2=er at*;clear h hk ok hr hz T;go_enter Tryz.func118,Tryz.ntmps118
  go_wp2_with fail
  clear hlk q0 q1 qs
  first
   |have zz:=fC
    generalize World.alloc _ _=v2 at*
   |generalize World.alloc _ _=v2 at*
  generalize w.heap.size+1=qq at*;generalize w.heap.size=qr at*;refine Calls.mono (K1.out _ _ S1.out) ?_;rintro e v3 ⟨p,d',hn,rfl,hd',s3⟩;have HN:Hid (p.n=nn):=hn;have HD:Hid (bH d d'):=hd';obtain⟨_,⟨c0,c1,c2,c3⟩,g0,g1,g2,g3⟩:=Sep.c4 (Sep.dS s3);have SF:Hid (Sep B w0 ((((v3.setCell ⟨qr,0,none⟩ (.bool p.n.leaf)).setCell ⟨qr,1,none⟩ (.slice p.ae p.n.es.length p.ce)).setCell ⟨qr,2,none⟩ (.slice p.ak p.n.ks.length p.ck)).setCell ⟨qr,3,none⟩ (.slice p.az p.n.ss.length p.cz)) _):=Sep.s4 (Sep.dS s3) _ _ _ _;clear K1 S1 s3 hn hd';go_wp2
  (try simp only[Exit.inBlock,Exit.then])
  generalize World.setCell _ _ _=vf at*;clear c0 c1 c2 c3 g0 g1 g2 g3;obtain⟨_,⟨c0,c1,c2,c3⟩,g0,g1,g2,g3⟩:=Sep.c4 SF.out;refine bodyPost_ret (v:=.tuple #[.agg (cN p),.int .i64 er]) ?_ rfl ⟨p,p::P,d',HN.out,List.mem_cons_self,fun x hx=>List.mem_cons_of_mem _ hx,rfl,HD.out,SF.out.drop⟩;rw[aL rfl];go_simp
theorem qZ (T:bW B w0)(h:Sep B w0 w (DL C S d P l))(hk:Wf id)(ok:S.x.Ok d.room)(hr:d.room<=16384)(hz:S.x.Sz):
  Calls Tryz.prog 118 #[ptr C.q,.int .i64 id,.int .i64 depth] w (GD B w0 C S d P l (S.read d id depth).1 (S.read d id depth).2):=by
 have h1:Sep B w0 (w.alloc (.cells cZ 170)) (DL C S d P l):=h.alloc _;obtain⟨m,q1,q0,qs,hm⟩:=Sep.Qz h hk;obtain⟨m',q1',q0',qs',hm'⟩:=Sep.Qz h1 hk;have e:m'=m:=by
  have:=(Below.cell (p:=⟨C.q,1,none⟩) ((Below.refl _ w).alloc (Nat.le_refl _) (.cells cZ 170)) qs).symm.trans q1';rw[q1]at this;simpa using this.symm
 subst e;unfold Dr.read;rcases hm' with⟨hn,hl⟩| ⟨p,hp,hn,hl⟩
 ·rw[hn,if_neg (by simp)];exact Kh.1 (p0:=pZ) T h hk ok hr hz m' q0 q1 qs hl
 ·by_cases hd:depth<24
  ·rw[hn,if_pos ⟨rfl,hd⟩];exact Gm h m' q1 qs hp hd hl
  ·rw[hn,if_neg (fun h=>hd h.2)];exact Kh.2 (p0:=p) T h hk ok hr hz m' q0 q1 qs (by omega) hl
end
end
section
open N (Nd nd0 aL)
theorem bM {z:Int}(h0:-9223372036854775808<=z)(h1:z<=9223372036854775807):IntKind.i64.wrap z=z:=by
 rw[IntKind.wrap_i64];omega
theorem NV.kid {p:NV}{w:World}(h:p.R w){i:Nat}(hi:i<p.n.ks.length):∃r o,p.ak=some ⟨r,o,none⟩∧r<w.heap.size∧w.cell? ⟨r,o+i,none⟩=some (.int .i64 (p.n.ks.getD i 0)):=by
 obtain⟨ao,cap,e,h1,h2,h3⟩:=h.k;have hne:p.n.ks≠[]:=fun e=>by rw[e]at hi;simp at hi
 obtain⟨b,off,e2,hb,hc⟩:=h3 hne;injection e with e1 _ _;refine⟨b,off,e1.trans e2,hb,?_⟩;rw[hc i (by simpa using hi)];have hs:i<p.n.ks.toArray.size*1:=by simpa using hi
 rw[get_flatK _ _ _ _ hs,Nat.div_one,Nat.mod_one];simp[N.encI,List.getD_eq_getElem?_getD,hi]
theorem pO {fn:Func}{p p' q:Tmp}{ty ty':TypeId}(h:fn.results=#[.cell p ty,.cell p' ty',.tmp q])(tmps:Array Value)(P:Program)(w:World):
  (results fn tmps).run P w=((asAddr (tmps.getD p undef)).run P w).andThen fun a w₁=>((loadVar ty a).run P w₁).andThen fun x w₂=>((asAddr (tmps.getD p' undef)).run P w₂).andThen fun a' w₃=>((loadVar ty' a').run P w₃).andThen fun x' w₄=>.ok (.tuple #[x,x',tmps.getD q undef]) w₄:=by
 simp only[results,h];simp[Sem.run_bind,Result.andThen]
theorem dR {l:List Int}{i:Nat}(h:i<l.length):l.getD i 0∈l:=by
 rw[List.getD_eq_getElem?_getD,List.getElem?_eq_getElem h];exact List.getElem_mem h
def GP (B:Nat)(w0:World)(C:Cx)(S':Dr)(d:Dk)(P:List NV)(l:List aM)(n n':Nd)(er:Int)(e:Ending)(w':World):Prop:=
 ∃p p' P' d',p.n=n∧p'.n=n'∧p∈P'∧p'∈P'∧(∀x∈P,x∈P')∧e=.returned (.tuple #[p.v,p'.v,.int .i64 er])∧bH d d'∧Sep B w0 w' (DL C S' d' P' l)
theorem Sep.aZ {B:Nat}{w0 w:World}{l:List aM}(h:Sep B w0 w l)(o:Obj)(q:Nat)(hq:q=w.heap.size):Sep B w0 (w.alloc o) (aF q o::l):=by subst hq;exact h.aO o
theorem DL.zero {B:Nat}{w0 w:World}{l:List aM}{P:List NV}{C:Cx}{S:Dr}{d:Dk}(h:Sep B w0 w (DL C S d P l)):Sep B w0 w (DL C S d (pZ::P) l):=
 Sep.WC (Sep.xO (Sep.qu (Sep.pN h (Below.refl _ _) (OL _ _))) fun x hx=>List.mem_cons_of_mem _ hx)
theorem Sep.ne {B:Nat}{w0 w:World}{l:List aM}{q q':Nat}{o o':Obj}(h:Sep B w0 w (aF q o::aF q' o'::l)):q≠q':=fun e=>by
 obtain⟨_,_,Y,⟨_,X,Z,hx,⟨_,X',Z',hx',_,_,hz⟩,hd,_⟩,_⟩:=h;exact hd q ((hx.2 q).2 rfl) ((hz q).2 (.inl ((hx'.2 q).2 e)))
section
variable {B:Nat}{w0 w w':World}{l:List aM}{P:List NV}{C:Cx}{S:Dr}{d:Dk}{depth:Int}{ae ak az:Option Addr}{ce ck cz:Nat}{n:Nd}{i:Nat}
theorem Ki (T:bW B w0)(h:Sep B w0 w (DL C S d P l))(hp:(⟨ae,ce,ak,ck,az,cz,n⟩:NV)∈P)(hi:i+1<n.ks.length)(hl:n.ks.length<=500)(hk:∀k∈n.ks,Wf k)(ok:S.x.Ok d.room)(hr:d.room<=16384)(hz:S.x.Sz)(hd0:-1<=depth)(hd1:depth<=1000000)(h0:(S.read d (n.ks.getD i 0) (depth+1)).2≠0):Calls Tryz.prog 188 #[ptr C.q,.agg #[.bool n.leaf,.slice ae n.es.length ce,.slice ak n.ks.length ck,.slice az n.ss.length cz],.int .i64 depth,.int .i64 (i:Int)] w (GP B w0 C S d P l nd0 nd0 (S.read d (n.ks.getD i 0) (depth+1)).2):=by
 obtain⟨r,ro,hak,_⟩:=NV.kid (p:=(⟨ae,ce,ak,ck,az,cz,n⟩:NV)) (Sep.pool (Sep.Ck h) _ hp) (i:=i) (by simp only;omega);simp only at hak;subst hak;have K1:Hid (∀u d' P' L,bH d d'->Sep B w0 u (DL C S d' P' L)->Calls Tryz.prog 118 #[ptr C.q,.int .i64 (n.ks.getD (i) 0),.int .i64 (depth+1)] u fun e w'=>∃pa P2 d2,pa.n=(S.read d (n.ks.getD i 0) (depth+1)).1∧pa∈P2∧(∀x∈P',x∈P2)∧e=.returned (.tuple #[.agg (cN pa),.int .i64 (S.read d (n.ks.getD i 0) (depth+1)).2])∧bH d d2∧Sep B w0 w' (DL C S d2 P2 L)):=fun u d' P' L hd hu=>by
  have:=qZ (depth:=depth+1) T hu (hk _ (dR (by omega:i<n.ks.length))) (by rw[hd.room];exact ok) (by rw[hd.room];exact hr) hz;rw[hd.read]at this;exact this.mono fun e w' ⟨pa,P2,d2,h1,h2,h3,h4,h5,h6⟩=>⟨pa,P2,d2,h1,h2,h3,h4,hd.trans h5,h6⟩
 have S1:Hid (Sep B w0 (((w.alloc (.cells #[.bool n.leaf,.slice ae n.es.length ce,.slice (some ⟨r,ro,none⟩) n.ks.length ck,.slice az n.ss.length cz] 170)).alloc (.cells cZ 170)).alloc (.cells cZ 170)) (DL C S d P (aF w.heap.size (.cells #[.bool n.leaf,.slice ae n.es.length ce,.slice (some ⟨r,ro,none⟩) n.ks.length ck,.slice az n.ss.length cz] 170)::aF (w.heap.size+1) (.cells cZ 170)::aF (w.heap.size+2) (.cells cZ 170)::l))):=Sep.yD (Sep.aZ (Sep.oW (Sep.aZ (Sep.ur (h.aO _)) _ _ (by simp))) _ _ (by simp));obtain⟨r',ro',hak,hrs,hrc⟩:=NV.kid (p:=(⟨ae,ce,some ⟨r,ro,none⟩,ck,az,cz,n⟩:NV)) (Sep.pool (Sep.Ck S1.out) _ hp) (i:=i) (by simp only;omega);cases hak;simp only at hrc;have KR:Hid (∀u d' P' L,Sep B w0 u (DL C S d' P' L)->(⟨ae,ce,some ⟨r,ro,none⟩,ck,az,cz,n⟩:NV)∈P'->r<u.heap.size∧u.cell? ⟨r,ro+(i+1),none⟩=some (.int .i64 (n.ks.getD (i+1) 0))):=fun u d' P' L hu hp'=>by
  obtain⟨r',ro',hak,h1,h2⟩:=NV.kid (p:=(⟨ae,ce,some ⟨r,ro,none⟩,ck,az,cz,n⟩:NV)) (Sep.pool (Sep.Ck hu) _ hp') (i:=i+1) hi;cases hak;exact⟨h1,h2⟩
 have w1:IntKind.i64.wrap (depth+1)=depth+1:=bM (by omega) (by omega);have w2:IntKind.i64.wrap ((i:Int)+1)=((i+1:Nat):Int):=by rw[bM (by omega) (by omega)];rfl
 have hil:(i:Int)< (n.ks.length:Int):=by omega
 have M8:((i+1:Nat):Int)< (n.ks.length:Int):=by omega
 have HP:Hid ((⟨ae,ce,some ⟨r,ro,none⟩,ck,az,cz,n⟩:NV)∈P):=hp;have hne:((S.read d (n.ks.getD i 0) (depth+1)).2 != 0)=true:=bne_iff_ne.2 h0;generalize(S.read d (n.ks.getD i 0) (depth+1))=ra at*;obtain⟨na,ea⟩:=ra;clear h ok hr hz hk T hd0 hd1 hp KR M8 w2 h0;simp only at hne K1⊢;generalize n.ks.getD i 0=ka at*;go_enter Tryz.func188,Tryz.ntmps188
 go_wp2_with fail
 generalize World.alloc _ _=v1 at*;generalize w.heap.size+2=q2 at*;generalize w.heap.size+1=q1 at*;generalize w.heap.size=q0 at*;refine Calls.mono (K1.out _ _ _ _ (bH.refl d) S1.out) ?_;rintro e v3 ⟨pa,P1,d1,hn1,hm1,hs1,rfl,hd1,s3⟩;have S3:Hid (Sep B w0 v3 (DL C S d1 P1 (aF q0 (.cells #[.bool n.leaf,.slice ae n.es.length ce,.slice (some ⟨r,ro,none⟩) n.ks.length ck,.slice az n.ss.length cz] 170)::aF q1 (.cells cZ 170)::aF q2 (.cells cZ 170)::l))):=s3;have D1:Hid (bH d d1):=hd1;have M1:Hid (∀x∈P,x∈P1):=hs1;obtain⟨_,⟨c0,c1,c2,c3⟩,g0,g1,g2,g3⟩:=Sep.c4 (Sep.cX s3);obtain⟨_,⟨e0,e1,e2,e3⟩,f0,f1,f2,f3⟩:=Sep.c4 (Sep.eH s3);have n12:q1≠q2:=Sep.ne (Sep.eH (Sep.eH s3));clear S1 K1 s3 hrc hrs hn1 hm1 hs1 hd1;have n21:=n12.symm;have SF:Hid (Sep B w0 (((((((((v3.setCell ⟨q1,0,none⟩ (.bool false)).setCell ⟨q1,1,none⟩ (.slice none 0 0)).setCell ⟨q1,2,none⟩ (.slice none 0 0)).setCell ⟨q1,3,none⟩ (.slice none 0 0)).setCell ⟨q2,0,none⟩ (.bool false)).setCell ⟨q2,1,none⟩ (.slice none 0 0)).setCell ⟨q2,2,none⟩ (.slice none 0 0)).setCell ⟨q2,3,none⟩ (.slice none 0 0)).alloc (.cells (cN pa) 170)) _):=Sep.alloc (Sep.yD (Sep.s4 (Sep.eH (Sep.oW (Sep.s4 (Sep.cX S3.out) _ _ _ _))) _ _ _ _)) _;clear S3;go_wp2
 (try simp only[Exit.inBlock,Exit.then])
 generalize World.setCell _ _ _=vf at*;clear c0 c1 c2 c3 g0 g1 g2 g3 e0 e1 e2 e3 f0 f1 f2 f3;obtain⟨_,⟨c0,c1,c2,c3⟩,g0,g1,g2,g3⟩:=Sep.c4 (Sep.cX SF.out);obtain⟨_,⟨e0,e1,e2,e3⟩,f0,f1,f2,f3⟩:=Sep.c4 (Sep.eH SF.out);refine bodyPost_ret (v:=.tuple #[.agg cZ,.agg cZ,.int .i64 ea]) ?_ rfl ⟨pZ,pZ,pZ::P1,d1,rfl,rfl,List.mem_cons_self,List.mem_cons_self,fun x hx=>List.mem_cons_of_mem _ (M1.out x hx),rfl,D1.out,DL.zero (Sep.drop (Sep.dS (Sep.drop (Sep.cX (Sep.drop (Sep.eH SF.out))))))⟩;rw[pO rfl];go_simp
theorem OS (T:bW B w0)(h:Sep B w0 w (DL C S d P l))(hp:(⟨ae,ce,ak,ck,az,cz,n⟩:NV)∈P)(hi:i+1<n.ks.length)(hl:n.ks.length<=500)(hk:∀k∈n.ks,Wf k)(ok:S.x.Ok d.room)(hr:d.room<=16384)(hz:S.x.Sz)(hd0:-1<=depth)(hd1:depth<=1000000)(h0:(S.read d (n.ks.getD i 0) (depth+1)).2=0):Calls Tryz.prog 188 #[ptr C.q,.agg #[.bool n.leaf,.slice ae n.es.length ce,.slice ak n.ks.length ck,.slice az n.ss.length cz],.int .i64 depth,.int .i64 (i:Int)] w (GP B w0 C S d P l (S.read d (n.ks.getD i 0) (depth+1)).1 (S.read d (n.ks.getD (i+1) 0) (depth+1)).1 (S.read d (n.ks.getD (i+1) 0) (depth+1)).2):=by
 obtain⟨r,ro,hak,_⟩:=NV.kid (p:=(⟨ae,ce,ak,ck,az,cz,n⟩:NV)) (Sep.pool (Sep.Ck h) _ hp) (i:=i) (by simp only;omega);simp only at hak;subst hak;have K1:Hid (∀u d' P' L,bH d d'->Sep B w0 u (DL C S d' P' L)->Calls Tryz.prog 118 #[ptr C.q,.int .i64 (n.ks.getD (i) 0),.int .i64 (depth+1)] u fun e w'=>∃pa P2 d2,pa.n=(S.read d (n.ks.getD i 0) (depth+1)).1∧pa∈P2∧(∀x∈P',x∈P2)∧e=.returned (.tuple #[.agg (cN pa),.int .i64 (S.read d (n.ks.getD i 0) (depth+1)).2])∧bH d d2∧Sep B w0 w' (DL C S d2 P2 L)):=fun u d' P' L hd hu=>by
  have:=qZ (depth:=depth+1) T hu (hk _ (dR (by omega:i<n.ks.length))) (by rw[hd.room];exact ok) (by rw[hd.room];exact hr) hz;rw[hd.read]at this;exact this.mono fun e w' ⟨pa,P2,d2,h1,h2,h3,h4,h5,h6⟩=>⟨pa,P2,d2,h1,h2,h3,h4,hd.trans h5,h6⟩
 have K2:Hid (∀u d' P' L,bH d d'->Sep B w0 u (DL C S d' P' L)->Calls Tryz.prog 118 #[ptr C.q,.int .i64 (n.ks.getD (i+1) 0),.int .i64 (depth+1)] u fun e w'=>∃pa P2 d2,pa.n=(S.read d (n.ks.getD (i+1) 0) (depth+1)).1∧pa∈P2∧(∀x∈P',x∈P2)∧e=.returned (.tuple #[.agg (cN pa),.int .i64 (S.read d (n.ks.getD (i+1) 0) (depth+1)).2])∧bH d d2∧Sep B w0 w' (DL C S d2 P2 L)):=fun u d' P' L hd hu=>by
  have:=qZ (depth:=depth+1) T hu (hk _ (dR (by omega:i+1<n.ks.length))) (by rw[hd.room];exact ok) (by rw[hd.room];exact hr) hz;rw[hd.read]at this;exact this.mono fun e w' ⟨pa,P2,d2,h1,h2,h3,h4,h5,h6⟩=>⟨pa,P2,d2,h1,h2,h3,h4,hd.trans h5,h6⟩
 have S1:Hid (Sep B w0 (((w.alloc (.cells #[.bool n.leaf,.slice ae n.es.length ce,.slice (some ⟨r,ro,none⟩) n.ks.length ck,.slice az n.ss.length cz] 170)).alloc (.cells cZ 170)).alloc (.cells cZ 170)) (DL C S d P (aF w.heap.size (.cells #[.bool n.leaf,.slice ae n.es.length ce,.slice (some ⟨r,ro,none⟩) n.ks.length ck,.slice az n.ss.length cz] 170)::aF (w.heap.size+1) (.cells cZ 170)::aF (w.heap.size+2) (.cells cZ 170)::l))):=Sep.yD (Sep.aZ (Sep.oW (Sep.aZ (Sep.ur (h.aO _)) _ _ (by simp))) _ _ (by simp));obtain⟨r',ro',hak,hrs,hrc⟩:=NV.kid (p:=(⟨ae,ce,some ⟨r,ro,none⟩,ck,az,cz,n⟩:NV)) (Sep.pool (Sep.Ck S1.out) _ hp) (i:=i) (by simp only;omega);cases hak;simp only at hrc;have KR:Hid (∀u d' P' L,Sep B w0 u (DL C S d' P' L)->(⟨ae,ce,some ⟨r,ro,none⟩,ck,az,cz,n⟩:NV)∈P'->r<u.heap.size∧u.cell? ⟨r,ro+(i+1),none⟩=some (.int .i64 (n.ks.getD (i+1) 0))):=fun u d' P' L hu hp'=>by
  obtain⟨r',ro',hak,h1,h2⟩:=NV.kid (p:=(⟨ae,ce,some ⟨r,ro,none⟩,ck,az,cz,n⟩:NV)) (Sep.pool (Sep.Ck hu) _ hp') (i:=i+1) hi;cases hak;exact⟨h1,h2⟩
 have w1:IntKind.i64.wrap (depth+1)=depth+1:=bM (by omega) (by omega);have w2:IntKind.i64.wrap ((i:Int)+1)=((i+1:Nat):Int):=by rw[bM (by omega) (by omega)];rfl
 have hil:(i:Int)< (n.ks.length:Int):=by omega
 have M8:((i+1:Nat):Int)< (n.ks.length:Int):=by omega
 have HP:Hid ((⟨ae,ce,some ⟨r,ro,none⟩,ck,az,cz,n⟩:NV)∈P):=hp;have wk:∀z:Int,z=n.ks.getD (i+1) 0->True:=fun _ _=>trivial;rw[h0]at K1;generalize(S.read d (n.ks.getD i 0) (depth+1)).1=na at*;generalize(S.read d (n.ks.getD (i+1) 0) (depth+1)).1=nb at*;generalize(S.read d (n.ks.getD (i+1) 0) (depth+1)).2=eb at*;generalize n.ks.getD (i+1) 0=kb at*;clear h ok hr hz hk T hd0 hd1 hp h0 wk;generalize n.ks.getD i 0=ka at*;go_enter Tryz.func188,Tryz.ntmps188
 go_wp2_with fail
 generalize World.alloc _ _=v1 at*;generalize w.heap.size+2=q2 at*;generalize w.heap.size+1=q1 at*;generalize w.heap.size=q0 at*;refine Calls.mono (K1.out _ _ _ _ (bH.refl d) S1.out) ?_;rintro e v3 ⟨pa,P1,d1,hn1,hm1,hs1,rfl,hd1,s3⟩;have S3:Hid (Sep B w0 v3 (DL C S d1 P1 (aF q0 (.cells #[.bool n.leaf,.slice ae n.es.length ce,.slice (some ⟨r,ro,none⟩) n.ks.length ck,.slice az n.ss.length cz] 170)::aF q1 (.cells cZ 170)::aF q2 (.cells cZ 170)::l))):=s3;have D1:Hid (bH d d1):=hd1;have M1:Hid (∀x∈P,x∈P1):=hs1;have N1:Hid (pa.n=na):=hn1;have MA:Hid (pa∈P1):=hm1;have S4:Hid (Sep B w0 (v3.alloc (.cells (cN pa) 170)) _):=Sep.Mc (Sep.aO S3.out _);obtain⟨qs0,⟨c0,c1,c2,c3⟩,g0,g1,g2,g3⟩:=Sep.c4 (Sep.dS S3.out);obtain⟨ZG,ZH⟩:=KR.out _ _ _ _ S4.out (hs1 _ HP.out);clear S1 K1 s3 hrc hrs hn1 hm1 hs1 hd1 S3 KR
 go_wp2_with fail
 clear c0 c1 c2 c3 g0 g1 g2 g3 ZG ZH qs0;generalize World.alloc _ _=v4 at*;generalize v3.heap.size=q3 at*;refine Calls.mono (K2.out _ _ _ _ D1.out S4.out) ?_;rintro e v5 ⟨pb,P2,d2,hn2,hm2,hs2,rfl,hd2,s5⟩;have S5:Hid (Sep B w0 (v5.alloc (.cells (cN pb) 170)) _):=Sep.Yc (Sep.aO s5 _);have D2:Hid (bH d d2):=hd2;have M2:Hid (∀x∈P1,x∈P2):=hs2;have N2:Hid (pb.n=nb):=hn2;have MB:Hid (pb∈P2):=hm2;clear s5 S4 K2 hn2 hm2 hs2 hd2 D1
 go_wp2_with fail
 generalize World.alloc _ _=v6 at*;generalize v5.heap.size=q4 at*;obtain⟨qa,⟨c0,c1,c2,c3⟩,g0,g1,g2,g3⟩:=Sep.c4 (Sep.cX S5.out);obtain⟨qb,⟨e0,e1,e2,e3⟩,f0,f1,f2,f3⟩:=Sep.c4 (Sep.eH S5.out);obtain⟨qc,⟨i0,i1,i2,i3⟩,_⟩:=Sep.c4 (Sep.je S5.out);obtain⟨qd,⟨j0,j1,j2,j3⟩,_⟩:=Sep.c4 (Sep.qw S5.out);have n12:q1≠q2:=Sep.ne (Sep.eH (Sep.eH S5.out));have n21:=n12.symm;have n13:q1≠q3:=Sep.ne (Sep.eH (Sep.je S5.out));have n31:=n13.symm;have n14:q1≠q4:=Sep.ne (Sep.eH (Sep.qw S5.out));have n41:=n14.symm;have n23:q2≠q3:=Sep.ne (Sep.je (Sep.je S5.out));have n32:=n23.symm;have n24:q2≠q4:=Sep.ne (Sep.je (Sep.qw S5.out));have n42:=n24.symm;have SF:Hid (Sep B w0 ((((((((v6.setCell ⟨q1,0,none⟩ (.bool pa.n.leaf)).setCell ⟨q1,1,none⟩ (.slice pa.ae pa.n.es.length pa.ce)).setCell ⟨q1,2,none⟩ (.slice pa.ak pa.n.ks.length pa.ck)).setCell ⟨q1,3,none⟩ (.slice pa.az pa.n.ss.length pa.cz)).setCell ⟨q2,0,none⟩ (.bool pb.n.leaf)).setCell ⟨q2,1,none⟩ (.slice pb.ae pb.n.es.length pb.ce)).setCell ⟨q2,2,none⟩ (.slice pb.ak pb.n.ks.length pb.ck)).setCell ⟨q2,3,none⟩ (.slice pb.az pb.n.ss.length pb.cz)).drew (DL C S d2 P2 (aF q0 (.cells #[.bool n.leaf,.slice ae n.es.length ce,.slice (some ⟨r,ro,none⟩) n.ks.length ck,.slice az n.ss.length cz] 170)::aF q1 (.cells (cN pa) 170)::aF q2 (.cells (cN pb) 170)::aF q3 (.cells (cN pa) 170)::aF q4 (.cells (cN pb) 170)::l))):=Sep.drew (Sep.yD (Sep.s4 (Sep.eH (Sep.oW (Sep.s4 (Sep.cX S5.out) _ _ _ _))) _ _ _ _));clear S5
 go_region
 all_goals go_wp2
 generalize World.setCell _ _ _=vf at*;clear c0 c1 c2 c3 g0 g1 g2 g3 e0 e1 e2 e3 f0 f1 f2 f3 i0 i1 i2 i3 j0 j1 j2 j3 qa qb qc qd;obtain⟨_,⟨c0,c1,c2,c3⟩,g0,g1,g2,g3⟩:=Sep.c4 (Sep.cX SF.out);obtain⟨_,⟨e0,e1,e2,e3⟩,f0,f1,f2,f3⟩:=Sep.c4 (Sep.eH SF.out);refine bodyPost_ret (v:=.tuple #[.agg (cN pa),.agg (cN pb),.int .i64 eb]) ?_ rfl ⟨pa,pb,P2,d2,N1.out,N2.out,M2.out _ MA.out,MB.out,fun x hx=>M2.out x (M1.out x hx),rfl,D2.out,Sep.drop (Sep.dS (Sep.drop (Sep.cX (Sep.drop (Sep.eH (Sep.drop (Sep.je (Sep.drop (Sep.qw SF.out)))))))))⟩;rw[pO rfl];go_simp
end
end
end Go.Proofs.YtcenfooehjcddaaGreatDoor
namespace Go.Proofs.YtcenfooehjcddaaGreatDoor
section
open Go.RowKit
open N (Nd nd0 cF dF dZ cY bV qG uD vA lr vz Eg Sm jo gG)
structure DI (S:Dr)(room:Nat):Prop where
 ok:S.x.Ok room
 sz:S.x.Sz
 ns:∀k n,S.nodes k=some n->cF n=true
theorem TX.Al {x:TX}(h:x.Sz)(room:Nat):(x.alloc room).2.Sz:=by
 obtain⟨fr,p,g,c⟩:=x;unfold TX.alloc;have key:∀(k:Int),∀q c',gY g k c0 q=some c'->c'.body.size<=240:=fun k q c' hc=>by
  unfold gY at hc;split at hc
  ·cases hc;simp[c0]
  ·exact h q c' hc
 cases fr with
 |cons r s=>exact fun q c' hc=>key r.1 q c' hc
 |nil=>
  simp only;split
  ·exact h
  ·exact fun q c' hc=>key _ q c' hc
theorem DI.drop {S:Dr}{room:Nat}(h:DI S room)(id:Int):DI (S.drop id) room:=by
 unfold Dr.drop;split
 ·refine⟨h.ok,h.sz,fun k n hn=>?_⟩;simp only at hn;split at hn
  ·cases hn
  ·exact h.ns k n hn
 ·exact h
theorem DI.set {S:Dr}{room:Nat}(h:DI S room)(id:Int){n:Nd}(hf:cF n=true):DI (S.set id n) room:=by
 refine⟨h.ok,h.sz,fun k m hm=>?_⟩;unfold Dr.set at hm;simp only at hm;split at hm
 ·cases hm;exact hf
 ·exact h.ns k m hm
theorem DI.put {S S':Dr}{room:Nat}(h:DI S room){id:Int}{n:Nd}{r:Int×Int}(he:S.put room id n=some (r,S')):DI S' room:=by
 unfold Dr.put at he;split at he
 ·cases he
 ·rename_i hb
  have hf:cF n=true:=by cases h1:cF n<;>simp[h1]at hb⊢
  split at he
  ·cases he;exact h.set _ hf
  ·split at he
   ·cases he;exact DI.set (S:=S.took room) ⟨TX.tE h.ok,TX.Al h.sz room,h.ns⟩ _ hf
   ·cases he;exact⟨TX.tE h.ok,TX.Al h.sz room,h.ns⟩
theorem DI.fY {S S':Dr}{room:Nat}(h:DI S room){a b:Int}{n:Nd}{r:Int×Int}(he:S.fY room a b n=some (r,S')):DI S' room:=by
 unfold Dr.fY at he;split at he
 ·cases he
 ·split at he
  ·exact(h.drop b).put he
  ·exact(h.drop a).put he
theorem DI.join {rec:qV}{S S':Dr}{room:Nat}{d:Dk}{n:Nd}{depth i first:Int}{r:Nd×Bool×Int}(h:DI S room)
  (hr:∀ {S S':Dr} {n:Nd} {depth i tt:Int} {r:Nd×Int},DI S room->rec S n depth i tt=some (r,S')->DI S' room)
  (he:gq rec room d S n depth i first=some (r,S')):DI S' room:=by
 unfold gq at he
 repeat' split at he
 all_goals first
  |(cases he;done)
  |(cases he;exact h)
  |skip
 ·cases he;exact hr h (by assumption)
 ·cases he
  rename_i h1 h2 _ _ _ h3
  exact(hr h (by assumption)).fY (by assumption)
theorem DI.settle {room:Nat}{d:Dk}:∀(f:Nat) {S S':Dr} {n:Nd} {depth i tt:Int} {r:Nd×Int},DI S room->bf room d f S n depth i tt=some (r,S')->DI S' room
 |0,_,_,_,_,_,_,_,_,he=>by cases he
 |f+1,S,S',n,depth,i,tt,r,h,he=>by
  unfold bf at he;split at he
  ·cases he
  ·split at he
   ·split at he
    ·cases he
    ·rename_i hj
     have h1:=DI.join h (fun h he=>DI.settle f h he) hj;split at he
     ·cases he;exact h1
     ·split at he
      ·exact DI.settle f h1 he
      ·exact DI.settle f h1 he
   ·cases he;exact h
theorem Em {kind:Int}{s:List UInt8}(h:lr (vA kind s)=0):cF (uD kind s)=true:=by
 cases hd:vz kind s with
 |none=>
  rw[(N.ja hd).2]at h;cases h
 |some n=>
  obtain⟨h1,h2,_⟩:=N.I3 hd;rw[(N.nL hd).1];unfold cF;rw[h1,decide_eq_true h2];rfl
theorem Kj {x:TX}{d:Dk}{id depth:Int}(h:(dX x d id depth).2=0):cF (dX x d id depth).1=true:=by
 unfold dX at h⊢;split
 ·rfl
 ·rename_i h0
  rw[if_neg h0]at h;split
  ·rename_i h1;rw[if_pos h1]at h;cases h
  ·rename_i h1
   rw[if_neg h1]at h;split
   ·rename_i h2
    rw[if_pos h2]at h;split
    ·rename_i h3;rw[if_pos h3]at h;exact Em h
    ·rename_i h3;rw[if_neg h3]at h;exact absurd h h3
   ·rename_i h2
    rw[if_neg h2]at h;split
    ·rename_i h3;rw[if_pos h3]at h;exact Em h
    ·rename_i h3;rw[if_neg h3]at h;exact absurd h h3
theorem DI.read {S:Dr}{room:Nat}(h:DI S room){d:Dk}{id depth:Int}(he:(S.read d id depth).2=0):cF (S.read d id depth).1=true:=by
 unfold Dr.read at he⊢;split
 ·rename_i hc
  obtain⟨n,hn⟩:=Option.isSome_iff_exists.1 hc.1;rw[hn];exact h.ns id n hn
 ·rename_i hc
  rw[if_neg hc]at he;exact Kj he
theorem gI {n:Nd}(h:cF n=true):Sm n∧cB n=true∧∀k∈n.ks,Wf k:=by
 unfold cF at h;simp only[Bool.and_eq_true,decide_eq_true_eq]at h;have hs:=Eg h.1 h.2;have a:=N.kY n.es;have b:=N.kZ n.ss;obtain⟨h1,h2⟩:=h;unfold dZ at h2;cases hl:n.leaf
 ·rw[hl,if_neg (by simp)]at h2;obtain⟨e1,e2,e3,e4,e5⟩:=(N.fK hl).1 h1;have hk:∀k∈n.ks,2<=k∧k<=4294967295:=fun k hk=>N.mZ.1 (N.xj e4 hk);have z:cY n.es=0:=by rw[e1];rfl
  refine⟨hs,?_,fun k hk'=>Wf.of_lt (by have:=hk k hk';omega) (hk k hk').2⟩;unfold cB;simp only[Bool.and_eq_true,decide_eq_true_eq,List.all_eq_true];refine⟨⟨⟨⟨⟨?_,?_⟩,?_⟩,?_⟩,?_⟩,fun k hk'=>?_⟩
  ·rw[e1];simp
  ·omega
  ·omega
  ·omega
  ·omega
  ·have:=hk k hk';omega
 ·rw[hl,if_pos rfl]at h2;obtain⟨e1,e2,_⟩:=(N.fX hl).1 h1;refine⟨hs,?_,fun k hk'=>by rw[e1]at hk';cases hk'⟩;unfold cB;rw[e1,e2];simp only[Bool.and_eq_true,decide_eq_true_eq,List.all_eq_true];refine⟨⟨⟨⟨⟨?_,?_⟩,?_⟩,?_⟩,?_⟩,fun k hk'=>absurd hk' List.not_mem_nil⟩
  ·omega
  ·simp
  ·simp
  ·omega
  ·simp[bV]
theorem fe {n:Nd}(h:cB n=true):Sm n∧n.ks.length<=500∧n.es.length<=500∧n.ss.length<=500∧∀k∈n.ks,Wf k:=by
 unfold cB at h;simp only[Bool.and_eq_true,decide_eq_true_eq,List.all_eq_true]at h;obtain⟨⟨⟨⟨⟨h1,h2⟩,h3⟩,h4⟩,h5⟩,h6⟩:=h;exact⟨⟨by omega,by omega,by omega,by omega,by omega⟩,h2,h1,h3,fun k hk=>Wf.of_lt (h6 k hk).1 (h6 k hk).2⟩
end
end Go.Proofs.YtcenfooehjcddaaGreatDoor
