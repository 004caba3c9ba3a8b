/- Walks of the package cowtree and of what it stands on: lemmas, made short. -/
import Derived.Test.YtcenfooehjcddaaGreatDoorR15
import Derived.Test.YtcenfooehjcddaaGreatDoorR4
set_option maxHeartbeats 16000000
set_option maxRecDepth 100000
set_option linter.unusedVariables false
set_option linter.unusedSimpArgs false
namespace Go.Proofs.YtcenfooehjcddaaGreatDoor
open Go.Shelf Go.RowKit Go.Lib Go.Sort
namespace P
open N (En bB Rg cJ aV jD iv gN iC)
section
variable {α:Type}{pl:Nat}{tt et:TypeId}{enc:α->List Value}{v:Value}{s:List α}{y:α}{B:Nat}{w0 w:World}{l:List aM}
def iN (et:TypeId)(enc:α->List Value)(v:Value)(s:List α):aM:=RowK et 2 v s.length (s.flatMap enc)
theorem oq:Good (iN et enc v s):=gB _ _ _ _ _
theorem Q7 (h:Sep B w0 w (RowK et 2 v (s.length+1) (s.flatMap enc++enc y)::l)):Sep B w0 w (iN et enc v (s++[y])::l):=by
 unfold iN;rw[List.length_append,List.length_singleton,List.flatMap_append,List.flatMap_cons,List.flatMap_nil,List.append_nil];exact h
theorem Sep.Q8 (h:Sep B w0 w l):Sep B w0 w (iN et enc (.slice none 0 0) ([]:List α)::l):=by
 unfold iN;simpa using Sep.TI (e:=et) (k:=2) h
def UO (pl:Nat)(tt et:TypeId)(enc:α->List Value)(s:List α):aM:=fun w X=>∃v,Both (aF pl (.cells #[v] tt)) (iN et enc v s) w X
theorem AQ:Good (UO pl tt et enc s):=
 ⟨fun w w' X ⟨v,h⟩ hk hs=>⟨v,(aQ (aU _ _) oq).kept w w' X h hk hs⟩,fun w X ⟨v,h⟩=>(aQ (aU _ _) oq).lt w X h⟩
theorem Sep.pA (h:Sep B w0 w (UO pl tt et enc s::l)):∃ao c,Sep B w0 w (aF pl (.cells #[.slice ao s.length c] tt)::iN et enc (.slice ao s.length c) s::l):=by
 obtain⟨hB,hb,Y,⟨gg,X,Z,⟨v,hX⟩,hz,hd,hy⟩,hY⟩:=h;have h0:Hp w (Both (aF pl (.cells #[v] tt)) (iN et enc v s)::l) Y:=⟨aQ (aU _ _) oq,X,Z,hX,hz,hd,hy⟩;have h1:Sep B w0 w (aF pl (.cells #[v] tt)::iN et enc v s::l):=⟨hB,hb,Y,Hp.part (aU _ _) oq h0,hY⟩;obtain⟨ao,c,rfl⟩:=Sep.vT (n:=s.length) (Sep.pk [_] h1);exact⟨ao,c,h1⟩
theorem Sep.CV (h:Sep B w0 w (aF pl (.cells #[v] tt)::iN et enc v s::l)):Sep B w0 w (UO pl tt et enc s::l):=by
 obtain⟨hB,hb,Y,⟨gg,X,Z,hX,hz,hd,hy⟩,hY⟩:=Sep.join h;exact⟨hB,hb,Y,⟨AQ,X,Z,⟨v,hX⟩,hz,hd,hy⟩,hY⟩
end
def fR (y:Int×Bool):List Value:=[.int .i64 y.1,.bool y.2]
def jN (y:Int×Int):List Value:=[.int .i64 y.1,.int .i64 y.2]
theorem LN (y:Int×Bool):∀u∈fR y,u.oneCell'=true:=fun v hv=>by simp[fR]at hv;rcases hv with rfl|rfl<;>rfl
theorem LO (y:Int×Int):∀u∈jN y,u.oneCell'=true:=fun v hv=>by simp[jN]at hv;rcases hv with rfl|rfl<;>rfl
theorem LP:(Tryz.prog.info? 65).map (fun i=>(i.zero,i.size,i.bytes))=some (some (.agg #[.int .i64 0,.bool false]),2,16):=by kernel_rfl
theorem UQ:(Tryz.prog.info? 35).map (fun i=>(i.zero,i.size,i.bytes))=some (some (.agg #[.int .i64 0,.int .i64 0]),2,16):=by kernel_rfl
abbrev Vl (pl:Nat):List (Int×Bool)->aM:=UO pl 57 65 fR
abbrev Q9 (pl:Nat):List (Int×Int)->aM:=UO pl 29 35 jN
section
variable {B:Nat}{w0 w w':World}{C:Cx}{d:Dk}{l:List aM}{E:List En}{k q n pl:Nat}
theorem GY:YE B w0 d C E k 52 #[.pointer (some ⟨pl,0,none⟩)] (fun s v b=>s++[(v,b)]) (Vl pl) List.length:=by
 intro w L s v b hs _ h;obtain⟨r,x,d1,P,X,H,s0,r1⟩:=h;have HR:Hid (bH d d1∧Tx d.room d x r E X H∧Mn d.room x X∧x.cnt<=1000*k):=r1;obtain⟨ao,c,ho⟩:=Sep.pA (Sep.pk [_,_,_,_] s0);have hn:s.length<1000000:=by omega
 have SB:Hid (Sep B w0 (w.alloc (.cells #[.int .i64 v,.bool b] 65)) (RowK 65 2 (.slice ao s.length c) s.length (s.flatMap fR)::aF w.heap.size (.cells #[.int .i64 v,.bool b] 65)::aF pl (.cells #[.slice ao s.length c] 57)::TL (C.eV r) x d1 P L)):=Sep.pk [_,_] (ho.aO _);have QU:Hid _:=CQ (news:=fR (v,b)) (Sep.blk (Sep.pk [_] SB.out));obtain⟨ps,p0,_⟩:=Sep.c1 ho;clear s0 ho hs r1;go_enter Tryz.func52,Tryz.ntmps52
 go_wp2_with (at_builtin;refine UA rfl rfl LP Tryz.underlying57 rfl (by decide) (by decide) _ rfl SB.out rfl QU.out rfl (LN (v,b)) hn ?_;intro Lx c5 w5 s5;have S5:Hid (Sep B w0 w5 (aF pl (.cells #[.slice ao s.length c] 57)::iN 65 fR (.slice Lx (s.length+1) c5) (s++[(v,b)])::TL (C.eV r) x d1 P L)):=Sep.pk [_] (Q7 (Sep.drop (Sep.pk [_] s5)));clear s5 SB QU;obtain⟨qs,q0,qf⟩:=Sep.c1 S5.out)
 have SF:Hid (Sep B w0 (w5.setCell ⟨pl,0,none⟩ (.slice Lx (s.length+1) c5)) (TL (C.eV r) x d1 P (Vl pl (s++[(v,b)])::L))):=by
  have h6:=Sep.ml (x:=.slice Lx (s.length+1) c5) S5.out 0;exact Sep.pb [_,_,_,_] (Sep.CV h6)
 go_end0
 exact⟨rfl,r,x,d1,P,X,H,SF.out,HR.out⟩
theorem GZ:YD B w0 d C E k 42 #[.pointer (some ⟨pl,0,none⟩)] (fun s u v _=>if u<v then s++[(u,v)]else s) (Q9 pl) List.length:=by
 intro w L s u v b hs _ _ h;show Calls Tryz.prog _ _ w fun e w'=>e=_∧aI B w0 d C E k (Q9 pl (if u<v then s++[(u,v)]else s)::L) w';by_cases hl:u<v
 ·rw[if_pos hl];obtain⟨r,x,d1,P,X,H,s0,r1⟩:=h;have HR:Hid (bH d d1∧Tx d.room d x r E X H∧Mn d.room x X∧x.cnt<=1000*k):=r1;obtain⟨ao,c,ho⟩:=Sep.pA (Sep.pk [_,_,_,_] s0);have hn:s.length<1000000:=by omega
  have SB:Hid (Sep B w0 (w.alloc (.cells #[.int .i64 u,.int .i64 v] 35)) (RowK 35 2 (.slice ao s.length c) s.length (s.flatMap jN)::aF w.heap.size (.cells #[.int .i64 u,.int .i64 v] 35)::aF pl (.cells #[.slice ao s.length c] 29)::TL (C.eV r) x d1 P L)):=Sep.pk [_,_] (ho.aO _);have QU:Hid _:=CQ (news:=jN (u,v)) (Sep.blk (Sep.pk [_] SB.out));obtain⟨ps,p0,_⟩:=Sep.c1 ho;clear s0 ho hs r1;go_enter Tryz.func42,Tryz.ntmps42
  go_wp2_with (at_builtin;refine UA rfl rfl UQ Tryz.underlying29 rfl (by decide) (by decide) _ rfl SB.out rfl QU.out rfl (LO (u,v)) hn ?_;intro Lx c5 w5 s5;have S5:Hid (Sep B w0 w5 (aF pl (.cells #[.slice ao s.length c] 29)::iN 35 jN (.slice Lx (s.length+1) c5) (s++[(u,v)])::TL (C.eV r) x d1 P L)):=Sep.pk [_] (Q7 (Sep.drop (Sep.pk [_] s5)));clear s5 SB QU;obtain⟨qs,q0,qf⟩:=Sep.c1 S5.out)
  have SF:Hid (Sep B w0 (w5.setCell ⟨pl,0,none⟩ (.slice Lx (s.length+1) c5)) (TL (C.eV r) x d1 P (Q9 pl (s++[(u,v)])::L))):=by
   have h6:=Sep.ml (x:=.slice Lx (s.length+1) c5) S5.out 0;exact Sep.pb [_,_,_,_] (Sep.CV h6)
  go_end0
  exact⟨rfl,r,x,d1,P,X,H,SF.out,HR.out⟩
 ·rw[if_neg hl];have HS:Hid (aI B w0 d C E k (Q9 pl s::L) w):=h;clear h hs;go_enter Tryz.func42,Tryz.ntmps42;go_wp2
  go_end0
  exact⟨rfl,HS.out⟩
end
end P
namespace P
open N (En bB Rg cJ aV jD iv gN iC)
section
variable {B:Nat}{w0 w w':World}{C:Cx}{d:Dk}{l:List aM}{E:List En}{k q n pl:Nat}{u:Int}{α:Type}{tt et:TypeId}{enc:α->List Value}{s:List α}
theorem aI.pA (h:aI B w0 d C E k (UO pl tt et enc s::l) w):∃ao c,aI B w0 d C E k (aF pl (.cells #[.slice ao s.length c] tt)::iN et enc (.slice ao s.length c) s::l) w:=by
 obtain⟨r,x,d1,P,X,H,s0,r1⟩:=h;obtain⟨ao,c,h1⟩:=Sep.pA (Sep.pk [_,_,_,_] s0);exact⟨ao,c,r,x,d1,P,X,H,Sep.pb [_,_,_,_,_] (Sep.pb [_,_,_,_,_] h1),r1⟩
theorem aI.Ra (h:aI B w0 d C E k l w):aI B w0 d C E k (UO w.heap.size tt et enc ([]:List α)::l) (w.alloc (.cells #[.slice none 0 0] tt)):=h.of fun _ _ _ _ s=>Sep.pb [_,_,_,_] (Sep.CV (Sep.pk [_] (Sep.Q8 (s.aO _))))
theorem aI.Rb (h:aI B w0 d C E k l w):aI B w0 d C E k (iN et enc (.slice none 0 0) ([]:List α)::l) w:=h.of fun _ _ _ _ s=>Sep.pb [_,_,_,_] (Sep.Q8 s)
def GRo {α:Type}(B:Nat)(w0:World)(d:Dk)(C:Cx)(E:List En)(k q:Nat)(l:List aM)(et:TypeId)(enc:α->List Value)(R:List α×Int)(e:Ending)(w:World):Prop:=
 ∃v o,e=.returned (.tuple #[v,.int .i64 R.2])∧(R.2=0->o=R.1∧∃ao c,v=.slice ao o.length c)∧(R.2≠0->o=[]∧v=.slice none 0 0)∧aI B w0 d C E k (iN et enc v o::cf q C::l) w
def kJ (E:List En)(u:Int):List (Int×Bool)×Int:=oo (fun s v b=>s++[(v,b)]) E u []
def AR (E:List En):List (Int×Int)×Int:=A2 (fun s u v _=>if u<v then s++[(u,v)]else s) (gj uv mq E) []
theorem LQ (T:bW B w0)(hr:d.room<=16384)(h0:C.err=0)(hE:E.length<=200)(h:aI B w0 d C E k (cf q C::l) w):
  Calls Tryz.prog 23 #[ptr q,.int .i64 u] w (GRo B w0 d C E k q l 65 fR (kJ E u)):=by
 have S0:Hid (aI B w0 d C E k (cf q C::Vl w.heap.size []::l) (w.alloc (.cells #[.slice none 0 0] 57))):=aI.swap (aI.Ra h);have KN:Hid (∀w1 pl,aI B w0 d C E k (cf q C::Vl pl []::l) w1->Calls Tryz.prog 51 #[ptr q,.int .i64 u,.func (.func 52) #[] #[.pointer (some ⟨pl,0,none⟩)]] w1 (Vk B w0 d C E k q l (Vl pl) (kJ E u))):=fun w1 pl h1=>Q3 (u:=u) (m:=List.length) T hr h0 hE (fun _=>AQ) (fun _ _=>rfl) GY (fun _ _ _=>by simp) rfl h1;clear h T hr h0 hE;obtain⟨R,hR⟩:∃R,kJ E u=R:=⟨_,rfl⟩;rw[hR]at KN⊢;clear hR;unfold ptr at*;go_enter Tryz.func23,Tryz.ntmps23
 go_wp2_with fail
 refine Calls.mono (KN.out _ _ S0.out) ?_;rintro e w1 ⟨rfl,s1⟩;have S1:Hid (aI B w0 d C E k (Vl w.heap.size R.1::cf q C::l) w1):=aI.swap s1;clear KN S0 s1;by_cases he:R.2=0
 ·obtain⟨ao,c,h2⟩:=aI.pA S1.out;have S2:Hid (aI B w0 d C E k (iN 65 fR (.slice ao R.1.length c) R.1::cf q C::l) w1):=aI.yF h2;obtain⟨_,p0,_⟩:=Sep.c1 h2.sep;have HE:Hid (R.2=0):=he;rw[he];clear h2 S1 he;go_wp2;go_ret2;exact⟨_,_,by rw[HE.out];rfl,fun _=>⟨rfl,ao,c,rfl⟩,fun h=>absurd HE.out h,S2.out⟩
 ·have hb:(R.2 != 0)=true:=bne_iff_ne.2 he;have HE:Hid (R.2≠0):=he;have S2:Hid (aI B w0 d C E k (iN 65 fR (.slice none 0 0) []::cf q C::l) w1):=aI.Rb (aI.yF S1.out);clear S1 he;go_wp2;go_ret2;exact⟨_,_,rfl,fun h=>absurd h HE.out,fun _=>⟨rfl,rfl⟩,S2.out⟩
theorem Rc (T:bW B w0)(hr:d.room<=16384)(h0:C.err=0)(hE:E.length<=200)(h:aI B w0 d C E k (cf q C::l) w):
  Calls Tryz.prog 15 #[ptr q] w (GRo B w0 d C E k q l 35 jN (AR E)):=by
 have S0:Hid (aI B w0 d C E k (cf q C::Q9 w.heap.size []::l) (w.alloc (.cells #[.slice none 0 0] 29))):=aI.swap (aI.Ra h);have KN:Hid (∀w1 pl,aI B w0 d C E k (cf q C::Q9 pl []::l) w1->Calls Tryz.prog 41 #[ptr q,.string uv,.string mq,.func (.func 42) #[] #[.pointer (some ⟨pl,0,none⟩)]] w1 (Vk B w0 d C E k q l (Q9 pl) (AR E))):=fun w1 pl h1=>QZ (m:=List.length) T hr h0 hE (fun _ _=>rfl) GZ (fun s u v _=>by split<;>simp) rfl h1;clear h T hr h0 hE;obtain⟨R,hR⟩:∃R,AR E=R:=⟨_,rfl⟩;rw[hR]at KN⊢;clear hR;unfold ptr at*;go_enter Tryz.func15,Tryz.ntmps15
 go_wp2_with fail
 refine Calls.mono (KN.out _ _ S0.out) ?_;rintro e w1 ⟨rfl,s1⟩;have S1:Hid (aI B w0 d C E k (Q9 w.heap.size R.1::cf q C::l) w1):=aI.swap s1;clear KN S0 s1;by_cases he:R.2=0
 ·obtain⟨ao,c,h2⟩:=aI.pA S1.out;have S2:Hid (aI B w0 d C E k (iN 35 jN (.slice ao R.1.length c) R.1::cf q C::l) w1):=aI.yF h2;obtain⟨_,p0,_⟩:=Sep.c1 h2.sep;have HE:Hid (R.2=0):=he;rw[he];clear h2 S1 he;go_wp2;go_ret2;exact⟨_,_,by rw[HE.out];rfl,fun _=>⟨rfl,ao,c,rfl⟩,fun h=>absurd HE.out h,S2.out⟩
 ·have hb:(R.2 != 0)=true:=bne_iff_ne.2 he;have HE:Hid (R.2≠0):=he;have S2:Hid (aI B w0 d C E k (iN 35 jN (.slice none 0 0) []::cf q C::l) w1):=aI.Rb (aI.yF S1.out);clear S1 he;go_wp2;go_ret2;exact⟨_,_,rfl,fun h=>absurd h HE.out,fun _=>⟨rfl,rfl⟩,S2.out⟩
end
end P
end Go.Proofs.YtcenfooehjcddaaGreatDoor
namespace Go.Proofs.YtcenfooehjcddaaGreatDoor
namespace P
open Go.RowKit Go.Lib
open N (En bB Rg cJ aV jD iv gN iC gC fx lU j7)
def UR (F:Int->Int->Option Bool):Prop:=∀u v,F u v=F v u
theorem UR.up {F:Int->Int->Option Bool}(h:UR F)(u v:Int)(o:Option Bool):UR (Me F u v o):=fun a c=>by
 unfold Me;by_cases h1:(a=u∧c=v)∨(a=v∧c=u)
 ·rw[if_pos h1,if_pos (by rcases h1 with⟨x,y⟩| ⟨x,y⟩;exact .inr ⟨y,x⟩;exact .inl ⟨y,x⟩)]
 ·rw[if_neg h1,if_neg (by rintro(⟨x,y⟩| ⟨x,y⟩);exact h1 (.inr ⟨y,x⟩);exact h1 (.inl ⟨y,x⟩)),h a c]
theorem wC {α β:Type}(f:α->β):∀(l:List α) (s:List β),l.foldl (fun s e=>s++[f e]) s=s++l.map f
 |[],s=>by simp
 |a::l,s=>by rw[List.foldl_cons,wC f l];simp
theorem wD {α β:Type}(q:α->Prop)[DecidablePred q](f:α->β):∀(l:List α) (s:List β),l.foldl (fun s e=>if q e then s++[f e]else s) s=s++(l.filter fun e=>decide (q e)).map f
 |[],s=>by simp
 |a::l,s=>by
  rw[List.foldl_cons,wD q f l];by_cases h:q a<;>simp[h]
theorem kC.kJ {E:List En}{F:Int->Int->Option Bool}(h:kC E F){u:Int}(hu:dC u=true):kJ E u=(jO E u,0):=by
 unfold P.kJ oo;rw[if_pos hu,xW h.nV];rw[wC (fun e:En=>((gp e).1.2.1,(gp e).1.2.2)) (gj (xy u) (toA u) E) []];rfl
theorem kC.AR {E:List En}{F:Int->Int->Option Bool}(h:kC E F):AR E=(Gx E,0):=by
 unfold P.AR;rw[xW h.xX];rw[wD (fun e:En=>(gp e).1.1< (gp e).1.2.1) (fun e:En=>((gp e).1.1,(gp e).1.2.1)) (gj uv mq E) []];rfl
end P
end Go.Proofs.YtcenfooehjcddaaGreatDoor
namespace Go.Proofs.YtcenfooehjcddaaGreatDoor
open Go.Shelf Go.RowKit Go.Lib Go.Sort
namespace P
open N (En bB Rg cJ aV jD iv gN iC)
theorem UT (w:World):(zeroValue 104).run Tryz.prog w=.ok (.agg #[]) w:=by kernel_rfl
section
variable {B:Nat}{w0 w w':World}{l:List aM}{m n:Nat}{g:Gv}
theorem Sep.Qb (h:Sep B w0 w (dh m g n::l)){k:Int}(hk:Wf k):(Instr.lookup 103 (.map (some m)) (.int .i64 k) true).run Tryz.prog w=.ok (.tuple #[((g k).getD (.agg #[])),.bool (g k).isSome]) w:=by
 obtain⟨D,o,hv⟩:=h.tD;obtain⟨v,ps,hr,hR⟩:=o.look_ok iG Tryz.underlying103 (UT w) (zd:=.held (.agg #[])) (zp:=[]) rfl hk.key;rw[hr,oP (z:=.agg #[]) (c:=.agg #[]) hR ((hv k).2 _),(hv k).1]
theorem Sep.Qc (h:Sep B w0 w (dh m g n::l)){k:Int}(hk:Wf k)(c:Value)(hn:n<1000000):∃w',(Instr.mapUpdate 103 (.map (some m)) (.int .i64 k) c).run Tryz.prog w=.ok () w'∧Sep B w0 w' (dh m (pY g k c) (n+1)::l):=by
 obtain⟨D,o,hv⟩:=h.tD;obtain⟨w',hr,o',ht⟩:=o.store iG Tryz.underlying103 (Nat.lt_of_lt_of_le hn (by decide)) hk.key (val:=c) (d:=.held c) (ps:=[]) rfl;refine⟨w',hr,h.step (dH _ _ _) fun X hX=>⟨X,⟨⟨_,o',hv.put o.isMap k c⟩,hX.2⟩,dw.mapTurned ((hX.2 m).2 rfl) ht,fun k hk=>.inl hk⟩⟩
end
section
variable {B:Nat}{w0 w w':World}{C:Cx}{d:Dk}{l:List aM}{E:List En}{k q n qo m qf ql:Nat}{u:Int}{g:Gv}{W:List Int}
def Re (qo m qf ql:Nat)(g:Gv)(n:Nat)(s:Int×Bool):aM:=Both (aF qo (.cells #[.map (some m)] 103)) (Both (dh m g n) (Both (aF qf (.cells #[.bool s.2] 4)) (aF ql (.cells #[.int .i64 s.1] 3))))
theorem LR {s:Int×Bool}:Good (Re qo m qf ql g n s):=aQ (aU _ _) (aQ (dH _ _ _) (aQ (aU _ _) (aU _ _)))
def AU (W:List Int)(s:Int×Bool)(v:Int)(b:Bool):Int×Bool:=if s.2=false∧b=false∧v∉W then(v,true)else s
theorem aI.LU {s:Int×Bool}(h:aI B w0 d C E k (Re qo m qf ql g n s::l) w):aI B w0 d C E k (aF qo (.cells #[.map (some m)] 103)::dh m g n::aF qf (.cells #[.bool s.2] 4)::aF ql (.cells #[.int .i64 s.1] 3)::l) w:=by
 have h1:=aI.AP (aU _ _) (aQ (dH _ _ _) (aQ (aU _ _) (aU _ _))) h;have h2:=aI.AP (dH _ _ _) (aQ (aU _ _) (aU _ _)) (aI.swap h1);have h3:=aI.AP (aU _ _) (aU _ _) (aI.swap h2);obtain⟨r,x,d1,P,X,H,s0,r1⟩:=h3;refine⟨r,x,d1,P,X,H,?_,r1⟩;exact Sep.pb [_,_,_,_] (Sep.pb [_,_,_,_,_] (Sep.pk [_,_,_,_,_,_,_] (Sep.pk [_,_,_,_,_,_,_] s0)))
theorem aI.CW {s:Int×Bool}(h:aI B w0 d C E k (aF qo (.cells #[.map (some m)] 103)::dh m g n::aF qf (.cells #[.bool s.2] 4)::aF ql (.cells #[.int .i64 s.1] 3)::l) w):aI B w0 d C E k (Re qo m qf ql g n s::l) w:=h.of fun _ _ _ _ s0=>
 Sep.pb [_,_,_,_] (Sep.join (Sep.pk [_,_,_,_,_] (Sep.join (Sep.pk [_,_,_,_,_,_] (Sep.join (Sep.pk [_,_,_,_,_,_,_] (Sep.pk [_,_,_,_,_,_,_] s0)))))))
def uV (g:Gv)(W:List Int):Prop:=∀v,g v=if v∈W then some (.agg #[])else none
theorem LV (hg:uV g W):YE B w0 d C E k 53 #[.pointer (some ⟨qo,0,none⟩),.pointer (some ⟨qf,0,none⟩),.pointer (some ⟨ql,0,none⟩)] (AU W) (Re qo m qf ql g n) (fun _=>0):=by
 intro w L s v b hs hv h;have HS:Hid (aI B w0 d C E k (aF qo (.cells #[.map (some m)] 103)::dh m g n::aF qf (.cells #[.bool s.2] 4)::aF ql (.cells #[.int .i64 s.1] 3)::L) w):=aI.LU h;obtain⟨_,c0,_⟩:=Sep.c1 HS.out.sep;obtain⟨_,c1,f1⟩:=Sep.c1 (Sep.pk [_,_] HS.out.sep);obtain⟨_,c2,f2⟩:=Sep.c1 (Sep.pk [_,_,_] HS.out.sep);have nfl:qf≠ql:=Sep.ne (l:=L) (Sep.drop (Sep.drop HS.out.sep));have nlf:=nfl.symm;have LK:=Sep.Qb (Sep.pk [_] HS.out.sep) hv;rw[hg v]at LK;have HST:Hid (∀b,AU W s v b=if s.2=false∧b=false∧v∉W then(v,true)else s):=fun _=>rfl;clear h hs hv hg;obtain⟨s1,s2⟩:=s;simp only at c1 c2;by_cases hW:v∈W
 ·rw[if_pos hW]at LK;simp only[Option.getD_some,Option.isSome_some]at LK;have HR:Hid (AU W (s1,s2) v b=(s1,s2)):=by have:=HST.out b;rw[if_neg (fun c=>c.2.2 hW)]at this;exact this
  rw[HR.out];clear HST HR hW;cases s2
  all_goals
   cases b
   all_goals
    go_enter Tryz.func53,Tryz.ntmps53;go_wp2
    go_end0
    exact⟨rfl,aI.CW (aI.below HS.out ((Below.refl _ _).alloc (Nat.le_refl _) _))⟩
 ·rw[if_neg hW]at LK;simp only[Option.getD_none,Option.isSome_none]at LK;by_cases hb:s2=false∧b=false
  ·have HR:Hid (AU W (s1,s2) v b=(v,true)):=by have:=HST.out b;rw[if_pos ⟨hb.1,hb.2,hW⟩]at this;exact this
   obtain⟨rfl,rfl⟩:=hb;rw[HR.out];clear HST HR hW;go_enter Tryz.func53,Tryz.ntmps53;have SF:Hid (aI B w0 d C E k (Re qo m qf ql g n (v,true)::L) ((w.setCell ⟨ql,0,none⟩ (.int .i64 v)).setCell ⟨qf,0,none⟩ (.bool true))):=by
    obtain⟨r,x,d1,P,X,H,s0,r1⟩:=HS.out;have a1:=Sep.ml (x:=.int .i64 v) (Sep.pk [_,_,_,_,_,_,_] s0) 0;have a2:=Sep.ml (x:=.bool true) (Sep.pk [_,_,_,_,_,_,_] a1) 0;exact⟨r,x,d1,P,X,H,Sep.pb [_,_,_,_] (Sep.join (Sep.pk [_,_,_,_,_] (Sep.join (Sep.pk [_,_,_,_,_,_] (Sep.join a2))))),r1⟩
   clear HS;go_wp2
   go_end0
   exact⟨rfl,aI.below SF.out ((Below.refl _ _).alloc (Nat.le_refl _) _)⟩
  ·have HR:Hid (AU W (s1,s2) v b=(s1,s2)):=by have:=HST.out b;rw[if_neg (fun c=>hb ⟨c.1,c.2.1⟩)]at this;exact this
   rw[HR.out];clear HST HR hW;cases s2
   ·cases b
    ·exact absurd ⟨rfl,rfl⟩ hb
    ·clear hb;go_enter Tryz.func53,Tryz.ntmps53;go_wp2
     go_end0
     exact⟨rfl,aI.CW (aI.below HS.out ((Below.refl _ _).alloc (Nat.le_refl _) _))⟩
   ·clear hb;go_enter Tryz.func53,Tryz.ntmps53;go_wp2
    go_end0
    exact⟨rfl,aI.CW (aI.below HS.out ((Below.refl _ _).alloc (Nat.le_refl _) _))⟩
theorem LW:uV (fun _=>none) []:=fun v=>by simp
theorem LX (h:uV g W)(v:Int):uV (pY g v (.agg #[])) (v::W):=fun x=>by
 unfold pY;by_cases e:x=v
 ·subst e;simp
 ·rw[if_neg e,h x];simp[e]
def jm (E:List En)(u:Int)(W:List Int):(Int×Bool)×Int:=oo (AU W) E u (0,false)
theorem Xw (w:World)(n:Nat):(Instr.makeMap 103 (some (.int .i64 (n:Int)))).run Tryz.prog w=.ok (.map (some w.heap.size)) (w.alloc (.map #[] 0)):=by
 kernel_rfl
theorem G4 {j:Nat}(h:uV g (W.take j))(hj:j<W.length):uV (pY g W[j]! (.agg #[])) (W.take (j+1)):=fun x=>by
 rw[LX h _ x];have e:x∈W.take (j+1)↔x∈W[j]! ::W.take j:=by
  rw[bU hj];simp[or_comm]
 by_cases c:x∈W.take (j+1)
 ·rw[if_pos c,if_pos (e.1 c)]
 ·rw[if_neg c,if_neg (fun z=>c (e.2 z))]
theorem Rf {wv:Value}(T:bW B w0)(hr:d.room<=16384)(h0:C.err=0)(hE:E.length<=200)(hW:∀w',Sep B w0 w' l->Row N.encI 1 w' wv W)(hl:W.length<=1000)(hwf:∀v∈W,Wf v)(h:aI B w0 d C E k (cf q C::l) w):
  Calls Tryz.prog 24 #[ptr q,.int .i64 u,wv] w fun e w'=>e=.returned (.tuple #[.int .i64 (if(jm E u W).2=0 then(jm E u W).1.1 else 0),.bool (if(jm E u W).2=0 then(jm E u W).1.2 else false),.int .i64 (jm E u W).2])∧aI B w0 d C E k (cf q C::l) w':=by
 obtain⟨aw,cw,rfl,_⟩:=N.aG (hW _ (Sep.drop h.sep));have HW:Hid (∀w',Sep B w0 w' l->Row N.encI 1 w' (.slice aw W.length cw) W):=hW;have HB:Hid (W.length<=1000):=hl;have HF:Hid (∀v∈W,Wf v):=hwf;have hmk:=Xw w W.length;have S1:Hid (aI B w0 d C E k (aF (w.heap.size+1) (.cells #[.map (some w.heap.size)] 103)::dh w.heap.size (fun _=>none) 0::cf q C::l) ((w.alloc (.map #[] 0)).alloc (.cells #[.map (some w.heap.size)] 103))):=h.of fun _ _ _ _ s=>Sep.pb [_,_,_,_] (Sep.aZ (Sep.pb [_,_,_,_] s.DW) _ _ (by simp));have KN:Hid (∀w1 qo qf ql g m n,uV g W->aI B w0 d C E k (cf q C::Re qo m qf ql g n (0,false)::l) w1->Calls Tryz.prog 51 #[ptr q,.int .i64 u,.func (.func 53) #[] #[.pointer (some ⟨qo,0,none⟩),.pointer (some ⟨qf,0,none⟩),.pointer (some ⟨ql,0,none⟩)]] w1 (Vk B w0 d C E k q l (Re qo m qf ql g n) (jm E u W))):=fun w1 qo qf ql g m n hg h1=>Q3 (u:=u) (m:=fun _=>0) T hr h0 hE (fun _=>LR) (fun _ _=>rfl) (LV hg) (fun _ _ _=>by omega) rfl h1;clear hl hW hwf h T hr h0 hE;obtain⟨R,hR⟩:∃R,jm E u W=R:=⟨_,rfl⟩;rw[hR]at KN⊢;clear hR;unfold ptr at*;go_enter Tryz.func24,Tryz.ntmps24;go_wp2;clear hmk
 go_loopg [20] W.length (fun kx s20 wr=>∃(j:Nat) (g:Gv),s20=.int .i64 (j:Int)∧j<=W.length∧W.length-j<=kx∧Hid (uV g (W.take j))∧Hid (aI B w0 d C E k (aF (w.heap.size+1) (.cells #[.map (some w.heap.size)] 103)::dh w.heap.size g j::cf q C::l) wr))
 case atStart=>exact⟨0,_,rfl,Nat.zero_le _,Nat.le_refl _,LW,S1.out⟩
 case round=>
  obtain⟨j,g,rfl,hj,hjx,HG,HS⟩:=hrel;clear S1;by_cases hlt:j<W.length
  ·have uh:(j:Int)< (W.length:Int):=by omega
   obtain⟨cT,cap',e',_,_,h3⟩:=HW.out _ (Sep.drop (Sep.drop (Sep.drop HS.out.sep)));obtain⟨rb,Xn,hae,hrb,z0⟩:=N.nh h3 j hlt (Below.refl _ _);have e2:aw=cT:=by injection e'
   subst e2;subst hae;have hwj:IntKind.i64.wrap ((j:Int)+1)=((j+1:Nat):Int):=by rw[bM (by omega) (by have:=HB.out;omega)];rfl
   obtain⟨_,c0,_⟩:=Sep.c1 HS.out.sep;have HG2:Hid (uV (pY g W[j]! (.agg #[])) (W.take (j+1))):=G4 HG.out hlt;obtain⟨w9,hmp,T4⟩:∃w9,(Instr.mapUpdate 103 (.map (some w.heap.size)) (.int .i64 W[j]!) (.agg #[])).run Tryz.prog wr=.ok () w9∧Hid (aI B w0 d C E k (aF (w.heap.size+1) (.cells #[.map (some w.heap.size)] 103)::dh w.heap.size (pY g W[j]! (.agg #[])) (j+1)::cf q C::l) w9):=by
    obtain⟨r,x,d1,P,X,H,s0,r1⟩:=HS.out;obtain⟨w9,hmp,s9⟩:=Sep.Qc (k:=W[j]!) (Sep.pk [_,_,_,_,_] s0) (HF.out _ (by rw[getElem!_pos W j hlt];exact List.getElem_mem hlt)) (.agg #[]) (by have:=HB.out;omega);exact⟨w9,hmp,r,x,d1,P,X,H,Sep.pb [_,_,_,_,_] s9,r1⟩
   clear HS HG h3 e' hlt;generalize pY g W[j]! (.agg #[])=g2 at*;generalize W[j]! =wj at*;go_wp2
   go_roundg (W.length- (j+1))
   case measure=>omega
   case rel=>exact⟨j+1,g2,by go_num,by omega,Nat.le_refl _,HG2.out,T4.out⟩
  ·have uh:¬(j:Int)< (W.length:Int):=by omega
   have hj2:j=W.length:=by omega
   have HG2:Hid (uV g W):=by have:=HG.out;rw[hj2,List.take_length]at this;exact this
   clear HG hj2;have S3:Hid (aI B w0 d C E k (cf q C::Re (w.heap.size+1) w.heap.size (wr.heap.size+1) wr.heap.size g j (0,false)::l) ((wr.alloc (.cells #[.int .i64 0] 3)).alloc (.cells #[.bool false] 4))):=aI.swap (HS.out.of fun _ _ _ _ s=>Sep.pb [_,_,_,_] (Sep.join (Sep.pk [_,_,_,_,_] (Sep.join (Sep.pk [_,_,_,_,_,_] (Sep.join (Sep.aZ (s.aO _) _ _ (by simp))))))));have K4:Hid _:=KN.out _ _ _ _ _ _ _ HG2.out S3.out;clear KN HS HG2 S3
   go_wp2_with fail
   refine Calls.mono K4.out ?_;rintro e w4 ⟨rfl,s4⟩;have S4:Hid (aI B w0 d C E k (aF (w.heap.size+1) (.cells #[.map (some w.heap.size)] 103)::dh w.heap.size g j::aF (wr.heap.size+1) (.cells #[.bool R.1.2] 4)::aF wr.heap.size (.cells #[.int .i64 R.1.1] 3)::cf q C::l) w4):=aI.LU (aI.swap s4);have S5:Hid (aI B w0 d C E k (cf q C::l) w4):=aI.yF (aI.yF (aI.yF (aI.yF S4.out)));clear K4 s4;by_cases he:R.2=0
   ·obtain⟨_,c1,_⟩:=Sep.c1 (Sep.pk [_,_] S4.out.sep);obtain⟨_,c2,_⟩:=Sep.c1 (Sep.pk [_,_,_] S4.out.sep);have HE:Hid (R.2=0):=he;rw[he];clear S4 he
    go_wp2_with fail
    go_region
    go_wp2
    go_ret3
    refine⟨?_,aI.dr S5.out⟩
    first|rfl| (rw[if_pos HE.out,if_pos HE.out,HE.out];rfl)
   ·have hb:(R.2 != 0)=true:=bne_iff_ne.2 he;have HE:Hid (R.2≠0):=he;clear S4 he;go_wp2
    go_ret3
    refine⟨?_,S5.out⟩
    first|rfl| (rw[if_neg HE.out,if_neg HE.out];rfl)
end
end P
namespace P
open N (En bB Rg cJ aV jD iv gN iC)
section
variable {B:Nat}{w0 w w':World}{C:Cx}{d:Dk}{l:List aM}{E:List En}{k q n:Nat}
theorem E6 {n:Int}(h2:2<=n)(h3:n<=16384)(h:Sep B w0 w l):Calls Tryz.prog 6 #[.int .i64 n] w fun e w'=>∃(C:Cx) (q:Nat),e=.returned (.tuple #[ptr q,ptr C.tq])∧C.err=0∧aI B w0 (Dk.new n) C [] 0 (cf q C::l) w':=by
 have HR:Hid ((Dk.new n).room=n.toNat∧2<=n.toNat∧n.toNat<=16384):=⟨ui h2 h3,by omega,by omega⟩;have CD:Hid _:=VP n h;clear h h2 h3;generalize Dk.new n=d0 at*;go_enter Tryz.func6,Tryz.ntmps6
 go_wp2_with fail
 refine Calls.mono CD.out ?_;rintro e w2 ⟨b,rfl,s2⟩;have CF:Hid _:=VR s2;clear CD s2
 go_wp2_with fail
 refine Calls.mono CF.out ?_;rintro e w3 ⟨f,rfl,s3⟩;have CT:=ZC s3 (by rw[HR.out.1];exact HR.out.2.2) (v:=.slice none 0 0) (fr:=[]) ⟨none,0,rfl,Nat.le_refl _,fun _=>rfl,fun h=>absurd rfl h⟩ (by simp) 2;rw[HR.out.1]at CT;have CT2:Hid _:=CT;clear CF s3 CT
 go_wp2_with fail
 refine Calls.mono CT2.out ?_;rintro e w4 ⟨t,rfl,s4⟩;have CN:Hid _:=Xg (root:=0) s4;clear CT2 s4
 go_wp2_with fail
 refine Calls.mono CN.out ?_;rintro e w5 ⟨tq,rfl,s5⟩;have KA:Hid _:=anew (LG HR.out.1 HR.out.2.1 s5);clear CN s5;unfold ptr at*
 go_wp2_with fail
 refine Calls.mono KA.out ?_;rintro e w6 ⟨q,rfl,s6⟩;have S6:Hid _:=s6;clear KA s6;go_wp2;go_ret2;exact⟨⟨0,tq,t,f,b,0,0⟩,q,rfl,rfl,S6.out⟩
theorem Xx {room:Nat}(hE:E.length<=8)(hr:60<=room):Cap room d E:=fun S root X H T=>by
 have h1:=T.cnt.1;have h2:H<=3:=by
  rcases T.cnt.2 with h|h
  ·omega
  ·rcases Nat.lt_or_ge 3 H with h7|h7
   ·have:2^4<=2^H:=Nat.pow_le_pow_right (by omega) h7;omega
   ·exact h7
 omega
abbrev xA:List En:=tQ [] 1 2 true
abbrev xB:List En:=tQ xA 2 3 false
theorem Ph:dy 2 1=0∧bR 2 1=(1,2)∧dy 2 3=0∧bR 2 3=(2,3)∧dy 1 2=0∧bR 1 2=(1,2)∧dy 1 1=31∧dy 1 9=0:=by decide+kernel
theorem ZV:kJ xB 2=([(1,true),(3,false)],0):=by decide+kernel
theorem wk3:AR xB=([(1,2),(2,3)],0):=by decide+kernel
theorem wk4:jm xB 2 []=((3,true),0):=by decide+kernel
theorem wk5:iy xB 1 2=(true,true)∧GW xB 1 9=181∧AO xB 1 9=false:=by decide+kernel
theorem wk6:cM 1 2=⟨#[65,0,0,0,1,0,0,0,2]⟩:=by decide+kernel
theorem UU:xA.length<=2∧xB.length<=4:=by decide+kernel
end
end P
namespace P
open N (En bB Rg cJ aV jD iv gN iC)
section
variable {B:Nat}{w0 w w':World}{C:Cx}{d:Dk}{l:List aM}{E:List En}{k q n:Nat}
theorem Qd (T:bW B w0)(h:Sep B w0 w l):Calls Tryz.prog 5 #[] w fun e w'=>e=.returned (.bool true)∧Sep B w0 w' l:=by
 have HT:Hid (bW B w0):=T;have Xy:(Dk.new 60).room=60:=ui (by omega) (by omega);have HC:Hid ((∀E':List En,E'.length<=8->Cap (Dk.new 60).room (Dk.new 60) E')∧(Dk.new 60).room<=16384):=by
  rw[Xy];exact⟨fun E' h=>Xx h (by omega),by omega⟩
 have KE:Hid _:=E6 (n:=60) (by omega) (by omega) h;clear h T Xy;generalize Dk.new 60=d0 at*;go_enter Tryz.func5,Tryz.ntmps5
 go_wp2_with fail
 refine Calls.mono KE.out ?_;rintro e w1 ⟨C,q,rfl,hC,h1⟩;have C0:Hid (C.err=0):=hC;have K1:=Qa (n:=8) 2 1 true HT.out HC.out.2 hC HC.out.1 (by simp) (by omega) (by omega) h1;rw[Ph.1,Ph.2.1]at K1;have J1:Hid _:=K1;clear KE h1 hC K1;unfold ptr at*
 go_wp2_with fail
 refine Calls.mono J1.out ?_;rintro e w2 ⟨rfl,-,g2⟩;have h2:aI B w0 d0 C xA 2 (cf q C::l) w2:=g2 trivial;have K2:=Qa (n:=8) 2 3 false HT.out HC.out.2 C0.out HC.out.1 (by have:=UU.1;omega) (by omega) (by omega) h2;rw[Ph.2.2.1,Ph.2.2.2.1]at K2;have J2:Hid _:=K2;clear J1 h2 g2 K2;unfold ptr at*
 go_wp2_with fail
 refine Calls.mono J2.out ?_;rintro e w3 ⟨rfl,-,g3⟩;have h3:aI B w0 d0 C xB 4 (cf q C::l) w3:=g3 trivial;have K3:Hid _:=LQ (u:=2) HT.out HC.out.2 C0.out (by have:=UU.2;omega) h3;clear J2 h3 g3;unfold ptr at*
 go_wp2_with fail
 refine Calls.mono K3.out ?_;rintro e w4 hg;rw[ZV]at hg;obtain⟨nv,no,rfl,hn1,-,g4⟩:=hg;obtain⟨rfl,an,cn,rfl⟩:=hn1 rfl;have h4:aI B w0 d0 C xB 4 (cf q C::iN 65 fR (.slice an 2 cn) [(1,true),(3,false)]::l) w4:=aI.swap g4;have K4:Hid _:=Rc HT.out HC.out.2 C0.out (by have:=UU.2;omega) h4;clear K3 hn1 h4 g4;unfold ptr at*
 go_wp2_with fail
 refine Calls.mono K4.out ?_;rintro e w5 hg;rw[wk3]at hg;obtain⟨ev,eo,rfl,hn1,-,g5⟩:=hg;obtain⟨rfl,ae,ce,rfl⟩:=hn1 rfl;have h5:aI B w0 d0 C xB 4 (cf q C::iN 35 jN (.slice ae 2 ce) [(1,2),(2,3)]::iN 65 fR (.slice an 2 cn) [(1,true),(3,false)]::l) w5:=aI.swap g5;have K5:=Rf (u:=2) (wv:=.slice none 0 0) (W:=[]) HT.out HC.out.2 C0.out (by have:=UU.2;omega) (fun _ _=>N.xn) (by simp) (fun _ h=>by cases h) h5;rw[wk4]at K5;have J5:Hid _:=K5;clear K4 hn1 h5 g5 K5;unfold ptr at*
 go_wp2_with fail
 refine Calls.mono J5.out ?_;rintro e w6 ⟨rfl,g6⟩;have h6:aI B w0 d0 C xB 4 (cf q C::iN 35 jN (.slice ae 2 ce) [(1,2),(2,3)]::iN 65 fR (.slice an 2 cn) [(1,true),(3,false)]::l) w6:=g6;have K6:=Xu 1 2 HT.out HC.out.2 C0.out (by have:=UU.2;omega) h6;rw[Ph.2.2.2.2.1,Ph.2.2.2.2.2.1,wk5.1]at K6;have J6:Hid _:=K6;clear J5 h6 g6 K6;unfold ptr at*
 go_wp2_with fail
 refine Calls.mono J6.out ?_;rintro e w7 ⟨rfl,g7⟩;have H7:Hid (aI B w0 d0 C xB 4 (cf q C::iN 35 jN (.slice ae 2 ce) [(1,2),(2,3)]::iN 65 fR (.slice an 2 cn) [(1,true),(3,false)]::l) w7):=g7;obtain⟨r1,c1,e1,_,hr1,z1⟩:=Sep.gf (Sep.pk [_] H7.out.sep) (by decide);obtain⟨r2,c2,e2,_,hr2,z2⟩:=Sep.gf (Sep.pk [_,_] H7.out.sep) (by decide);cases e1;cases e2;have y0:=z1 0 (by decide);have y1:=z1 1 (by decide);have y2:=z1 2 (by decide);have y3:=z1 3 (by decide);have x0:=z2 0 (by decide);have x1:=z2 1 (by decide);have x2:=z2 2 (by decide);have x3:=z2 3 (by decide);simp only[jN,fR,List.flatMap_cons,List.flatMap_nil,List.cons_append,List.nil_append,List.append_nil,List.getElem?_cons_zero,List.getElem?_cons_succ]at y0 y1 y2 y3 x0 x1 x2 x3;clear z1 z2 J6 g7
 go_wp2_with fail
 refine Calls.mono (tA 1 2 _) ?_;rintro e w8 ⟨rfl,b8⟩;have H8:Hid (aI B w0 d0 C xB 4 (cf q C::iN 35 jN (.slice (some ⟨r1,0,none⟩) 2 ce) [(1,2),(2,3)]::iN 65 fR (.slice (some ⟨r2,0,none⟩) 2 cn) [(1,true),(3,false)]::l) w8):=aI.below H7.out b8;have K8:=Xv (n:=8) 1 9 HT.out HC.out.2 C0.out HC.out.1 (by have:=UU.2;omega) (by omega) (by omega) H8.out;rw[wk5.2.1,wk5.2.2]at K8;have J8:Hid _:=K8;rw[wk6];clear H7 b8 K8 y0 y1 y2 y3 x0 x1 x2 x3 hr1 hr2 H8;unfold ptr at*
 go_wp2_with fail
 refine Calls.mono J8.out ?_;rintro e w9 ⟨rfl,g9⟩;have h9:aI B w0 d0 C xB 4 (cf q C::iN 35 jN (.slice (some ⟨r1,0,none⟩) 2 ce) [(1,2),(2,3)]::iN 65 fR (.slice (some ⟨r2,0,none⟩) 2 cn) [(1,true),(3,false)]::l) w9:=g9.1 rfl;have K9:=Qa (n:=8) 1 1 true HT.out HC.out.2 C0.out HC.out.1 (by have:=UU.2;omega) (by omega) (by omega) h9;rw[Ph.2.2.2.2.2.2.1]at K9;have J9:Hid _:=K9;clear J8 g9 h9 K9;unfold ptr at*
 go_wp2_with fail
 refine Calls.mono J9.out ?_;rintro e UZ ⟨rfl,g10,-⟩;have Ep:Hid (aI B w0 d0 C xB 4 (cf q C::iN 35 jN (.slice (some ⟨r1,0,none⟩) 2 ce) [(1,2),(2,3)]::iN 65 fR (.slice (some ⟨r2,0,none⟩) 2 cn) [(1,true),(3,false)]::l) UZ):=g10 (by decide);clear J9 g10;go_wp2;go_ret;exact⟨rfl,Sep.drop (Sep.drop (Sep.drop Ep.out.sep))⟩
end
end P
namespace P
open N (En bB Rg cJ aV jD iv gN iC)
section
variable {B:Nat}{w0 w w':World}{C:Cx}{d:Dk}{l:List aM}{E:List En}{k q n:Nat}
end
end P
namespace P
open N (En bB Rg cJ aV jD iv gN iC)
section
variable {F:Int->Int->Option Bool}{A T:List Pr}{E:List En}{u v a c:Int}{o:Option Bool}
theorem uj (hl:u<v)(hac:a<c):Me F u v o a c=if(a,c)=(u,v)then o else F a c:=by
 unfold Me;by_cases h:a=u∧c=v
 ·rw[if_pos (.inl h),if_pos (by rw[h.1,h.2])]
 ·rw[if_neg (by rintro(x|x);exact h x;omega),if_neg (by intro e;injection e with e1 e2;exact h ⟨e1,e2⟩)]
structure wE (F:Int->Int->Option Bool)(A T:List Pr):Prop where
 up:SQ A
 ut:SQ T
 ma:∀u v,(u,v)∈A↔dy u v=0∧u<v∧(F u v).isSome=true
 mt:∀u v,u<v->((u,v)∈T↔dy u v=0∧F u v=some true)
theorem wE.nil:wE (fun _ _=>none) [] []:=⟨List.Pairwise.nil,List.Pairwise.nil,fun _ _=>⟨fun h=>(by cases h),fun h=>(by cases h.2.2)⟩,fun _ _ _=>⟨fun h=>(by cases h),fun h=>(by cases h.2)⟩⟩
theorem wE.put (h:wE F A T)(hm:dy u v=0)(hl:u<v)(b:Bool):wE (Me F u v (some b)) (lJ A (u,v)) (if b=true then lJ (fQ T (u,v)) (u,v)else fQ T (u,v)):=by
 have h1:=zM A (u,v) h.up;have h2:=sZ T (u,v) h.ut;have h3:=zM (fQ T (u,v)) (u,v) h2.1;refine⟨h1.1,by cases b;exact h2.1;exact h3.1,fun a c=>?_,fun a c hac=>?_⟩
 ·rw[h1.2,h.ma];by_cases e:(a,c)=(u,v)
  ·injection e with e1 e2;subst e1 e2;exact⟨fun _=>⟨hm,hl,by rw[uj hl hl,if_pos rfl];rfl⟩,fun _=>.inl rfl⟩
  ·constructor
   ·rintro(x| ⟨x1,x2,x3⟩)
    ·exact absurd x e
    ·exact⟨x1,x2,by rw[uj hl x2,if_neg e];exact x3⟩
   ·rintro⟨x1,x2,x3⟩;rw[uj hl x2,if_neg e]at x3;exact .inr ⟨x1,x2,x3⟩
 ·rw[uj hl hac];by_cases e:(a,c)=(u,v)
  ·rw[if_pos e];injection e with e1 e2;subst e1 e2;cases b with
   |true=>rw[if_pos rfl,h3.2];exact⟨fun _=>⟨hm,rfl⟩,fun _=>.inl rfl⟩
   |false=>rw[if_neg (by simp),h2.2];exact⟨fun x=>absurd rfl x.2,fun x=>by simp at x⟩
  ·rw[if_neg e,<-h.mt a c hac];cases b with
   |true=>rw[if_pos rfl,h3.2,h2.2];exact⟨fun x=>x.elim (fun y=>absurd y e) (·.1),fun x=>.inr ⟨x,e⟩⟩
   |false=>rw[if_neg (by simp),h2.2];exact⟨(·.1),fun x=>⟨x,e⟩⟩
theorem wE.drop (h:wE F A T)(hl:u<v):wE (Me F u v none) (fQ A (u,v)) (fQ T (u,v)):=by
 have h1:=sZ A (u,v) h.up;have h2:=sZ T (u,v) h.ut;refine⟨h1.1,h2.1,fun a c=>?_,fun a c hac=>?_⟩
 ·rw[h1.2,h.ma];constructor
  ·rintro⟨⟨x1,x2,x3⟩,e⟩;exact⟨x1,x2,by rw[uj hl x2,if_neg e];exact x3⟩
  ·rintro⟨x1,x2,x3⟩;rw[uj hl x2]at x3;by_cases e:(a,c)=(u,v)
   ·rw[if_pos e]at x3;cases x3
   ·rw[if_neg e]at x3;exact⟨⟨x1,x2,x3⟩,e⟩
 ·rw[uj hl hac,h2.2,h.mt a c hac];by_cases e:(a,c)=(u,v)
  ·rw[if_pos e];exact⟨fun x=>absurd e x.2,fun x=>by cases x.2⟩
  ·rw[if_neg e];exact⟨(·.1),fun x=>⟨x,e⟩⟩
theorem wE.edg (h:wE F A T)(a:kC E F):Gx E=A:=BI _ _ (a.T6.imp fun h=>decide_eq_true h) h.up fun⟨u,v⟩=>by rw[a.Pw,h.ma]
theorem LY {u v:Int}:v∈tu A u↔(v,u)∈A∨(u,v)∈A:=by
 unfold tu tj xu;rw[List.mem_append,List.mem_map,List.mem_map];constructor
 ·rintro(⟨⟨x,y⟩,h1,h2⟩| ⟨⟨x,y⟩,h1,h2⟩)
  ·obtain⟨h3,h4⟩:=List.mem_filter.1 h1;have h4:=of_decide_eq_true h4;simp only at h2 h4;subst h2 h4;exact .inl h3
  ·obtain⟨h3,h4⟩:=List.mem_filter.1 h1;have h4:=of_decide_eq_true h4;simp only at h2 h4;subst h2 h4;exact .inr h3
 ·rintro(h|h)
  ·exact .inl ⟨_,List.mem_filter.2 ⟨h,decide_eq_true rfl⟩,rfl⟩
  ·exact .inr ⟨_,List.mem_filter.2 ⟨h,decide_eq_true rfl⟩,rfl⟩
theorem Rh {L:List Int}{x:Pr}:x∈L.map (fun v=>(v,(0:Int)))↔x.1∈L∧x.2=0:=by
 rw[List.mem_map];constructor
 ·rintro⟨v,h,rfl⟩;exact⟨h,rfl⟩
 ·rintro⟨h,e⟩;exact⟨x.1,h,by rw[<-e]⟩
theorem E7 {x y:Int}(h:x<y):l8 (x,0) (y,0)=true:=decide_eq_true (.inl h)
theorem wE.near (h:wE F A T)(a:kC E F)(s:UR F)(hu:dC u=true):tu A u=(jO E u).map (·.1):=by
 have e:(tu A u).map (fun v=>(v,(0:Int)))=((jO E u).map (·.1)).map (fun v=>(v,(0:Int))):=by
  refine BI _ _ ?_ ?_ fun⟨v,z⟩=>?_
  ·unfold SQ tu tj xu;rw[List.pairwise_map,List.pairwise_append];refine⟨?_,?_,?_⟩
   ·rw[List.pairwise_map];refine(h.up.filter _).imp_of_mem fun {x y} hx hy hlt=>?_;have e1:=of_decide_eq_true (List.mem_filter.1 hx).2;have e2:=of_decide_eq_true (List.mem_filter.1 hy).2;have:=of_decide_eq_true hlt;exact E7 (by omega)
   ·rw[List.pairwise_map];refine(h.up.filter _).imp_of_mem fun {x y} hx hy hlt=>?_;have e1:=of_decide_eq_true (List.mem_filter.1 hx).2;have e2:=of_decide_eq_true (List.mem_filter.1 hy).2;have:=of_decide_eq_true hlt;exact E7 (by omega)
   ·intro x hx y hy;obtain⟨⟨x1,x2⟩,hx3,rfl⟩:=List.mem_map.1 hx;obtain⟨⟨y1,y2⟩,hy3,rfl⟩:=List.mem_map.1 hy;obtain⟨hx1,e1⟩:=List.mem_filter.1 hx3;obtain⟨hy1,e2⟩:=List.mem_filter.1 hy3;have e1:=of_decide_eq_true e1;have e2:=of_decide_eq_true e2;have f1:=((h.ma _ _).1 hx1).2.1;have f2:=((h.ma _ _).1 hy1).2.1;simp only at e1 e2⊢;exact E7 (by omega)
  ·unfold SQ;rw[List.pairwise_map,List.pairwise_map];exact(a.Pv hu).imp fun h=>E7 h
  ·rw[Rh,Rh];refine and_congr_left fun _=>?_;simp only;rw[LY,h.ma,h.ma,List.mem_map];constructor
   ·rintro(⟨x1,x2,x3⟩| ⟨x1,x2,x3⟩)
    ·obtain⟨b,hb⟩:=Option.isSome_iff_exists.1 x3;exact⟨(v,b),(a.nW hu).2 ⟨l9 x1,by rw[s];exact hb⟩,rfl⟩
    ·obtain⟨b,hb⟩:=Option.isSome_iff_exists.1 x3;exact⟨(v,b),(a.nW hu).2 ⟨x1,hb⟩,rfl⟩
   ·rintro⟨⟨v',b⟩,hx,rfl⟩;obtain⟨m,hf⟩:=(a.nW hu).1 hx;have hne:=(eN.1 m).2.2;rcases(by omega:u<v'∨v'<u)with hl|hl
    ·exact .inr ⟨m,hl,by rw[hf];rfl⟩
    ·exact .inl ⟨l9 m,hl,by rw[s,hf];rfl⟩
 exact(List.map_inj_right fun x y h=>by injection h).1 e
theorem wE.mark (h:wE F A T)(a:kC E F)(s:UR F)(hu:dC u=true){b:Bool}(hx:(v,b)∈jO E u):decide ((min u v,max u v)∈T)=b:=by
 obtain⟨m,hf⟩:=(a.nW hu).1 hx;have hne:=(eN.1 m).2.2;rcases(by omega:u<v∨v<u)with hl|hl
 ·rw[Int.min_eq_left (by omega),Int.max_eq_right (by omega)];have ht:=h.mt u v hl;rw[hf]at ht;cases b with
  |true=>exact decide_eq_true (ht.2 ⟨m,rfl⟩)
  |false=>exact decide_eq_false fun x=>by have:=(ht.1 x).2;cases this
 ·rw[Int.min_eq_right (by omega),Int.max_eq_left (by omega)];have ht:=h.mt v u hl;rw[s,hf]at ht;cases b with
  |true=>exact decide_eq_true (ht.2 ⟨l9 m,rfl⟩)
  |false=>exact decide_eq_false fun x=>by have:=(ht.1 x).2;cases this
theorem kK (hm:dy u v=0):bR u v=(min u v,max u v):=by
 obtain⟨a,b,c⟩:=eN.1 hm;unfold bR;rw[if_pos ⟨by rw[a,b];rfl,c⟩]
theorem CX (hm:dy u v=0):min u v<max u v:=by
 have:=(eN.1 hm).2.2;omega
theorem wE.get (h:wE F A T)(a:kC E F)(hm:dy u v=0):iy E (min u v) (max u v)=(decide ((min u v,max u v)∈T),decide ((min u v,max u v)∈A)):=by
 have hp:=py hm;rw[kK hm]at hp;simp only at hp;have hl:=CX hm;generalize min u v=x at*;generalize max u v=y at*;rw[a.get hp];have h1:=h.ma x y;have h2:=h.mt x y hl;cases hF:F x y with
 |none=>
  rw[hF]at h1 h2;have e1:decide ((x,y)∈A)=false:=decide_eq_false fun c=>by cases(h1.1 c).2.2
  have e2:decide ((x,y)∈T)=false:=decide_eq_false fun c=>by cases(h2.1 c).2
  rw[e1,e2];rfl
 |some b=>
  rw[hF]at h1 h2;rw[decide_eq_true (h1.2 ⟨hp,hl,rfl⟩)];cases b with
  |true=>rw[decide_eq_true (h2.2 ⟨hp,rfl⟩)];rfl
  |false=>rw[decide_eq_false fun c=>by cases(h2.1 c).2];rfl
theorem kC.pick (a:kC E F)(hu:dC u=true)(W:List Int):jm E u W=((jO E u).foldl (fun s x=>AU W s x.1 x.2) (0,false),0):=by
 unfold jm oo;rw[if_pos hu,xW a.nV];unfold jO;rw[List.foldl_map]
theorem Qe (hu:dC u=false)(W:List Int):jm E u W=((0,false),30):=by
 unfold jm oo;rw[if_neg (by rw[hu];simp)]
theorem Qf (hu:dC u=false):kJ E u=([],30):=by
 unfold kJ oo;rw[if_neg (by rw[hu];simp)]
theorem E8 (l:List Pr)(p:Pr):(lJ l p).length<=l.length+1:=sY _ _ _
theorem rE (l:List Pr)(p:Pr):(fQ l p).length<=l.length:=List.length_filter_le _ _
end
def Xz (v:Value)(s:List Pr):aM:=fun w X=>Row ax 2 w v s∧∀k,X k↔s≠[]∧∃o n c,v=.slice (some ⟨k,o,none⟩) n c
theorem LZ (v:Value)(s:List Pr):Good (Xz v s):=
 ⟨fun w w' X h hk hs=>by
  obtain⟨⟨ao,cap,e,h1,h2,h3⟩,hX⟩:=h
  refine⟨⟨ao,cap,e,h1,h2,fun hne=>?_⟩,hX⟩
  obtain⟨b,off,e2,hb,hH⟩:=h3 hne
  subst e2 e
  have hb2:=hk b ((hX b).2 ⟨hne,off,_,_,rfl⟩)
  exact⟨b,off,rfl,Nat.lt_of_lt_of_le hb hs,fun t ht=>(World.cell?_of_block (a:=⟨b,off+t,none⟩) hb2).trans (hH t ht)⟩,fun w X h k hk=>by
  obtain⟨hne,o,n,c,e⟩:=(h.2 k).1 hk
  obtain⟨ao,cap,e1,_,_,h3⟩:=h.1
  obtain⟨b,off,e2,hb,_⟩:=h3 hne
  rw[e1,e2]at e
  cases e
  exact hb⟩
section
variable {B:Nat}{w0 w w':World}{C:Cx}{d:Dk}{E:List En}{k:Nat}{l l' xs:List aM}{v:Value}{s:List Pr}{f:FuncId}{args:Array Value}{R:Ending->List aM->Prop}
theorem Sep.Ri (h:Sep B w0 w (Xz v s::l)):Row ax 2 w v s:=by
 obtain⟨_,_,Y,⟨_,X,_,ha,_⟩,_⟩:=h;exact ha.1
theorem Sep.yq (h:Sep B w0 w l)(hb:Below w.heap.size w w')(o:Own ax 2 w.heap.size w' v s):Sep B w0 w' (Xz v s::l):=
 h.add hb (LZ _ _) (X:=fun k=>s≠[]∧∃o n c,v=.slice (some ⟨k,o,none⟩) n c) ⟨o.row,fun _=>Iff.rfl⟩ (fun k hk=>by
  obtain⟨hne,o',n,c,e⟩:=hk
  obtain⟨ao,cap,e1,_,_,h3⟩:=o
  obtain⟨b,off,e2,hb,_⟩:=h3 hne
  rw[e1,e2]at e
  cases e
  exact hb)
theorem Hp.perm {l l':List aM}(p:l.Perm l'):∀ {Y},Hp w l Y->Hp w l' Y:=by
 induction p with
 |nil=>exact fun h=>h
 |cons a _ ih=>exact fun h=>Hp.under h fun _=>ih
 |swap a b l=>exact Hp.swap
 |trans _ _ i1 i2=>exact fun h=>i2 (i1 h)
theorem Sep.perm (h:Sep B w0 w l)(p:l.Perm l'):Sep B w0 w l':=h.map fun _=>Hp.perm p
theorem aI.perm (h:aI B w0 d C E k l w)(p:l.Perm l'):aI B w0 d C E k l' w:=h.of fun r x d1 P s=>Sep.perm s (List.Perm.append_left [_,_,_,_] p)
theorem aI.lift (h:aI B w0 d C E k (xs++l) w)(K:∀L,Sep B w0 w (xs++L)->Calls Tryz.prog f args w fun e w'=>∃ys,R e ys∧Sep B w0 w' (ys++L)):Calls Tryz.prog f args w fun e w'=>∃ys,R e ys∧aI B w0 d C E k (ys++l) w':=by
 obtain⟨r,x,d1,P,X,H,s0,r1⟩:=h;exact(K (TL (C.eV r) x d1 P l) (Sep.perm s0 (List.perm_append_comm_assoc [_,_,_,_] xs l))).mono fun e w' ⟨ys,a,b⟩=>⟨ys,a,r,x,d1,P,X,H,Sep.perm b (List.perm_append_comm_assoc ys [_,_,_,_] l),r1⟩
theorem Sep.XA (h:Sep B w0 w (iN 35 jN v s::l)):Row ax 2 w v s:=by
 have e:s.flatMap jN=(flatK ax 2 s.toArray).toList:=by
  clear h
  induction s with
  |nil=>simp[flatK]
  |cons y s ih=>rw[List.flatMap_cons,ih,show y::s=[y]++s from rfl,cj ax 2 cD];simp[flatK,jN,ax,List.range_succ]
 have h1:=Sep.Kr h;rw[e]at h1;exact(bI (base:=0) (by decide) h1).row
end
end P
end Go.Proofs.YtcenfooehjcddaaGreatDoor
