/- Walks of the package cowtree and of what it stands on: lemmas, made short. -/
import Derived.Test.YtdcpfbidcpfboaaGreatDoorR20
import Derived.Test.YtdcpfbidcpfboaaGreatDoorR5
import Derived.Deep.Slices
import Derived.ProofKit
import Derived.OpenShut
import Derived.ChangeOld
import Derived.Below
import Derived.ChangeSlices
import Derived.Deep.RegionHeld3
import Derived.Deep.QuietTactic
import Derived.BigQuiet
set_option maxHeartbeats 16000000
set_option maxRecDepth 100000
set_option linter.unusedVariables false
set_option linter.unusedSimpArgs false
section
namespace Go.Proofs.YtdcpfbidcpfboaaGreatDoor.P
open Go.RowKit Go.Lib
open N (En bp Rg cM aY jK iF gL iM gM fO nS lI)
def SyF (F:Int->Int->Option Bool):Prop:=∀u v,F u v=F v u
theorem SyF.up {F:Int->Int->Option Bool}(h:SyF F)(u v:Int)(o:Option Bool):SyF (WM F u v o):=fun a c=>by
 unfold WM;by_cases h1:(a=u∧c=v)∨(a=v∧c=u)
 ·rw[if_pos h1,if_pos (by rcases h1 with⟨x,y⟩| ⟨x,y⟩;exact .inr ⟨y,x⟩;exact .inl ⟨y,x⟩)]
 ·rw[if_neg h1,if_neg (by rintro(⟨x,y⟩| ⟨x,y⟩);exact h1 (.inr ⟨y,x⟩);exact h1 (.inl ⟨y,x⟩)),h a c]
def AllE (E:List En):Prop:=∀e∈E,(dK e).2=true
theorem AllE.set {E:List En}(h:AllE E){u v:Int}(hm:dR u v=0)(b:Bool):AllE (uj E u v b):=fun e he=>by
 unfold uj at he;rw[gM,gM]at he;rcases he with rfl| ⟨rfl| ⟨he,_⟩,_⟩
 ·rw[kC (vR hm)]
 ·rw[kC hm]
 ·exact h e he
theorem AllE.clr {E:List En}(h:AllE E)(u v:Int):AllE (Bg E u v):=fun e he=>by
 unfold Bg at he;rw[fO,fO]at he;exact h e he.1.1
def prE (e:En):Int×Int:=((dK e).1.1,(dK e).1.2.1)
theorem AllE.sp {E:List En}(h:AllE E):gf um jb E=E:=by
 unfold gf;rw[List.filter_eq_self];intro e he;rw[Pb];exact WN (h e he)
theorem AllE.nd {E:List En}{F:Int->Int->Option Bool}(ha:AllE E)(h:uZ E F):E.Pairwise fun x y=>prE x≠prE y:=
 h.rg.up.imp_of_mem fun {x y} hx hy hlt e=>by
  obtain⟨a,c,t,m1,m2,m3⟩:=jF (ha x hx);obtain⟨a',c',t',WQ,WR,YL⟩:=jF (ha y hy);unfold prE at e;rw[m3,YL]at e;injection e with e1 e2;simp only at e1 e2;subst e1 e2;rw[m2,WR]at hlt;simp only at hlt;rw[vU m1 m1]at hlt;have:=of_decide_eq_true hlt;omega
theorem cnt_two {E:List En}{F:Int->Int->Option Bool}(h:uZ E F)(hs:SyF F)(ha:AllE E):E.length=2*(NH E).length:=by
 have n1:=ha.nd h;have e1:NH E=(E.filter fun e=>decide ((dK e).1.1< (dK e).1.2.1)).map prE:=by
  unfold NH;rw[ha.sp];rfl
 have d1:(NH E).Nodup:=by
  rw[e1];unfold List.Nodup;rw[List.pairwise_map];exact n1.sublist List.filter_sublist
 have d2:((E.filter fun e=>!decide ((dK e).1.1< (dK e).1.2.1)).map fun e=>((dK e).1.2.1,(dK e).1.1)).Nodup:=by
  unfold List.Nodup;rw[List.pairwise_map];refine(n1.sublist List.filter_sublist).imp fun {x y} hne e=>hne ?_;injection e with a b;unfold prE;rw[a,b]
 have p:=(List.perm_ext_iff_of_nodup d1 d2).2 fun⟨u,v⟩=>by
  rw[h.WS,List.mem_map];constructor
  ·rintro⟨m,hlt,hf⟩;obtain⟨b,hb⟩:=Option.isSome_iff_exists.1 hf;refine⟨(bQ v u,tN b),List.mem_filter.2 ⟨(h.mem _ _ _ (vR m)).2 (by rw[hs];exact hb),?_⟩,by rw[kC (vR m)]⟩;rw[kC (vR m)];simp only[Bool.not_eq_true',decide_eq_false_iff_not];omega
  ·rintro⟨e,he,h2⟩;rw[List.mem_filter]at he;obtain⟨a,c,t,m1,m2,m3⟩:=jF (ha e he.1);rw[m3]at h2 he;injection h2 with h2 h3;simp only at h2 h3;subst h2 h3;have h4:=he.1;rw[m2]at h4;have h5:=(h.mem _ _ _ m1).1 h4;refine⟨vR m1,?_,by rw[hs,h5];rfl⟩;have hne:=(eG.1 m1).2.2;have h6:=he.2;simp only[Bool.not_eq_true',decide_eq_false_iff_not]at h6;omega
 have hl:=p.length_eq;rw[List.length_map]at hl;have hc:=List.length_eq_countP_add_countP (fun e:En=>decide ((dK e).1.1< (dK e).1.2.1)) (l:=E);rw[List.countP_eq_length_filter,List.countP_eq_length_filter]at hc;have e2:(NH E).length=(E.filter fun e=>decide ((dK e).1.1< (dK e).1.2.1)).length:=by rw[e1,List.length_map]
 have e3:(E.filter fun e=>decide (¬decide ((dK e).1.1< (dK e).1.2.1)=true)).length=(E.filter fun e=>!decide ((dK e).1.1< (dK e).1.2.1)).length:=by
  congr 2
  funext e
  by_cases hx:(dK e).1.1< (dK e).1.2.1<;>simp[hx]
 omega
theorem fold_snoc {α β:Type}(f:α->β):∀(l:List α) (s:List β),l.foldl (fun s e=>s++[f e]) s=s++l.map f
 |[],s=>by simp
 |a::l,s=>by rw[List.foldl_cons,fold_snoc f l];simp
theorem fold_some {α β:Type}(q:α->Prop)[DecidablePred q](f:α->β):∀(l:List α) (s:List β),l.foldl (fun s e=>if q e then s++[f e]else s) s=s++(l.filter fun e=>decide (q e)).map f
 |[],s=>by simp
 |a::l,s=>by
  rw[List.foldl_cons,fold_some q f l];by_cases h:q a<;>simp[h]
theorem uZ.DY {E:List En}{F:Int->Int->Option Bool}(h:uZ E F){u:Int}(hu:dD u=true):DY E u=(Dt E u,0):=by
 unfold P.DY zP;rw[if_pos hu,RN h.wZ];rw[fold_snoc (fun e:En=>((dK e).1.2.1,(dK e).1.2.2)) (gf (xz u) (toA u) E) []];rfl
theorem uZ.Oo {E:List En}{F:Int->Int->Option Bool}(h:uZ E F):Oo E=(NH E,0):=by
 unfold P.Oo;rw[RN h.Bh];rw[fold_some (fun e:En=>(dK e).1.1< (dK e).1.2.1) (fun e:En=>((dK e).1.1,(dK e).1.2.1)) (gf um jb E) []];rfl
def EdS (E:List En):Prop:=∃F,uZ E F∧SyF F∧AllE E
theorem EdS.nil:EdS []:=⟨fun _ _=>none,⟨⟨List.Pairwise.nil,fun _ h=>(by cases h)⟩,fun _ _ _ _=>⟨fun h=>(by cases h),fun h=>(by cases h)⟩,fun _ h=>(by cases h)⟩,fun _ _=>rfl,fun _ h=>(by cases h)⟩
theorem EdS.set {E:List En}(h:EdS E){u v:Int}(hm:dR u v=0)(b:Bool):EdS (uj E u v b):=by
 obtain⟨F,h1,h2,h3⟩:=h;exact⟨_,h1.set hm b,h2.up _ _ _,h3.set hm b⟩
theorem EdS.cnt {E:List En}(h:EdS E):E.length=2*(NH E).length:=by
 obtain⟨F,h1,h2,h3⟩:=h;exact cnt_two h1 h2 h3
theorem EdS.seen {E:List En}(h:EdS E){u v:Int}(hm:(u,v)∈NH E):dR u v=0∧u<v∧(∃b,(v,b)∈Dt E u)∧(∃b,(u,b)∈Dt E v)∧(jG E u v).2=true:=by
 obtain⟨F,h1,h2,h3⟩:=h;obtain⟨m,hlt,hf⟩:=h1.WS.1 hm;obtain⟨b,hb⟩:=Option.isSome_iff_exists.1 hf;have hv:=eG.1 m;exact⟨m,hlt,⟨b,(h1.Vp hv.1).2 ⟨m,hb⟩⟩,⟨b,(h1.Vp hv.2.1).2 ⟨vR m,by rw[h2];exact hb⟩⟩,by rw[h1.get m];exact hf⟩
theorem EdS.clr {E:List En}(h:EdS E){u v:Int}{L:List (Int×Int)}(hm:dR u v=0)(hlt:u<v)(hn:(u,v)∉L)(he:∀p,p∈NH E↔p=(u,v)∨p∈L):EdS (Bg E u v)∧∀p,p∈NH (Bg E u v)↔p∈L:=by
 obtain⟨F,h1,h2,h3⟩:=h;have h4:=h1.clr hm;refine⟨⟨_,h4,h2.up _ _ _,h3.clr _ _⟩,fun⟨a,c⟩=>?_⟩;have h5:=he (a,c);rw[h1.WS]at h5;rw[h4.WS];unfold WM;by_cases c1:a=u∧c=v
 ·obtain⟨rfl,rfl⟩:=c1;rw[if_pos (.inl ⟨rfl,rfl⟩)];exact⟨fun x=>(by cases x.2.2),fun x=>absurd x hn⟩
 ·by_cases c2:a=v∧c=u
  ·obtain⟨rfl,rfl⟩:=c2;rw[if_pos (.inr ⟨rfl,rfl⟩)];refine⟨fun x=>(by cases x.2.2),fun x=>?_⟩;have:=(h5.2 (.inr x)).2.1;omega
  ·rw[if_neg (by rintro(x|x);exact c1 x;exact c2 x),h5];exact⟨fun x=>x.resolve_left fun e=>by injection e with e1 e2;exact c1 ⟨e1,e2⟩,fun x=>.inr x⟩
theorem EdS.up {E:List En}(h:EdS E):(NH E).Pairwise fun x y=>x≠y:=by
 obtain⟨F,h1,_,_⟩:=h;exact h1.YM.imp fun {x y} hlt e=>by subst e;omega
theorem EdS.vt {E:List En}(h:EdS E){u v:Int}(hm:(u,v)∈NH E):DY E u=(Dt E u,0)∧DY E v=(Dt E v,0):=by
 obtain⟨F,h1,h2,h3⟩:=h;obtain⟨m,hlt,hf⟩:=h1.WS.1 hm;have hv:=eG.1 m;exact⟨h1.DY hv.1,h1.DY hv.2.1⟩
theorem EdS.edg {E:List En}(h:EdS E):Oo E=(NH E,0):=by
 obtain⟨F,h1,h2,h3⟩:=h;exact h1.Oo
theorem EdS.none {E:List En}(h:EdS E)(he:∀p,p∈NH E↔p∈([]:List (Int×Int))):E=[]:=by
 have h1:=h.cnt;have h2:NH E=[]:=List.eq_nil_iff_forall_not_mem.2 fun p hp=>by cases(he p).1 hp
 rw[h2]at h1;exact List.length_eq_zero_iff.1 h1
end Go.Proofs.YtdcpfbidcpfboaaGreatDoor.P
end
section
namespace Go.Proofs.YtdcpfbidcpfboaaGreatDoor.P
open Go.Shelf Go.RowKit Go.Lib Go.Sort
open N (En bp Rg cM aY jK iF gL iM)
section
variable {B:Nat}{w0 w w':World}{C:Cx}{d:Dk}{l:List aN}{E:List En}{k q n:Nat}
def NrS (w:World)(v:Value)(s:List (Int×Bool)):Prop:=∃ao c,v=.slice ao s.length c∧(s≠[]->∃r,ao=some ⟨r,0,none⟩∧∀j,j<s.length->w.cell? ⟨r,j*2,none⟩=some (.int .i64 (s.getD j (0,false)).1))
theorem seen_any (lv:Value)(s:List (Int×Bool))(v:Int)(w:World)(hl:s.length<=1000)(h:NrS w lv s):Calls Tryz.prog 32 #[lv,.int .i64 v] w fun e w'=>e=.returned (.bool (s.any fun x=>x.1==v))∧w=w':=by
 obtain⟨ao,c,rfl,hc⟩:=h;have HC:Hid (s≠[]->∃r,ao=some ⟨r,0,none⟩∧∀j,j<s.length->w.cell? ⟨r,j*2,none⟩=some (.int .i64 (s.getD j (0,false)).1)):=hc;clear hc;go_enter Tryz.func32,Tryz.ntmps32;go_wp2
 go_loopg [5] s.length (fun kx s5 wr=>∃jj:Nat,s5=.int .i64 (jj:Int)∧jj<=s.length∧s.length-jj<=kx∧Hid ((s.take jj).any (fun x=>x.1==v)=false)∧w=wr)
 case atStart=>exact⟨0,rfl,Nat.zero_le _,Nat.le_refl _,rfl,rfl⟩
 case round=>
  obtain⟨jj,rfl,hj,hjx,HN,rfl⟩:=hrel;by_cases hlt:jj<s.length
  ·have Bq:(jj:Int)< (s.length:Int):=by omega
   have hjj0:(0:Int)<=(jj:Int):=by omega
   have hwj:IntKind.i64.wrap ((jj:Int)+1)=((jj+1:Nat):Int):=by rw[bR (by omega) (by omega)];rfl
   obtain⟨r,rfl,hc⟩:=HC.out (by intro e;rw[e]at hlt;simp at hlt);have x0:=hc jj hlt;clear hc HC;have hs:s.take (jj+1)=s.take jj++[s.getD jj (0,false)]:=by
    rw[List.take_add_one,List.getElem?_eq_getElem hlt,Option.toList_some,List.getD_eq_getElem?_getD,List.getElem?_eq_getElem hlt];rfl
   have hmem:s.getD jj (0,false)∈s:=by
    rw[List.getD_eq_getElem?_getD,List.getElem?_eq_getElem hlt];exact List.getElem_mem hlt
   generalize s.getD jj (0,false)=y at*;obtain⟨y1,y2⟩:=y;simp only at x0;by_cases hv:y1=v
   ·have HA:Hid (s.any (fun x=>x.1==v)=true):=List.any_eq_true.2 ⟨_,hmem,beq_iff_eq.2 hv⟩;have hvb:(y1==v)=true:=beq_iff_eq.2 hv;clear hs hmem hv;go_wp2;go_ret;exact⟨by rw[HA.out];rfl,rfl⟩
   ·have hvb:(y1==v)=false:=beq_eq_false_iff_ne.2 hv;have HN2:Hid ((s.take (jj+1)).any (fun x=>x.1==v)=false):=by
     show _=_;rw[hs,List.any_append,HN.out,List.any_cons,hvb];rfl
    clear hs hmem hv;go_wp2
    go_roundg (s.length- (jj+1))
    case measure=>omega
    case rel=>exact⟨jj+1,by go_num,by omega,Nat.le_refl _,HN2.out,rfl⟩
  ·have Bq:¬(jj:Int)< (s.length:Int):=by omega
   have HA:Hid (s.any (fun x=>x.1==v)=false):=by
    have:=HN.out;rw[List.take_of_length_le (by omega)]at this;exact this
   go_wp2;go_ret;exact⟨by rw[HA.out];rfl,rfl⟩
theorem TS.root0 {room:Nat}{d:Dk}{S:Dr}{root:Int}{X:List Int}{H:Nat}(T:TS room d S root [] X H):root=0:=by
 have hc:=T.cnt;rcases T with⟨a,_⟩| ⟨h,u,a,G,tb,e,rfl,rfl⟩
 ·exact a
 ·exfalso;rw[cC]at hc;simp only[List.length_nil,List.length_cons]at hc;rcases hc.2 with h0|h0
  ·omega
  ·have:0<2^h:=Nat.pow_pos (by omega);omega
theorem trs_root0 (h0:C.err=0)(h:aJ B w0 d C [] k l w):Calls Tryz.prog 33 #[ptr C.tq] w fun e w'=>e=.returned (.int .i64 0)∧w=w':=by
 obtain⟨r,x,d1,P,X,H,s,hd,TT,M,hc⟩:=h;have hr:=TS.root0 TT.ts;subst hr;have KE:=VN s;rw[show(C.eI 0).err=0 from h0]at KE;have KE2:Hid _:=KE;have KG:Hid _:=kU w C.tq;obtain⟨ts,⟨t0,t1,t2⟩,_⟩:=Sep.zb (Sep.pk [_,_] s);have y1:w.cell? ⟨C.tq,1,none⟩=some (.int .i64 0):=t1;clear s hd TT M hc KE t0 t1 t2;unfold ptr at*;go_enter Tryz.func33,Tryz.ntmps33
 go_wp2_with fail
 refine Calls.mono KE2.out ?_;rintro e w1 ⟨rfl,rfl⟩;clear KE2
 go_wp2_with fail
 refine Calls.mono KG.out ?_;rintro e w1 ⟨rfl,rfl⟩;clear KG;go_wp2;go_ret;exact⟨rfl,rfl⟩
theorem encN_at:∀(s:List (Int×Bool)) (j:Nat),j<s.length->(s.flatMap kt)[j*2]? =some (.int .i64 (s.getD j (0,false)).1)
 |[],j,h=>by cases h
 |a::s,0,_=>rfl
 |a::s,j+1,h=>by
  rw[List.flatMap_cons,show(j+1)*2=j*2+2 by omega,List.getElem?_append_right (by show 2<=_;omega)];rw[show j*2+2- (kt a).length=j*2 by show j*2+2-2=_;omega,encN_at s j (by simpa using h)];rfl
theorem nrs_of {v:Value}{s:List (Int×Bool)}(h:Sep B w0 w (lz 74 kt v s::l))(hv:∃ao c,v=.slice ao s.length c):NrS w v s:=by
 obtain⟨ao,c,rfl⟩:=hv;refine⟨ao,c,rfl,fun hne=>?_⟩;have hl:(s.flatMap kt).length=s.length*2:=by
  clear h hne
  induction s with
  |nil=>rfl
  |cons a s ih=>rw[List.flatMap_cons,List.length_append,ih,List.length_cons];show 2+_=_;omega
 have hp:0<s.length:=List.length_pos_iff.2 hne;obtain⟨r,c',e,_,hr,hz⟩:=Sep.gC h (by rw[hl];omega);injection e with e1 e2 e3;refine⟨r,e1,fun j hj=>?_⟩;rw[hz (j*2) (by rw[hl];omega)];exact encN_at s j hj
def NqS (w:World)(v:Value)(s:List (Int×Int)):Prop:=∃ao c,v=.slice ao s.length c∧(s≠[]->∃r,ao=some ⟨r,0,none⟩∧∀j,j<s.length->w.cell? ⟨r,j*2,none⟩=some (.int .i64 (s.getD j (0,0)).1)∧w.cell? ⟨r,j*2+1,none⟩=some (.int .i64 (s.getD j (0,0)).2))
theorem encQ_at:∀(s:List (Int×Int)) (j:Nat),j<s.length->(s.flatMap k6)[j*2]? =some (.int .i64 (s.getD j (0,0)).1)∧(s.flatMap k6)[j*2+1]? =some (.int .i64 (s.getD j (0,0)).2)
 |[],j,h=>by cases h
 |a::s,0,_=>⟨rfl,rfl⟩
 |a::s,j+1,h=>by
  obtain⟨h1,h2⟩:=encQ_at s j (by simpa using h);have e:(k6 a).length=2:=rfl;rw[List.flatMap_cons,show(j+1)*2=j*2+2 by omega,List.getElem?_append_right (by rw[e];omega),List.getElem?_append_right (by rw[e];omega),e];rw[show j*2+2-2=j*2 by omega,show j*2+2+1-2=j*2+1 by omega,h1,h2];exact⟨rfl,rfl⟩
theorem nqs_of {v:Value}{s:List (Int×Int)}(h:Sep B w0 w (lz 35 k6 v s::l))(hv:∃ao c,v=.slice ao s.length c):NqS w v s:=by
 obtain⟨ao,c,rfl⟩:=hv;refine⟨ao,c,rfl,fun hne=>?_⟩;have hl:(s.flatMap k6).length=s.length*2:=by
  clear h hne
  induction s with
  |nil=>rfl
  |cons a s ih=>rw[List.flatMap_cons,List.length_append,ih,List.length_cons];show 2+_=_;omega
 have hp:0<s.length:=List.length_pos_iff.2 hne;obtain⟨r,c',e,_,hr,hz⟩:=Sep.gC h (by rw[hl];omega);injection e with e1 e2 e3;refine⟨r,e1,fun j hj=>?_⟩;rw[hz (j*2) (by rw[hl];omega),hz (j*2+1) (by rw[hl];omega)];exact encQ_at s j hj
end
end Go.Proofs.YtdcpfbidcpfboaaGreatDoor.P
end
section
namespace Go.Proofs.YtdcpfbidcpfboaaGreatDoor.P
open Go.Deep Go.ChangeShapes Go.WideShapes Go.ChangeAt Go.RowKit Go.ChangeMaps Go.Shelf Go.Lib Go.Sort
structure A17 where
 k:Int
 u:Int
 v:Int
 t:Bool
def a17:A17:=⟨0,0,0,false⟩
def AcC (w:World)(r o:Nat)(x:A17):Prop:=w.cell? ⟨r,o,none⟩=some (.int .i64 x.k)∧w.cell? ⟨r,o+1,none⟩=some (.int .i64 x.u)∧w.cell? ⟨r,o+2,none⟩=some (.int .i64 x.v)∧w.cell? ⟨r,o+3,none⟩=some (.bool x.t)
def ActR17 (w:World)(v:Value)(l:List A17):Prop:=∃ao cap,v=.slice ao l.length cap∧(l≠[]->∃r o,ao=some ⟨r,o,none⟩∧r<w.heap.size∧∀j,j<l.length->AcC w r (o+j*4) (l.getD j a17))
theorem ActR17.at {w:World}{ao:Option Addr}{n cap:Nat}{l:List A17}(h:ActR17 w (.slice ao n cap) l){j:Nat}(hj:j<l.length):
  ∃r o,ao=some ⟨r,o,none⟩∧r<w.heap.size∧∀u,Below w.heap.size w u->AcC u r (o+j*4) (l.getD j a17):=by
 obtain⟨dJ,cap',e,h1⟩:=h;cases e;obtain⟨r,o,e2,hr,hc⟩:=h1 (by intro e;rw[e]at hj;simp at hj);refine⟨r,o,e2,hr,fun u hb=>?_⟩;have k:∀j,u.cell? ⟨r,j,none⟩=w.cell? ⟨r,j,none⟩:=fun j=>World.cell?_of_block (a:=⟨r,j,none⟩) (hb.block r hr);obtain⟨a,b,c,d⟩:=hc j hj;exact⟨by rw[k];exact a,by rw[k];exact b,by rw[k];exact c,by rw[k];exact d⟩
variable {H:Type}{enc:TypeId×Value->H}{W:World}{base:Nat}{spare:Nat->Bool}{held:Bool}{fuel:Nat}{x:DataW H×List MemPlace}
theorem bcell {W:World}{b o:Nat}{v:Value}(h:W.cell? ⟨b,o,none⟩=some v):b<W.heap.size:=by
 rcases Nat.lt_or_ge b W.heap.size with hb|hb
 ·exact hb
 ·have e:W.heap[b]? =none:=Array.getElem?_eq_none hb;simp[World.cell?,e]at h
theorem trodS4 {P:Program}{w:World}{t:TypeId}{f0 f1 f2 f3:Field}{fuel:Nat}{cs:List Value}{x:DataW H×List MemPlace}(ht:P.underlying t=some (.struct #[f0,f1,f2,f3]))(h:DataW.trod enc P w base spare held fuel t cs=some x):
  ∃y0 y1 y2 y3 n,cs.length=P.cellsOf t∧DataW.trod enc P w base spare held n f0.type ((cs.drop f0.offset).take (P.cellsOf f0.type))=some y0∧
   DataW.trod enc P w base spare held n f1.type ((cs.drop f1.offset).take (P.cellsOf f1.type))=some y1∧DataW.trod enc P w base spare held n f2.type ((cs.drop f2.offset).take (P.cellsOf f2.type))=some y2∧
   DataW.trod enc P w base spare held n f3.type ((cs.drop f3.offset).take (P.cellsOf f3.type))=some y3:=by
 obtain⟨xs,n,_,rfl,hl,hlen,hf⟩:=DataW.trod_struct ht h
 match xs,hlen with
 |[y0,y1,y2,y3],_=>exact⟨y0,y1,y2,y3,n,hl,by simpa using hf 0 f0 rfl,by simpa using hf 1 f1 rfl,by simpa using hf 2 f2 rfl,by simpa using hf 3 f3 rfl⟩
theorem open_acts17 {a:Option Addr}{len cap:Nat}(h:DataW.trod enc Tryz.prog W base spare held fuel 22 (Value.slice a len cap).cells.toList=some x):∃l:List A17,ActR17 W (.slice a len cap) l:=by
 rcases open_slice Tryz.underlying22 h with⟨hcs,_⟩| ⟨ad,l,c,m,n,D,Pl,hcs,_,hl,_,hm,_,hcell⟩
 ·simp[Value.cells]at hcs;obtain⟨rfl,rfl,rfl⟩:=hcs;exact⟨[],none,0,rfl,fun h=>absurd rfl h⟩
 ·simp[Value.cells]at hcs;obtain⟨rfl,rfl,rfl⟩:=hcs;have ce:Tryz.prog.cellsOf 33=4:=by kernel_rfl
  have ci:Tryz.prog.cellsOf 3=1:=by kernel_rfl
  have cb:Tryz.prog.cellsOf 4=1:=by kernel_rfl
  have each:∀i,i<len->∃q:A17,W.cell? (ad.add (i*4))=some (.int .i64 q.k)∧W.cell? (ad.add (i*4+1))=some (.int .i64 q.u)∧W.cell? (ad.add (i*4+2))=some (.int .i64 q.v)∧W.cell? (ad.add (i*4+3))=some (.bool q.t):=by
   intro i hi;obtain⟨cs',h1,h2⟩:=hcell i (by rw[hm];split<;>omega);rw[ce]at h1;obtain⟨_,hlen,hc⟩:=World.cells?_some h1;obtain⟨y0,y1,y2,y3,k,_,g0,g1,g2,g3⟩:=trodS4 Tryz.underlying33 h2
   match cs',hlen with
   |[v0,v1,v2,v3],_=>
    simp[ci,cb]at g0 g1 g2 g3;obtain⟨z0,e0,_⟩:=DataW.trod_int Tryz.underlying3 g0;obtain⟨z1,e1,_⟩:=DataW.trod_int Tryz.underlying3 g1;obtain⟨z2,e2,_⟩:=DataW.trod_int Tryz.underlying3 g2;obtain⟨z3,e3,_⟩:=DataW.trod_bool Tryz.underlying4 g3;have c0:=hc 0 (by omega);have c1:=hc 1 (by omega);have c2:=hc 2 (by omega);have c3:=hc 3 (by omega);rw[add_add]at c0 c1 c2 c3;simp only[List.cons.injEq,and_true]at e0 e1 e2 e3;subst e0 e1 e2 e3;exact⟨⟨z0,z1,z2,z3⟩,by simpa using c0,by simpa using c1,by simpa using c2,by simpa using c3⟩
  haveI:Inhabited A17:=⟨a17⟩
  obtain⟨q,hq⟩:=choose_lt each;have hg:∀j,j<len->((List.range len).map q).getD j a17=q j:=fun j hj=>by simp[List.getD_eq_getElem?_getD,hj]
  refine⟨(List.range len).map q,some ad,cap,by simp,fun hne=>?_⟩;have hpos:0<len:=by
   rcases Nat.eq_zero_or_pos len with e|e
   ·subst e;exact absurd rfl hne
   ·exact e
  obtain⟨b,off,spot⟩:=ad;have c0:=(hq 0 hpos).1;have hspot:spot=none:=by simpa[Addr.add]using World.cell?_spot c0
  subst hspot;rw[add_plain]at c0;refine⟨b,off,rfl,bcell c0,fun j hj=>?_⟩;have hj2:j<len:=by simpa using hj
  rw[hg j hj2];obtain⟨x0,x1,x2,x3⟩:=hq j hj2;simp only[add_plain]at x0 x1 x2 x3;exact⟨x0,x1,x2,x3⟩
end Go.Proofs.YtdcpfbidcpfboaaGreatDoor.P
end
section
namespace Go.Proofs.YtdcpfbidcpfboaaGreatDoor.P
open Go.Shelf Go.RowKit Go.Lib Go.Sort
open N (En bp Rg cM aY jK iF gL iM)
theorem sp_all0 (E:List En):gf ⟨#[]⟩ ⟨#[]⟩ E=E:=by
 unfold gf;rw[List.filter_eq_self];intro e _;have h1:bp e.1 ⟨#[]⟩=false:=by
  rw[<-yh e.1,lN (y:=[])];cases e.1.data.toList<;>rfl
 rw[h1];rfl
theorem mkP_sw {u v:Int}(h:dR u v=0)(hlt:u<v):cf v u=(u,v):=by
 obtain⟨a,b,c⟩:=eG.1 h;unfold cf;rw[a,b,if_pos ⟨rfl,by omega⟩,Int.min_eq_right (by omega),Int.max_eq_left (by omega)]
theorem near_len {E:List En}{u:Int}:(Dt E u).length<=E.length:=by
 unfold Dt;rw[List.length_map];exact List.length_filter_le _ _
theorem any_of {s:List (Int×Bool)}{v:Int}(h:∃b,(v,b)∈s):s.any (fun x=>x.1==v)=true:=by
 obtain⟨b,h⟩:=h;exact List.any_eq_true.2 ⟨_,h,beq_iff_eq.2 rfl⟩
theorem adjCounts (lv:Value)(l:List A17)(w:World)(TB:uv w)(hL:ActR17 w lv l):
  Calls Tryz.prog 7 #[lv] w fun e w'=>e=.returned (.bool true)∧Below w.heap.size w w':=by
 obtain⟨al,cap,rfl,_⟩:=id hL;have HA:Hid (ActR17 w (.slice al l.length cap) l):=hL;have TT:Hid (cd w.heap.size w):=LA TB;have KW:Hid _:=Ov TT.out (Sep.nil (Nat.le_refl _) (Below.refl _ _));clear hL TB;go_enter Tryz.func7,Tryz.ntmps7
 go_wp2_with fail
 refine Calls.mono KW.out ?_;rintro e w1 ⟨rfl,s1⟩;have S1:Hid (Sep w.heap.size w w1 []):=s1;clear KW s1;by_cases hb:80<l.length
 ·have hbI:(80:Int)< (l.length:Int):=by omega
  go_wp2;go_ret;exact⟨rfl,S1.out.Fx⟩
 have hbI:¬(80:Int)< (l.length:Int):=by omega
 have HL:Hid (l.length<=80):=Nat.le_of_not_lt hb;clear hb;have KT:Hid _:=Ou (n:=2000) (by omega) (by omega) S1.out;have HR:Hid ((Dk.new 2000).room=2000):=zM (by omega) (by omega);clear S1;generalize Dk.new 2000=d0 at*;have HRM:Hid (d0.room<=16384):=by have:=HR.out;show _<=_;omega
 have HCP:Hid (∀E':List En,E'.length<=200->Cap d0.room d0 E'):=fun E' h=>Xa h (by rw[HR.out];omega)
 go_wp2_with fail
 refine Calls.mono KT.out ?_;rintro e w3 ⟨C,q,rfl,hC,h3⟩;have C0:Hid (C.err=0):=hC;have S6:Hid (aJ w.heap.size w d0 C [] 0 (cI q C::[]) w3):=h3;clear KT hC h3;unfold ptr at*;go_wp2
 go_loopg [6] l.length (fun kx s6 wr=>∃(ii k:Nat) (E:List En),s6=.int .i64 (ii:Int)∧ii<=l.length∧l.length-ii<=kx∧Hid (E.length<=2*ii∧k<=2*ii)∧Hid (EdS E)∧Hid (aJ w.heap.size w d0 C E k (cI q C::[]) wr))
 case atStart=>exact⟨0,0,[],rfl,Nat.zero_le _,Nat.le_refl _,⟨Nat.le_refl _,Nat.le_refl _⟩,EdS.nil,S6.out⟩
 case round=>
  obtain⟨ii,k,E,rfl,hi,hix,HE,HD,HS⟩:=hrel;clear S6;by_cases hlt:ii<l.length
  ·have Bq:(ii:Int)< (l.length:Int):=by omega
   have hii0:(0:Int)<=(ii:Int):=by omega
   obtain⟨r,o,e1,hr,hc⟩:=HA.out.at hlt;subst e1;have hwj:IntKind.i64.wrap ((ii:Int)+1)=((ii+1:Nat):Int):=by rw[bR (by omega) (by have:=HL.out;omega)];rfl
   generalize l.getD ii a17=y at*;obtain⟨yk,yu,yv,yt⟩:=y;have KC:Hid (∀u,Below w.heap.size w u->Below w.heap.size w u∧u.cell? ⟨r,o+ii*4+1,none⟩=some (.int .i64 yu)∧u.cell? ⟨r,o+ii*4+2,none⟩=some (.int .i64 yv)∧u.cell? ⟨r,o+ii*4+3,none⟩=some (.bool yt)):=fun u hu=>⟨hu,(hc u hu).2⟩;have HTd:Hid (aJ w.heap.size w d0 C E k (cI q C::[]) wr.drew):=aJ.dr HS.out;have HSd:=KC.out _ HTd.out.sep.Fx;have KP:Hid (∀u,aJ w.heap.size w d0 C E k (cI q C::[]) u->Calls Tryz.prog 12 #[ptr q,.int .i64 yu,.int .i64 yv,.bool yt] u fun e w'=>(∃z,e=.returned (.int .i64 z))∧∃E2 k2,(E2.length<=2*(ii+1)∧k2<=2*(ii+1))∧EdS E2∧aJ w.heap.size w d0 C E2 k2 (cI q C::[]) w'):=fun u hu=>(Td (n:=200) yu yv yt TT.out HRM.out C0.out HCP.out (by have:=HE.out;have:=HL.out;omega) (Nat.le_refl _) (by have:=HE.out;have:=HL.out;omega) hu).mono fun e w' ⟨e1,h1,h2⟩=>by
    refine⟨⟨_,e1⟩,?_⟩;by_cases hm:dR yu yv=0
    ·exact⟨_,_,⟨by have:=Xd (E:=E) (u:=(cf yu yv).1) (v:=(cf yu yv).2) (b:=yt);have:=HE.out;omega,by have:=HE.out;omega⟩,HD.out.set (Bu hm) yt,h2 hm⟩
    ·exact⟨_,_,⟨by have:=HE.out;omega,by have:=HE.out;omega⟩,HD.out,h1 hm⟩
   clear hc HS;unfold ptr at*
   go_wp2_with fail
   go_region_held3 (fun w'=>Below w.heap.size w w'∧w'.cell? ⟨r,o+ii*4+1,none⟩=some (.int .i64 yu)∧w'.cell? ⟨r,o+ii*4+2,none⟩=some (.int .i64 yv)∧w'.cell? ⟨r,o+ii*4+3,none⟩=some (.bool yt)) (first|assumption) ((go_at_call 12;refine Calls.mono (KP.out _ HTd.out) ?_;rintro e w' ⟨⟨z,rfl⟩,E2,k2,b1,b2,h9⟩;have HSf:=KC.out _ h9.sep.Fx;have HTf:Hid _:=h9;have HB1:Hid _:=b1;have HB2:Hid _:=b2;clear h9 b1 b2))
   go_wp2
   go_roundg (l.length- (ii+1))
   case measure=>omega
   case rel=>exact⟨ii+1,k2,E2,by go_num,by omega,Nat.le_refl _,HB1.out,HB2.out,HTf.out⟩
  ·have Bq:¬(ii:Int)< (l.length:Int):=by omega
   have HE5:Hid (E.length<=160∧k<=160):=by have:=HE.out;have:=HL.out;exact⟨by omega,by omega⟩
   have KE:Hid (Calls Tryz.prog 18 #[ptr q] wr fun e w'=>∃ao c,e=.returned (.tuple #[.slice ao (NH E).length c,.int .i64 0])∧aJ w.heap.size w d0 C E k (cI q C::lz 35 k6 (.slice ao (NH E).length c) (NH E)::[]) w'):=(V5 TT.out HRM.out C0.out (by have:=HE5.out;omega) HS.out).mono fun e w' ⟨v,o,e1,e2,e3,h⟩=>by
    rw[HD.out.edg]at e1 e2 e3;obtain⟨rfl,ao,c,rfl⟩:=e2 rfl;exact⟨ao,c,e1,aJ.swap h⟩
   clear HE HS hix hi;generalize hLL:NH E=LL at*;unfold ptr at*
   go_wp2_with fail
   refine Calls.mono KE.out ?_;rintro e w5 ⟨ao,c,rfl,h5⟩;have SL:Hid (aJ w.heap.size w d0 C E k (cI q C::lz 35 k6 (.slice ao LL.length c) LL::[]) w5):=h5;have HN:Hid (LL.length<=80):=by
    have:=HD.out.cnt;rw[hLL]at this;have:=HE5.out;show _<=_;omega
   clear KE h5;go_wp2
   go_loopg [9] LL.length (fun kx s9 wr=>∃jj:Nat,s9=.int .i64 (jj:Int)∧jj<=LL.length∧LL.length-jj<=kx∧Hid (aJ w.heap.size w d0 C E k (cI q C::lz 35 k6 (.slice ao LL.length c) LL::[]) wr))
   case atStart=>exact⟨0,rfl,Nat.zero_le _,Nat.le_refl _,SL.out⟩
   case round=>
    obtain⟨jj,rfl,hj,hjx,HT⟩:=hrel;clear SL;by_cases hlt:jj<LL.length
    ·have hltJ:(jj:Int)< (LL.length:Int):=by omega
     have hjj0:(0:Int)<=(jj:Int):=by omega
     have hwj:IntKind.i64.wrap ((jj:Int)+1)=((jj+1:Nat):Int):=by rw[bR (by omega) (by have:=HN.out;omega)];rfl
     have HCELL:∃r,ao=some ⟨r,0,none⟩∧∀u k9 L9,aJ w.heap.size w d0 C E k9 (cI q C::lz 35 k6 (.slice ao LL.length c) LL::L9) u->u.cell? ⟨r,jj*2,none⟩=some (.int .i64 (LL.getD jj (0,0)).1)∧u.cell? ⟨r,jj*2+1,none⟩=some (.int .i64 (LL.getD jj (0,0)).2):=by
      have hne:LL≠[]:=by intro e;rw[e]at hlt;simp at hlt
      obtain⟨_,_,e,h3⟩:=nqs_of (aJ.FK HT.out).sep ⟨_,_,rfl⟩;cases e;obtain⟨r,e,_⟩:=h3 hne;refine⟨r,e,fun u k9 L9 hu=>?_⟩;obtain⟨_,_,e2,h3⟩:=nqs_of (aJ.FK hu).sep ⟨_,_,rfl⟩;cases e2;obtain⟨r',e',h4⟩:=h3 hne;rw[e]at e';cases e';exact h4 jj hlt
     obtain⟨r,e1,hc⟩:=HCELL;subst e1;have hmem:LL.getD jj (0,0)∈NH E:=by
      rw[hLL,List.getD_eq_getElem?_getD,List.getElem?_eq_getElem hlt];exact List.getElem_mem hlt
     have KC:Hid (∀u k9 L9,aJ w.heap.size w d0 C E k9 (cI q C::lz 35 k6 (.slice (some ⟨r,0,none⟩) LL.length c) LL::L9) u->u.cell? ⟨r,jj*2,none⟩=some (.int .i64 (LL.getD jj (0,0)).1)∧u.cell? ⟨r,jj*2+1,none⟩=some (.int .i64 (LL.getD jj (0,0)).2)):=hc;clear hc;generalize LL.getD jj (0,0)=y at*;obtain⟨yu,yv⟩:=y;have HM:Hid ((yu,yv)∈NH E):=hmem;clear hmem;simp only at KC;obtain⟨x0,x1⟩:=KC.out _ _ _ HT.out;have KN1:Hid (∀w5 L9,aJ w.heap.size w d0 C E k (cI q C::L9) w5->Calls Tryz.prog 30 #[ptr q,.int .i64 yu] w5 fun e w'=>∃ao c,e=.returned (.tuple #[.slice ao (Dt E yu).length c,.int .i64 0])∧aJ w.heap.size w d0 C E k (lz 74 kt (.slice ao (Dt E yu).length c) (Dt E yu)::cI q C::L9) w'):=fun w5 L9 h5=>(Tl TT.out HRM.out C0.out (by have:=HE5.out;omega) h5).mono fun e w' ⟨v,o,e1,e2,e3,h⟩=>by
      rw[(HD.out.vt HM.out).1]at e1 e2 e3;obtain⟨rfl,ao,c,rfl⟩:=e2 rfl;exact⟨ao,c,e1,h⟩
     have KN2:Hid (∀w5 L9,aJ w.heap.size w d0 C E k (cI q C::L9) w5->Calls Tryz.prog 30 #[ptr q,.int .i64 yv] w5 fun e w'=>∃ao c,e=.returned (.tuple #[.slice ao (Dt E yv).length c,.int .i64 0])∧aJ w.heap.size w d0 C E k (lz 74 kt (.slice ao (Dt E yv).length c) (Dt E yv)::cI q C::L9) w'):=fun w5 L9 h5=>(Tl TT.out HRM.out C0.out (by have:=HE5.out;omega) h5).mono fun e w' ⟨v,o,e1,e2,e3,h⟩=>by
      rw[(HD.out.vt HM.out).2]at e1 e2 e3;obtain⟨rfl,ao,c,rfl⟩:=e2 rfl;exact⟨ao,c,e1,h⟩
     unfold ptr at*
     go_wp2_with fail
     refine Calls.mono (KN1.out _ _ HT.out) ?_;rintro e w6 ⟨a6,c6,rfl,h6⟩;have H6:Hid (aJ w.heap.size w d0 C E k (cI q C::lz 35 k6 (.slice (some ⟨r,0,none⟩) LL.length c) LL::lz 74 kt (.slice a6 (Dt E yu).length c6) (Dt E yu)::[]) w6):=aJ.Ug h6;clear KN1 h6 x0 x1 HT;obtain⟨x0,x1⟩:=KC.out _ _ _ H6.out
     go_wp2_with fail
     refine Calls.mono (KN2.out _ _ H6.out) ?_;rintro e w7 ⟨a7,c7,rfl,h7⟩;have H7:Hid (aJ w.heap.size w d0 C E k (cI q C::lz 35 k6 (.slice (some ⟨r,0,none⟩) LL.length c) LL::lz 74 kt (.slice a7 (Dt E yv).length c7) (Dt E yv)::lz 74 kt (.slice a6 (Dt E yu).length c6) (Dt E yu)::[]) w7):=aJ.Ug h7;have HTd:=H7.out;obtain⟨x0,x1⟩:=KC.out _ _ _ HTd;have hsn:=HD.out.seen HM.out;have KS1:Hid (Calls Tryz.prog 32 #[.slice a6 (Dt E yu).length c6,.int .i64 yv] w7 fun e w'=>e=.returned (.bool true)∧w7=w'):=by
      have:=seen_any (.slice a6 (Dt E yu).length c6) (Dt E yu) yv w7 (Nat.le_trans near_len (by have:=HE5.out;omega)) (nrs_of (aJ.FK (aJ.FK (aJ.FK HTd))).sep ⟨_,_,rfl⟩);rw[any_of hsn.2.2.1]at this;exact this
     have KS2:Hid (Calls Tryz.prog 32 #[.slice a7 (Dt E yv).length c7,.int .i64 yu] w7 fun e w'=>e=.returned (.bool true)∧w7=w'):=by
      have:=seen_any (.slice a7 (Dt E yv).length c7) (Dt E yv) yu w7 (Nat.le_trans near_len (by have:=HE5.out;omega)) (nrs_of (aJ.FK (aJ.FK HTd)).sep ⟨_,_,rfl⟩);rw[any_of hsn.2.2.2.1]at this;exact this
     have HTe:Hid (aJ w.heap.size w d0 C E k (cI q C::lz 35 k6 (.slice (some ⟨r,0,none⟩) LL.length c) LL::[]) w7):=HTd.of fun _ _ _ _ s=>Sep.drop (Sep.pk [_,_,_,_,_,_] (Sep.drop (Sep.pk [_,_,_,_,_,_] s)));clear KN2 h7 H6 H7 HTd hsn x0 x1;obtain⟨x0,x1⟩:=KC.out _ _ _ HTe.out;generalize(Dt E yu).length=n6 at*;generalize(Dt E yv).length=n7 at*
     go_wp2_with fail
     refine Calls.mono KS1.out ?_;rintro e w8 ⟨rfl,rfl⟩;clear KS1
     go_wp2_with fail
     refine Calls.mono KS2.out ?_;rintro e w8 ⟨rfl,rfl⟩;clear KS2 x0 x1;go_wp2
     go_roundg (LL.length- (jj+1))
     case measure=>omega
     case rel=>exact⟨jj+1,by go_num,by omega,Nat.le_refl _,HTe.out⟩
    ·have hltJ:¬(jj:Int)< (LL.length:Int):=by omega
     have hsp:gf ⟨#[]⟩ ⟨#[]⟩ E=E:=sp_all0 E;have hE2:E.length=2*LL.length:=by rw[<-hLL];exact HD.out.cnt
     have KS:=JW (fr:=⟨#[]⟩) (tt:=⟨#[]⟩) TT.out HRM.out C0.out (by have:=HE5.out;omega) HT.out;rw[hsp,hE2]at KS;have KS2:Hid _:=KS;have hw2:IntKind.i64.wrap (2*(LL.length:Int))=2*(LL.length:Int):=bR (by omega) (by have:=HN.out;omega);have HU:Hid (LL.Pairwise fun x y=>x≠y):=by rw[<-hLL];exact HD.out.up
     have HI:Hid (∀p,p∈NH E↔p∈LL.drop 0):=fun p=>by rw[hLL];rfl
     clear KS HT hsp;unfold ptr at*
     go_wp2_with fail
     refine Calls.mono KS2.out ?_;rintro e w6 ⟨a6,c6,rfl,h6⟩;have H6:Hid _:=aJ.FK h6;clear KS2 h6;go_wp2;clear hw2 hE2 hltJ hj hjx Bq;have HD1:Hid (EdS E):=HD
     go_loopg [16] LL.length (fun kx s16 wr=>∃(jj k3:Nat) (E3:List En),s16=.int .i64 (jj:Int)∧jj<=LL.length∧LL.length-jj<=kx∧Hid (E3.length<=160∧k3<=160+2*jj)∧Hid (EdS E3)∧Hid (∀p,p∈NH E3↔p∈LL.drop jj)∧Hid (aJ w.heap.size w d0 C E3 k3 (cI q C::lz 35 k6 (.slice ao LL.length c) LL::[]) wr))
     case atStart=>exact⟨0,k,E,rfl,Nat.zero_le _,Nat.le_refl _,⟨HE5.out.1,by have:=HE5.out.2;omega⟩,HD1,HI.out,H6.out⟩
     case round=>
      obtain⟨j3,k3,E3,rfl,hj,hjx,HB3,HD3,HI3,HT3⟩:=hrel;clear H6 HI HD HD1 HE5 hLL;by_cases hlt:j3<LL.length
      ·have hltJ:(j3:Int)< (LL.length:Int):=by omega
       have hjj0:(0:Int)<=(j3:Int):=by omega
       have hwj:IntKind.i64.wrap ((j3:Int)+1)=((j3+1:Nat):Int):=by rw[bR (by omega) (by have:=HN.out;omega)];rfl
       have HCELL:∃r,ao=some ⟨r,0,none⟩∧∀u k9 E9,aJ w.heap.size w d0 C E9 k9 (cI q C::lz 35 k6 (.slice ao LL.length c) LL::[]) u->u.cell? ⟨r,j3*2,none⟩=some (.int .i64 (LL.getD j3 (0,0)).1)∧u.cell? ⟨r,j3*2+1,none⟩=some (.int .i64 (LL.getD j3 (0,0)).2):=by
        have hne:LL≠[]:=by intro e;rw[e]at hlt;simp at hlt
        obtain⟨_,_,e,h3⟩:=nqs_of (aJ.FK HT3.out).sep ⟨_,_,rfl⟩;cases e;obtain⟨r,e,_⟩:=h3 hne;refine⟨r,e,fun u k9 E9 hu=>?_⟩;obtain⟨_,_,e2,h3⟩:=nqs_of (aJ.FK hu).sep ⟨_,_,rfl⟩;cases e2;obtain⟨r',e',h4⟩:=h3 hne;rw[e]at e';cases e';exact h4 j3 hlt
       obtain⟨r,e1,hc⟩:=HCELL;subst e1;have KX:Hid (∀u k9 E9,aJ w.heap.size w d0 C E9 k9 (cI q C::lz 35 k6 (.slice (some ⟨r,0,none⟩) LL.length c) LL::[]) u->u.cell? ⟨r,j3*2,none⟩=some (.int .i64 (LL.getD j3 (0,0)).1)∧u.cell? ⟨r,j3*2+1,none⟩=some (.int .i64 (LL.getD j3 (0,0)).2)):=hc;clear hc;have hdr:LL.drop j3=LL.getD j3 (0,0)::LL.drop (j3+1):=by
        rw[List.drop_eq_getElem_cons hlt,List.getD_eq_getElem?_getD,List.getElem?_eq_getElem hlt];rfl
       have hpw:(LL.drop j3).Pairwise fun x y=>x≠y:=HU.out.sublist (List.drop_sublist _ _);rw[hdr]at hpw;have hni:LL.getD j3 (0,0)∉LL.drop (j3+1):=fun h=>(List.pairwise_cons.1 hpw).1 _ h rfl;have hmm:∀p,p∈NH E3↔p=LL.getD j3 (0,0)∨p∈LL.drop (j3+1):=fun p=>by rw[HI3.out p,hdr,List.mem_cons]
       clear hdr hpw;generalize LL.getD j3 (0,0)=y at*;obtain⟨yu,yv⟩:=y;simp only at KX;have hsn:=HD3.out.seen ((hmm (yu,yv)).2 (.inl rfl));have hcl:=HD3.out.clr hsn.1 hsn.2.1 hni hmm;have HD4:Hid (EdS (Bg E3 yu yv)):=hcl.1;have HI4:Hid (∀p,p∈NH (Bg E3 yu yv)↔p∈LL.drop (j3+1)):=hcl.2;have OU:Hid ((Bg E3 yu yv).length<=160∧k3+2<=160+2*(j3+1)):=⟨Nat.le_trans Xe HB3.out.1,by have:=HB3.out.2;omega⟩;have KC:Hid (∀u,aJ w.heap.size w d0 C E3 k3 (cI q C::lz 35 k6 (.slice (some ⟨r,0,none⟩) LL.length c) LL::[]) u->Calls Tryz.prog 15 #[ptr q,.int .i64 yv,.int .i64 yu] u fun e w'=>e=.returned (.int .i64 0)∧aJ w.heap.size w d0 C (Bg E3 yu yv) (k3+2) (cI q C::lz 35 k6 (.slice (some ⟨r,0,none⟩) LL.length c) LL::[]) w'):=fun u hu=>(Zd (n:=200) yv yu TT.out HRM.out C0.out HCP.out (by have:=HB3.out;omega) (Nat.le_refl _) (by have:=HB3.out;have:=HN.out;omega) hu).mono fun e w' ⟨e1,h1⟩=>by
        have m2:=vR hsn.1;have mp:=mkP_sw hsn.1 hsn.2.1;have hx:Fq E3 yv yu=true:=by unfold Fq;rw[m2,mp,hsn.2.2.2.2];rfl
        have hc0:Om E3 yv yu=0:=by unfold Om;rw[if_pos m2,mp,if_pos hsn.2.2.2.2]
        rw[hc0]at e1;rw[mp]at h1;exact⟨e1,h1.2 hx⟩
       clear hsn hcl hni hmm HD3 HI3 HB3;generalize Bg E3 yu yv=E4 at*;unfold ptr at*
       go_wp2_with fail
       have HTd:Hid (aJ w.heap.size w d0 C E3 k3 (cI q C::lz 35 k6 (.slice (some ⟨r,0,none⟩) LL.length c) LL::[]) wr.drew):=aJ.dr HT3.out;have HSd:=KX.out _ _ _ HTd.out
       go_region_held3 (fun w'=>w'.cell? ⟨r,j3*2,none⟩=some (.int .i64 yu)∧w'.cell? ⟨r,j3*2+1,none⟩=some (.int .i64 yv)) (first|assumption) ((go_at_call 15;refine Calls.mono (KC.out _ HTd.out) ?_;rintro e w' ⟨rfl,h9⟩;have HSf:=KX.out _ _ _ h9;have HTf:Hid _:=h9;clear h9))
       go_wp2
       go_roundg (LL.length- (j3+1))
       case measure=>omega
       case rel=>exact⟨j3+1,k3+2,E4,by go_num,by omega,Nat.le_refl _,OU.out,HD4.out,HI4.out,HTf.out⟩
      ·have hltJ:¬(j3:Int)< (LL.length:Int):=by omega
       have e0:LL.drop j3=[]:=List.drop_eq_nil_of_le (by omega);have hE0:E3=[]:=HD3.out.none fun p=>by rw[HI3.out p,e0]
       subst hE0;have KS:=JW (fr:=⟨#[]⟩) (tt:=⟨#[]⟩) TT.out HRM.out C0.out (by simp) HT3.out;rw[sp_all0]at KS;have KS2:Hid _:=KS;clear KS HI3 HD3 HB3 HT3 e0;unfold ptr at*
       go_wp2_with fail
       refine Calls.mono KS2.out ?_;rintro e w8 ⟨a8,c8,rfl,h8⟩;have H8:Hid (Below w.heap.size w w8):=h8.sep.Fx;have KR2:Hid _:=trs_root0 C0.out h8;clear KS2 h8;unfold ptr at*
       go_wp2_with fail
       refine Calls.mono KR2.out ?_;rintro e w9 ⟨rfl,rfl⟩;clear KR2;go_wp2;go_ret;exact⟨rfl,H8.out⟩
end Go.Proofs.YtdcpfbidcpfboaaGreatDoor.P
end
