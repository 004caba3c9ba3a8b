/- Walks of the package cowtree and of what it stands on: lemmas, made short. -/
import Derived.Test.YtcenfooehjcddaaGreatDoorR17
import Derived.BigQuiet
set_option maxHeartbeats 16000000
set_option maxRecDepth 100000
set_option linter.unusedVariables false
set_option linter.unusedSimpArgs false
namespace Go.Proofs.YtcenfooehjcddaaGreatDoor
open Go.Shelf Go.RowKit Go.Lib Go.Sort
namespace P
open N (En)
section
variable {B:Nat}{w0 w w':World}{C:Cx}{d:Dk}{E:List En}{k q sp:Nat}{va vt:Value}{A T:List Pr}{l:List aM}{F:Int->Int->Option Bool}
def ft (E:List En)(u:Int):List (Int×Bool):=if dC u=true then jO E u else []
theorem L0 (a:kC E F)(u:Int):kJ E u=(ft E u,lZ u):=by
 unfold ft lZ;by_cases h:dC u=true
 ·rw[if_pos h,if_pos h,a.kJ h]
 ·rw[if_neg h,if_neg h,Qf (by simpa using h)]
theorem XD (a:kC E F)(u:Int)(W:List Int):jm E u W=((ft E u).foldl (fun s x=>AU W s x.1 x.2) (0,false),lZ u):=by
 unfold ft lZ;by_cases h:dC u=true
 ·rw[if_pos h,if_pos h,a.pick h]
 ·rw[if_neg h,if_neg h,Qe (by simpa using h)];rfl
theorem aan {q:Nat}{a b c:Int}{ty:TypeId}(h:Sep B w0 w (aF q (.cells #[.int .i64 a,.int .i64 b,.int .i64 c] ty)::l)):Row N.encI 1 w (.slice (some ⟨q,0,none⟩) 3 3) [a,b,c]:=by
 have hb:=h.blk;refine⟨_,3,rfl,Nat.le_refl _,(fun h=>by cases h),fun _=>⟨q,0,rfl,(Array.getElem?_eq_some_iff.1 hb).1,fun t ht=>?_⟩⟩;have ht':t<3:=by simpa using ht
 rcases(by omega:t=0∨t=1∨t=2)with rfl|rfl|rfl<;>simp[World.cell?,hb,flatK,N.encI]
def NrT (w:World)(ao:Option Addr)(s:List (Int×Bool)):Prop:=s≠[]->∃r,ao=some ⟨r,0,none⟩∧∀j,j<s.length->w.cell? ⟨r,j*2,none⟩=some (.int .i64 (s.getD j (0,false)).1)∧w.cell? ⟨r,j*2+1,none⟩=some (.bool (s.getD j (0,false)).2)
theorem L4:∀(s:List (Int×Bool)) (j:Nat),j<s.length->(s.flatMap fR)[j*2]? =some (.int .i64 (s.getD j (0,false)).1)∧(s.flatMap fR)[j*2+1]? =some (.bool (s.getD j (0,false)).2)
 |[],j,h=>by cases h
 |a::s,0,_=>⟨rfl,rfl⟩
 |a::s,j+1,h=>by
  obtain⟨h1,h2⟩:=L4 s j (by simpa using h);have e:(fR a).length=2:=rfl;rw[List.flatMap_cons,show(j+1)*2=j*2+2 by omega,List.getElem?_append_right (by rw[e];omega),List.getElem?_append_right (by rw[e];omega),e];rw[show j*2+2-2=j*2 by omega,show j*2+2+1-2=j*2+1 by omega,h1,h2];exact⟨rfl,rfl⟩
theorem UX {ao:Option Addr}{c:Nat}{s:List (Int×Bool)}(h:Sep B w0 w (iN 65 fR (.slice ao s.length c) s::l)):NrT w ao s:=fun hne=>by
 have hl:(s.flatMap fR).length=s.length*2:=by
  clear h hne
  induction s with
  |nil=>rfl
  |cons a s ih=>rw[List.flatMap_cons,List.length_append,ih,List.length_cons];show 2+_=_;omega
 have hp:0<s.length:=List.length_pos_iff.2 hne;obtain⟨r,c',e,_,hr,hz⟩:=Sep.gf h (by rw[hl];omega);injection e with e1 e2 e3;refine⟨r,e1,fun j hj=>?_⟩;rw[hz (j*2) (by rw[hl];omega),hz (j*2+1) (by rw[hl];omega)];exact L4 s j hj
theorem UY (a:kC E F)(hq:wE F A T)(u v:Int):∃G1 G2:Bool,(if dy u v=0 then(iy E (bR u v).1 (bR u v).2).1 else false)=G1∧(if dy u v=0 then(iy E (bR u v).1 (bR u v).2).2 else false)=G2∧(dy u v=0->decide ((min u v,max u v)∈T)=G1∧decide ((min u v,max u v)∈A)=G2)∧(dy u v≠0->G1=false∧G2=false):=by
 refine⟨_,_,rfl,rfl,fun h=>?_,fun h=>?_⟩
 ·rw[if_pos h,if_pos h,kK h,hq.get a h];exact⟨rfl,rfl⟩
 ·rw[if_neg h,if_neg h];exact⟨rfl,rfl⟩
theorem takeA {P:Program}{md:Region.Mode}{ops:Array Oper}{Q:Exit->Act->World->Prop}{a:Act}{n:Nat}{L:Array Bool}(i:Nat)(t:Option Tmp)(v:Value){o:Oper}(h1:ops[i]? =some o)(h2:(Region.noSelect ops&&(Region.free md ops L i&&(Region.ready md ops L).contains i))=true)(ht:o.dst=t)(hy:Yields P ops o v a)
  (hQ:∀c a w,Q (.panic c) (a.put t v) w->Q (.panic c) a w)(h:wpAny P md ops Q n (L.setIfInBounds i true) (a.put t v) w):wpAny P md ops Q (n+1) L a w:=by
 subst ht;rw[Bool.and_eq_true,Bool.and_eq_true]at h2;exact wpAny_take h1 h2.1 h2.2.1 h2.2.2 hQ hy h
theorem fM {P:Program}{md:Region.Mode}{ops:Array Oper}{Q:Exit->Act->World->Prop}{a:Act}{n:Nat}{L:Array Bool}(i:Nat)(t:Option Tmp){o:Oper}(h1:ops[i]? =some o)(h2:(Region.noSelect ops&&(Region.free md ops L i&&(Region.ready md ops L).contains i))=true)(ht:o.dst=t)(h3:Region.wanted o (yielded ops a.tmps)=false)
 (hQ:∀c a w,Q (.panic c) (a.put t undef) w->Q (.panic c) a w)(h:wpAny P md ops Q n (L.setIfInBounds i true) (a.put t undef) w):wpAny P md ops Q (n+1) L a w:=takeA i t undef h1 h2 ht (.inr ⟨h3,rfl⟩) hQ h
theorem Rj {P:Program}{md:Region.Mode}{ops:Array Oper}{Q:Exit->Act->World->Prop}{a:Act}{n:Nat}{L:Array Bool}(i:Nat)(t:Option Tmp){o:Oper}(h1:ops[i]? =some o)(h2:Region.ready md ops L=[i])(ht:o.dst=t)(h3:Region.wanted o (yielded ops a.tmps)=false)
  (h:wpAny P md ops Q n (L.setIfInBounds i true) (a.put t undef) w):wpAny P md ops Q (n+1) L a w:=by
 subst ht;refine wpAny_ready h2 (by simp) (AllReady.cons h1 (fun K hK=>?_) AllReady.nil);rw[h3,if_neg (by simp)];exact hK _ _ h
theorem Qg (TT:bW B w0)(hr:d.room<=16384)(h0:C.err=0)(hE:E.length<=200)(ha:kC E F)(hs:UR F)(hq:wE F A T)(hA:A.length<=1000)(hT:T.length<=1000)(u v:Int)(hv:Wf v)(h:aI B w0 d C E k (cf q C::iO sp va vt A T l) w):
  Calls Tryz.prog 14 #[ptr q,ptr sp,.int .i64 u,.int .i64 v] w fun e w'=>e=.returned (.bool true)∧aI B w0 d C E k (cf q C::iO sp va vt A T l) w':=by
 obtain⟨G1,G2,g1,g2,hg,hg0⟩:=UY ha hq u v;have KG:Hid (Calls Tryz.prog 25 #[ptr q,.int .i64 u,.int .i64 v] w fun e w'=>e=.returned (.tuple #[.bool G1,.bool G2,.int .i64 (dy u v)])∧aI B w0 d C E k (cf q C::iO sp va vt A T l) w'):=by
  have:=Xu u v TT hr h0 (by omega) h;rw[g1,g2]at this;exact this
 have KN:Hid (∀w1,aI B w0 d C E k (cf q C::iO sp va vt A T l) w1->Calls Tryz.prog 23 #[ptr q,.int .i64 u] w1 fun e w'=>∃ao c,e=.returned (.tuple #[.slice ao (ft E u).length c,.int .i64 (lZ u)])∧aI B w0 d C E k (cf q C::iN 65 fR (.slice ao (ft E u).length c) (ft E u)::iO sp va vt A T l) w'):=fun w1 h1=>(LQ TT hr h0 hE h1).mono fun e w' ⟨v,o,e1,e2,e3,h⟩=>by
  rw[L0 ha u]at e1 e2 e3;simp only at e1 e2 e3;by_cases hx:lZ u=0
  ·obtain⟨rfl,ao,c,rfl⟩:=e2 hx;exact⟨ao,c,e1,aI.swap h⟩
  ·obtain⟨rfl,rfl⟩:=e3 hx;have hn:ft E u=[]:=by
    unfold ft;rw[if_neg fun c=>hx (by unfold lZ;rw[if_pos c])]
   rw[hn];exact⟨none,0,e1,aI.swap h⟩
 have KP:Hid (∀q3 w1 ty L,aI B w0 d C E k (cf q C::aF q3 (.cells #[.int .i64 v,.int .i64 3,.int .i64 v] ty)::L) w1->Calls Tryz.prog 24 #[ptr q,.int .i64 u,.slice (some ⟨q3,0,none⟩) 3 3] w1 fun e w'=>e=.returned (.tuple #[.int .i64 ((ft E u).foldl (fun s x=>AU [v,3,v] s x.1 x.2) (0,false)).1,.bool ((ft E u).foldl (fun s x=>AU [v,3,v] s x.1 x.2) (0,false)).2,.int .i64 (lZ u)])∧aI B w0 d C E k (cf q C::aF q3 (.cells #[.int .i64 v,.int .i64 3,.int .i64 v] ty)::L) w'):=fun q3 w1 ty L h1=>by
  have:=Rf (u:=u) (W:=[v,3,v]) TT hr h0 hE (fun _ s=>aan s) (by simp) (fun x hx=>by
   simp at hx
   rcases hx with rfl|rfl|rfl
   ·exact hv
   ·unfold Wf;omega
   ·exact hv) h1
  rw[XD ha u]at this;simp only at this;by_cases hx:lZ u=0
  ·rw[if_pos hx,if_pos hx]at this;exact this
  ·have hn:ft E u=[]:=by
    unfold ft;rw[if_neg fun c=>hx (by unfold lZ;rw[if_pos c])]
   rw[if_neg hx,if_neg hx]at this;rw[hn];exact this
 have HX:Hid (dy u v=0->dC u=true):=fun h=>(eN.1 h).1;have HM0:dC u=false->ft E u=[]∧lZ u=30:=fun h=>by
  unfold ft lZ;rw[h];exact⟨rfl,rfl⟩
 have HM1:dC u=true->tu A u=(ft E u).map (·.1)∧lZ u=0∧∀x b,(x,b)∈ft E u->decide ((min u x,max u x)∈T)=b:=fun h=>by
  unfold ft lZ;rw[if_pos h,if_pos h];exact⟨hq.near ha hs h,rfl,fun x b hx=>hq.mark ha hs h hx⟩
 have HML:(ft E u).length<=200:=by
  unfold ft;by_cases h:dC u=true
  ·rw[if_pos h];unfold jO;rw[List.length_map];exact Nat.le_trans (List.length_filter_le _ _) hE
  ·rw[if_neg h];exact Nat.zero_le _
 generalize ft E u=M at*;generalize lZ u=xe at*;obtain⟨PK,YF⟩:∃PK,M.foldl (fun s x=>AU [v,3,v] s x.1 x.2) ((0:Int),false)=PK:=⟨_,rfl⟩;rw[YF]at KP;clear h g1 g2;obtain⟨X,hX⟩:∃X,dy u v=X:=⟨_,rfl⟩;have KW:Hid (∀w,Calls Tryz.prog 8 #[.int .i64 u,.int .i64 v] w fun e w'=>e=.returned (.int .i64 X)∧w=w'):=fun w=>by rw[<-hX];exact sW u v w
 rw[hX]at hg hg0 HX KG;unfold ptr at*;go_enter Tryz.func14,Tryz.ntmps14
 go_wp2_with fail
 refine Calls.mono KG.out ?_;rintro e w1 ⟨rfl,h1⟩;have K2:Hid _:=KN.out w1 h1;clear KG KN h1
 go_wp2_with fail
 refine Calls.mono K2.out ?_;rintro e w2 ⟨ao,cN,rfl,h2⟩;have H2:Hid (aI B w0 d C E k (cf q C::iN 65 fR (.slice ao M.length cN) M::iO sp va vt A T l) w2):=h2;clear K2 h2
 go_wp2_with fail
 refine Calls.mono (KW.out w2) ?_;rintro e w3 ⟨rfl,rfl⟩;clear KW;have KQ:Hid (∀w,Calls Tryz.prog 7 #[.int .i64 u,.int .i64 v] w fun e w'=>e=.returned (.agg #[.int .i64 (min u v),.int .i64 (max u v)])∧Below w.heap.size w w'):=fun w=>oO u v w;have Hd:Hid (∀w,aI B w0 d C E k (cf q C::iN 65 fR (.slice ao M.length cN) M::iO sp va vt A T l) w->(w.cell? ⟨sp,0,none⟩=some va∧w.cell? ⟨sp,1,none⟩=some vt∧sp<w.heap.size)∧Row ax 2 w va A∧Row ax 2 w vt T):=fun w h=>by
  have h1:=Sep.pk [_,_] h.sep;obtain⟨c0,c1,_⟩:=Sep.two h1;exact⟨⟨c0,c1,(Array.getElem?_eq_some_iff.1 (Sep.blk h1)).1⟩,Sep.Ri (Sep.pk [_,_,_] h.sep),Sep.Ri (Sep.pk [_,_,_,_] h.sep)⟩
 by_cases hm:X=0
 case' pos=>
  obtain⟨rfl,rfl⟩:=hg hm;subst hm
  go_wp2_with fail
  refine Calls.mono (KQ.out _) ?_;rintro e w4 ⟨rfl,b4⟩;have H4:Hid (aI B w0 d C E k (cf q C::iN 65 fR (.slice ao M.length cN) M::iO sp va vt A T l) w4):=H2.out.below b4;clear H2 b4;have KHA:Hid (∀w,Row ax 2 w va A->Calls Tryz.prog 11 #[va,.agg #[.int .i64 (min u v),.int .i64 (max u v)]] w fun e w'=>e=.returned (.bool (decide ((min u v,max u v)∈A)))∧Below w.heap.size w w'):=fun w h=>(ki va A (min u v,max u v) w h (by omega)).mono fun _ _ ⟨e,g⟩=>⟨e,GR.below g⟩;have KHT:Hid (∀w,Row ax 2 w vt T->Calls Tryz.prog 11 #[vt,.agg #[.int .i64 (min u v),.int .i64 (max u v)]] w fun e w'=>e=.returned (.bool (decide ((min u v,max u v)∈T)))∧Below w.heap.size w w'):=fun w h=>(ki vt T (min u v,max u v) w h (by omega)).mono fun _ _ ⟨e,g⟩=>⟨e,GR.below g⟩;generalize decide ((min u v,max u v)∈A)=bA at*;generalize decide ((min u v,max u v)∈T)=bT at*;generalize min u v=x at*;generalize max u v=y at*
  go_wp2_with fail
  have HB0:∀W,Below (w4.alloc (.cells #[.int .i64 x,.int .i64 y] 35)).heap.size (w4.alloc (.cells #[.int .i64 x,.int .i64 y] 35)) W->aI B w0 d C E k (cf q C::iN 65 fR (.slice ao M.length cN) M::iO sp va vt A T l) W∧W.cell? ⟨w4.heap.size,0,none⟩=some (.int .i64 x)∧W.cell? ⟨w4.heap.size,1,none⟩=some (.int .i64 y):=fun W hW=>by
   have h1:=(aI.blk H4.out (.cells #[.int .i64 x,.int .i64 y] 35)).below hW;obtain⟨p0,p1,_⟩:=Sep.two h1.sep;exact⟨aI.yF h1,p0,p1⟩
  generalize w4.alloc (.cells #[.int .i64 x,.int .i64 y] 35)=w5 at*;generalize w4.heap.size=pp at*;clear H4;have HB:Hid _:=HB0;have BD:Hid (Below w5.heap.size w5 w5.drew):=(Below.refl _ _).drew;have YG:Hid (∀W,Below w5.heap.size w5 W->W.cell? ⟨sp,0,none⟩=some va∧W.cell? ⟨sp,1,none⟩=some vt∧W.cell? ⟨pp,0,none⟩=some (.int .i64 x)∧W.cell? ⟨pp,1,none⟩=some (.int .i64 y)):=fun W hW=>by
   obtain⟨t0,p0,p1⟩:=HB.out _ hW;obtain⟨⟨c0,c1,_⟩,_⟩:=Hd.out _ t0;exact⟨c0,c1,p0,p1⟩
  have HRA:Hid (∀W,Below w5.heap.size w5 W->Row ax 2 W va A):=fun W hW=>(Hd.out _ (HB.out _ hW).1).2.1;have HRT:Hid (∀W,Below w5.heap.size w5 W->Row ax 2 W vt T):=fun W hW=>(Hd.out _ (HB.out _ hW).1).2.2;have hS:=YG.out _ BD.out;clear HB0
  go_region_held3 (fun X=>X.cell? ⟨sp,0,none⟩=some va∧X.cell? ⟨sp,1,none⟩=some vt∧X.cell? ⟨pp,0,none⟩=some (.int .i64 x)∧X.cell? ⟨pp,1,none⟩=some (.int .i64 y)) (first|assumption|exact hS) (first| (go_at_call 11;refine Calls.mono (KHA.out _ (HRA.out _ BD.out)) ?_;rintro e w6 ⟨rfl,b6⟩;have BE:Hid (Below w5.heap.size w5 w6):=BD.out.trans (b6.mono BD.out.size);have hS:=YG.out _ BE.out;clear b6 KHA HRA BD)| (go_at_call 11;refine Calls.mono (KHT.out _ (HRT.out _ BE.out)) ?_;rintro e w9 ⟨rfl,b7⟩;have BF:Hid (Below w5.heap.size w5 w9):=BE.out.trans (b7.mono BE.out.size);have hS:=YG.out _ BF.out;clear b7))
  all_goals
   have H8:Hid _:=(HB.out _ BF.out).1;clear KHT HRT BE BF YG HB Hd hS
 case' neg=>
  obtain⟨rfl,rfl⟩:=hg0 hm;have hx1:(X != 0)=true:=by simpa using hm
  have hx2:(X==0)=false:=by simpa using hm
  have hx3:(X != X)=false:=by simp
  clear hg
  go_wp2_with fail
  refine Calls.mono (KQ.out _) ?_;rintro e w4 ⟨rfl,b4⟩;have H4:Hid (aI B w0 d C E k (cf q C::iN 65 fR (.slice ao M.length cN) M::iO sp va vt A T l) w4):=H2.out.below b4;clear H2 b4;generalize min u v=x at*;generalize max u v=y at*
  go_wp2_with fail
  have H8:Hid _:=H4.out.below (((Below.refl _ w4).alloc (Nat.le_refl _) (.cells #[.int .i64 x,.int .i64 y] 35)).drew);generalize w4.alloc (.cells #[.int .i64 x,.int .i64 y] 35)=w5 at*;generalize w4.heap.size=pp at*;refine wp_region_any (by kernel_rfl) ?_;change wpAny _ _ _ _ _ _ _ (World.drew _);generalize w5.drew=w9 at*;refine takeA 0 (some 57) (.int .i64 X) rfl (by kernel_rfl) rfl (Or.inl ⟨by rfl,by intro w;go_simp⟩) (fun _ _ _ h=>h) ?_;refine takeA 1 (some 58) (.bool false) rfl (by kernel_rfl) rfl (Or.inl ⟨by rfl,by intro w;go_simp⟩) (fun _ _ _ h=>h) ?_;refine takeA 2 (some 59) (.bool false) rfl (by kernel_rfl) rfl (Or.inl ⟨by rfl,by intro w;go_simp⟩) (fun _ _ _ h=>h) ?_;refine fM 3 (some 60) rfl (by kernel_rfl) rfl (by kernel_rfl) (fun _ _ _ h=>h) ?_;refine fM 4 (some 61) rfl (by kernel_rfl) rfl (by kernel_rfl) (fun _ _ _ h=>h) ?_;refine fM 5 (some 62) rfl (by kernel_rfl) rfl (by kernel_rfl) (fun _ _ _ h=>h) ?_;refine fM 6 (some 63) rfl (by kernel_rfl) rfl (by kernel_rfl) (fun _ _ _ h=>h) ?_;refine fM 7 (some 64) rfl (by kernel_rfl) rfl (by kernel_rfl) (fun _ _ _ h=>h) ?_;refine fM 8 (some 65) rfl (by kernel_rfl) rfl (by kernel_rfl) (fun _ _ _ h=>h) ?_;refine fM 9 (some 66) rfl (by kernel_rfl) rfl (by kernel_rfl) (fun _ _ _ h=>h) ?_;refine fM 10 (some 67) rfl (by kernel_rfl) rfl (by kernel_rfl) (fun _ _ _ h=>h) ?_;refine fM 11 (some 68) rfl (by kernel_rfl) rfl (by kernel_rfl) (fun _ _ _ h=>h) ?_;refine Rj 12 (some 69) rfl (by kernel_rfl) rfl (by kernel_rfl) ?_;refine fM 13 (some 70) rfl (by kernel_rfl) rfl (by kernel_rfl) (fun _ _ _ h=>h) ?_;refine fM 14 (some 71) rfl (by kernel_rfl) rfl (by kernel_rfl) (fun _ _ _ h=>h) ?_;refine fM 15 (some 72) rfl (by kernel_rfl) rfl (by kernel_rfl) (fun _ _ _ h=>h) ?_;refine fM 16 (some 73) rfl (by kernel_rfl) rfl (by kernel_rfl) (fun _ _ _ h=>h) ?_;refine fM 17 (some 74) rfl (by kernel_rfl) rfl (by kernel_rfl) (fun _ _ _ h=>h) ?_;refine fM 18 (some 75) rfl (by kernel_rfl) rfl (by kernel_rfl) (fun _ _ _ h=>h) ?_;refine fM 19 (some 76) rfl (by kernel_rfl) rfl (by kernel_rfl) (fun _ _ _ h=>h) ?_;refine fM 20 (some 77) rfl (by kernel_rfl) rfl (by kernel_rfl) (fun _ _ _ h=>h) ?_;refine fM 21 (some 78) rfl (by kernel_rfl) rfl (by kernel_rfl) (fun _ _ _ h=>h) ?_;refine Rj 22 (some 79) rfl (by kernel_rfl) rfl (by kernel_rfl) ?_;refine fM 23 (some 80) rfl (by kernel_rfl) rfl (by kernel_rfl) (fun _ _ _ h=>h) ?_;refine fM 24 (some 81) rfl (by kernel_rfl) rfl (by kernel_rfl) (fun _ _ _ h=>h) ?_;refine takeA 25 (some 82) (.bool false) rfl (by kernel_rfl) rfl (Or.inl ⟨by rfl,by intro w;go_simp⟩) (fun _ _ _ h=>h) ?_;refine wpAny_done (by kernel_rfl) ?_ _;simp only[Act.put,List.setIfInBounds_toArray,List.set_cons_zero,List.set_cons_succ];clear Hd
 all_goals
  clear KQ hg0 hX HX
  go_wp2_with fail
  refine Calls.mono (KP.out _ _ _ _ (aI.swap (aI.blk H8.out _))) ?_;rintro e UZ ⟨rfl,h10⟩;have XE:Hid (aI B w0 d C E k (cf q C::iN 65 fR (.slice ao M.length cN) M::iO sp va vt A T l) UZ):=aI.yF (aI.swap h10);clear KP H8 h10
  go_wp2_with fail
  refine Calls.mono (kh u UZ) ?_;rintro e yG ⟨rfl,rfl⟩;rcases hvu:dC u with _|_
  ·obtain⟨rfl,rfl⟩:=HM0 hvu;subst YF;go_wp2;go_ret;exact⟨rfl,aI.yF (aI.swap XE.out)⟩
  ·obtain⟨hnS,rfl,hmk⟩:=HM1 hvu;have HMK:Hid (∀x b,(x,b)∈M->decide ((min u x,max u x)∈T)=b):=hmk;have HL:Hid (M.length<=200):=HML;have h1:=Sep.pk [_,_] XE.out.sep;obtain⟨c0,c1,_⟩:=Sep.two h1;have KS:Hid _:=VZ u c0 (Array.getElem?_eq_some_iff.1 (Sep.blk h1)).1 (Sep.Ri (Sep.pk [_,_,_] XE.out.sep)) (by omega);rw[hnS]at KS;clear hnS hmk HML h1 c0 c1 HM0 HM1
   go_wp2_with fail
   refine Calls.mono KS.out ?_;rintro e yG ⟨vm,rfl,om,b11⟩;have RM:=Own.row (bI (by decide) om);obtain⟨am,cm,rfl,_,_,rm⟩:=RM;have RM:Hid _:=rm;have H11:Hid (aI B w0 d C E k (cf q C::iN 65 fR (.slice ao M.length cN) M::iO sp va vt A T l) yG):=XE.out.below b11;clear KS XE om b11 rm;rw[List.length_map];go_wp2;have XF:Hid (∀W,Below yG.heap.size yG W->(W.cell? ⟨sp,1,none⟩=some vt∧Row ax 2 W vt T)∧NrT W ao M):=fun W hW=>by
    have t1:=H11.out.below hW;have h1:=Sep.pk [_,_] t1.sep;exact⟨⟨(Sep.two h1).2.1,Sep.Ri (Sep.pk [_,_,_,_] t1.sep)⟩,UX (Sep.pk [_] t1.sep)⟩
   go_loopg [20,21,22] M.length (fun kx s20 s21 s22 wr=>∃(i:Nat) (fi:Int) (fo:Bool),s20=.int .i64 fi∧s21=.bool fo∧s22=.int .i64 i∧i<=M.length∧M.length-i<=kx∧Hid ((M.take i).foldl (fun s x=>AU [v,3,v] s x.1 x.2) ((0:Int),false)=(fi,fo))∧Hid (Below yG.heap.size yG wr))
   case atStart=>exact⟨0,0,false,rfl,rfl,rfl,Nat.zero_le _,Nat.le_refl _,rfl,Below.refl _ _⟩
   case round=>
    obtain⟨i,fi,fo,rfl,rfl,rfl,hi,hix,HF,HB⟩:=hrel;by_cases hlt:i<M.length
    ·have uh:(i:Int)< (M.length:Int):=by omega
     have QI:IntKind.i64.wrap ((i:Int)+1)=((i+1:Nat):Int):=by rw[bM (by omega) (by have:=HL.out;omega)];rfl
     have hne:M≠[]:=by intro e;rw[e]at hlt;simp at hlt
     obtain⟨bm,om,rfl,hbm,m0⟩:=N.nh RM.out i (by simpa using hlt) HB.out;obtain⟨rn,rfl,hn⟩:=(XF.out _ HB.out).2 hne;have HCN:Hid (∀W,Below yG.heap.size yG W->W.cell? ⟨rn,i*2,none⟩=some (.int .i64 (M.getD i (0,false)).1)∧W.cell? ⟨rn,i*2+1,none⟩=some (.bool (M.getD i (0,false)).2)):=fun W hW=>by
      obtain⟨r,e,h⟩:=(XF.out _ hW).2 hne;cases e;exact h i hlt
     have hmem:M.getD i (0,false)∈M:=by
      rw[List.getD_eq_getElem?_getD,List.getElem?_eq_getElem hlt];exact List.getElem_mem hlt
     have WJ:(M.map (·.1))[i]! =(M.getD i (0,false)).1:=by
      rw[getElem!_pos _ i (by simpa using hlt),List.getElem_map,List.getD_eq_getElem?_getD,List.getElem?_eq_getElem hlt];rfl
     have HP:Hid ((M.take (i+1)).foldl (fun s x=>AU [v,3,v] s x.1 x.2) ((0:Int),false)=AU [v,3,v] (fi,fo) (M.getD i (0,false)).1 (M.getD i (0,false)).2):=by
      show _=_;rw[List.take_add_one,List.getElem?_eq_getElem hlt,Option.toList_some,List.foldl_append,HF.out,List.getD_eq_getElem?_getD,List.getElem?_eq_getElem hlt];rfl
     rw[WJ]at m0;clear WJ hn hne;generalize M.getD i (0,false)=yy at*;obtain⟨x,b⟩:=yy;simp only at m0 HCN HP;have hb:=HMK.out x b hmem;have KX:Hid (∀W,Calls Tryz.prog 7 #[.int .i64 u,.int .i64 x] W fun e w'=>e=.returned (.agg #[.int .i64 (min u x),.int .i64 (max u x)])∧Below W.heap.size W w'):=fun W=>oO u x W;have KH:Hid (∀W,Row ax 2 W vt T->Calls Tryz.prog 11 #[vt,.agg #[.int .i64 (min u x),.int .i64 (max u x)]] W fun e w'=>e=.returned (.bool b)∧Below W.heap.size W w'):=fun W h=>by rw[<-hb];exact(ki vt T (min u x,max u x) W h (by omega)).mono fun _ _ ⟨e,g⟩=>⟨e,GR.below g⟩
     have HCM:Hid (∀W,Below yG.heap.size yG W->W.cell? ⟨sp,1,none⟩=some vt∧W.cell? ⟨bm,om+i,none⟩=some (.int .i64 x)):=fun W hW=>⟨(XF.out _ hW).1.1,by rw[hW.cell (p:=⟨bm,om+i,none⟩) hbm,<-HB.out.cell (p:=⟨bm,om+i,none⟩) hbm];exact m0⟩;have BD:Hid (Below yG.heap.size yG wr.drew):=HB.out.drew;have hS:=HCM.out _ BD.out;clear hmem hb HMK m0;generalize min u x=xa at*;generalize max u x=xb at*
     go_wp2_with fail
     go_region_held3 (fun X=>X.cell? ⟨sp,1,none⟩=some vt∧X.cell? ⟨bm,om+i,none⟩=some (.int .i64 x)) (first|assumption|exact hS) (first| (go_at_call 7;refine Calls.mono (KX.out _) ?_;rintro e w6 ⟨rfl,b6⟩;have BE:Hid (Below yG.heap.size yG w6):=BD.out.trans (b6.mono BD.out.size);have hS:=HCM.out _ BE.out;clear b6)| (go_at_call 11;refine Calls.mono (KH.out _ (XF.out _ BE.out).1.2) ?_;rintro e w7 ⟨rfl,b7⟩;have BF:Hid (Below yG.heap.size yG w7):=BE.out.trans (b7.mono BE.out.size);have hS:=HCM.out _ BF.out;clear b7))
     all_goals
      obtain⟨n0,n1⟩:=HCN.out _ BF.out;have m0:=hS.2;clear HCN HCM BD BE KX KH hS XF;have hbb:(b != b)=false:=by simp
      have hxx:(x != x)=false:=by simp
      have DG:Hid (Below yG.heap.size yG w7.drew):=BF.out.drew;have hS:w7.drew.cell? ⟨rn,i*2,none⟩=some (.int .i64 x)∧w7.drew.cell? ⟨rn,i*2+1,none⟩=some (.bool b)∧w7.drew.cell? ⟨bm,om+i,none⟩=some (.int .i64 x):=⟨n0,n1,m0⟩
      go_wp2_with fail
      go_region_held3 (fun X=>X.cell? ⟨rn,i*2,none⟩=some (.int .i64 x)∧X.cell? ⟨rn,i*2+1,none⟩=some (.bool b)∧X.cell? ⟨bm,om+i,none⟩=some (.int .i64 x)) (first|assumption|exact hS) (fail)
      have hst:(fo=false∧b=false∧x≠v∧x≠3)∧AU [v,3,v] (fi,fo) x b=(x,true)∨(fo=true∨b=true∨x=v∨x=3)∧AU [v,3,v] (fi,fo) x b=(fi,fo):=by
       unfold AU;cases fo<;>cases b<;>by_cases h1:x=v<;>by_cases h2:x=3<;>simp[h1,h2]
      rcases hst with⟨⟨rfl,rfl,h1,h2⟩,hst⟩| ⟨hor,hst⟩
      ·have h3:(x != v)=true:=by simpa using h1
       have h4:(x != 3)=true:=by simpa using h2
       rw[hst]at HP;clear hst h1 h2;go_wp2
       go_roundg (M.length- (i+1))
       case measure=>omega
       case rel=>exact⟨i+1,x,true,rfl,rfl,by go_num,by omega,Nat.le_refl _,HP.out,DG.out⟩
      ·rw[hst]at HP;clear hst;have HO:Hid (fo=true∨b=true∨x=v∨x=3):=hor;clear hor;cases fo with
       |true=>
        go_wp2
        go_roundg (M.length- (i+1))
        case measure=>omega
        case rel=>exact⟨i+1,fi,true,rfl,rfl,by go_num,by omega,Nat.le_refl _,HP.out,DG.out⟩
       |false=>
        cases b with
        |true=>
         go_wp2
         go_roundg (M.length- (i+1))
         case measure=>omega
         case rel=>exact⟨i+1,fi,false,rfl,rfl,by go_num,by omega,Nat.le_refl _,HP.out,DG.out⟩
        |false=>
         by_cases h1:x=v
         ·have h3:(x != v)=false:=by simpa using h1
          clear h1;go_wp2
          go_roundg (M.length- (i+1))
          case measure=>omega
          case rel=>exact⟨i+1,fi,false,rfl,rfl,by go_num,by omega,Nat.le_refl _,HP.out,DG.out⟩
         ·have h3:(x != v)=true:=by simpa using h1
          have h5:x=3:=by
           rcases HO.out with h|h|h|h
           ·cases h
           ·cases h
           ·exact absurd h h1
           ·exact h
          have h4:(x != 3)=false:=by simpa using h5
          clear h1 h5;go_wp2
          go_roundg (M.length- (i+1))
          case measure=>omega
          case rel=>exact⟨i+1,fi,false,rfl,rfl,by go_num,by omega,Nat.le_refl _,HP.out,DG.out⟩
    ·have uh:¬(i:Int)< (M.length:Int):=by omega
     obtain rfl:i=M.length:=by omega
     have hF:=HF.out;rw[List.take_length]at hF;rw[hF]at YF;subst YF;go_wp2;go_ret;exact⟨rfl,(aI.yF (aI.swap H11.out)).below HB.out⟩
end
end P
end Go.Proofs.YtcenfooehjcddaaGreatDoor
