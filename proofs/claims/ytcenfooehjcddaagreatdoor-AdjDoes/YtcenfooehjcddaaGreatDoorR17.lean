/- Walks of the package cowtree and of what it stands on: lemmas, made short. -/
import Derived.Test.YtcenfooehjcddaaGreatDoorR4
import Derived.Test.YtcenfooehjcddaaGreatDoorR16
set_option maxHeartbeats 16000000
set_option maxRecDepth 100000
set_option linter.unusedVariables false
set_option linter.unusedSimpArgs false
namespace Go.Proofs.YtcenfooehjcddaaGreatDoor
open Go.Shelf Go.RowKit Go.Lib Go.Sort
namespace P
open N (En)
section
variable {B:Nat}{w0 w:World}{l:List aM}{sp:Nat}{va vt:Value}{A T:List Pr}
theorem Sep.two {q:Nat}{x0 x1:Value}{ty:TypeId}(h:Sep B w0 w (aF q (.cells #[x0,x1] ty)::l)):w.cell? ⟨q,0,none⟩=some x0∧w.cell? ⟨q,1,none⟩=some x1∧w.frozen? ⟨q,0,none⟩=false∧w.frozen? ⟨q,1,none⟩=false:=by
 have hb:=h.blk;refine⟨?_,?_,?_,?_⟩<;>simp[World.cell?,World.frozen?,hb]
abbrev iO (sp:Nat)(va vt:Value)(A T:List Pr)(l:List aM):List aM:=aF sp (.cells #[va,vt] 31)::Xz va A::Xz vt T::l
theorem Sep.XB {w1:World}{pp:Nat}{o:Obj}{v1:Value}{A1:List Pr}(h:Sep B w0 w (aF pp o::iO sp va vt A T l))(hb:Below w.heap.size w w1)(ho:Own ax 2 w.heap.size w1 v1 A1):Sep B w0 (w1.setCell ⟨sp,0,none⟩ v1) (aF pp o::iO sp v1 vt A1 T l):=
 Sep.pk [_,_] (Sep.drop (Sep.pk [_,_,_] (Sep.ml (x:=v1) (Sep.pk [_,_] (Sep.yq h hb ho)) 0)))
theorem Sep.UW {w1:World}{pp:Nat}{o:Obj}{v1:Value}{T1:List Pr}(h:Sep B w0 w (aF pp o::iO sp va vt A T l))(hb:Below w.heap.size w w1)(ho:Own ax 2 w.heap.size w1 v1 T1):Sep B w0 (w1.setCell ⟨sp,1,none⟩ v1) (aF pp o::iO sp va v1 A T1 l):=
 Sep.perm (Sep.drop (Sep.pk [_,_,_,_] (Sep.ml (x:=v1) (Sep.pk [_,_] (Sep.yq h hb ho)) 1))) (List.Perm.trans (List.perm_append_comm_assoc [_,_] [_] _) (List.Perm.cons _ (List.Perm.cons _ (List.Perm.swap _ _ _))))
theorem Sep.roomy {pp:Nat}{o:Obj}(h:Sep B w0 w (aF pp o::iO sp va vt A T l)):Row ax 2 w va A∧Row ax 2 w vt T:=⟨Sep.Ri (Sep.pk [_,_] h),Sep.Ri (Sep.pk [_,_,_] h)⟩
theorem aam (p:Pr)(b:Bool)(hA:A.length<=10000)(hT:T.length<=10000)(h:Sep B w0 w (iO sp va vt A T l)):Calls Tryz.prog 10 #[ptr sp,.agg #[.int .i64 p.1,.int .i64 p.2],.bool b] w fun e w'=>∃ys,(e=.returned (.tuple #[])∧∃va' vt',ys=iO sp va' vt' (lJ A p) (if b=true then lJ (fQ T p) p else fQ T p) [])∧Sep B w0 w' (ys++l):=by
 have KA:Hid (∀w1 v,Row ax 2 w1 v A->Calls Tryz.prog 36 #[v,.agg #[.int .i64 p.1,.int .i64 p.2]] w1 fun e w'=>∃v',e=.returned v'∧Own ax 2 w1.heap.size w' v' (lJ A p)∧Below w1.heap.size w1 w'):=fun w1 v h1=>DT v _ p w1 h1 (by omega);have KO:Hid (∀w1 v,Row ax 2 w1 v T->Calls Tryz.prog 37 #[v,.agg #[.int .i64 p.1,.int .i64 p.2]] w1 fun e w'=>∃v',e=.returned v'∧Own ax 2 w1.heap.size w' v' (fQ T p)∧Below w1.heap.size w1 w'):=fun w1 v h1=>xt v _ p w1 h1 (by omega);have KT:Hid (∀w1 v,Row ax 2 w1 v (fQ T p)->Calls Tryz.prog 36 #[v,.agg #[.int .i64 p.1,.int .i64 p.2]] w1 fun e w'=>∃v',e=.returned v'∧Own ax 2 w1.heap.size w' v' (lJ (fQ T p) p)∧Below w1.heap.size w1 w'):=fun w1 v h1=>DT v _ p w1 h1 (by have:=rE T p;omega);have S1:Hid (Sep B w0 (w.alloc (.cells #[.int .i64 p.1,.int .i64 p.2] 35)) (aF w.heap.size (.cells #[.int .i64 p.1,.int .i64 p.2] 35)::iO sp va vt A T l)):=h.aO _;clear h;unfold ptr at*;go_enter Tryz.func10,Tryz.ntmps10
 go_wp2_with fail
 generalize w.alloc (.cells #[.int .i64 p.1,.int .i64 p.2] 35)=w1 at*;generalize w.heap.size=pp at*;have SD1:Hid (Sep B w0 w1.drew (aF pp (.cells #[.int .i64 p.1,.int .i64 p.2] 35)::iO sp va vt A T l)):=Sep.drew S1.out;obtain⟨c0,c1,f0,f1⟩:=Sep.two (Sep.pk [_] SD1.out);obtain⟨p0,p1,p2⟩:=Sep.two SD1.out
 go_region_with (go_at_call 36;refine Calls.mono (KA.out _ _ (Sep.roomy SD1.out).1) ?_;rintro e w5 ⟨v5,rfl,o5,b5⟩;have SE:Hid (Sep B w0 w5 (aF pp (.cells #[.int .i64 p.1,.int .i64 p.2] 35)::iO sp va vt A T l)):=Sep.below SD1.out b5;obtain⟨y0,y1,z0,z1⟩:=Sep.two (Sep.pk [_] SE.out);have SF:Hid _:=Sep.XB SD1.out b5 o5;obtain⟨a5,n5,rfl,r5⟩:=o5)
 all_goals
  have S2:Hid (Sep B w0 (w5.setCell ⟨sp,0,none⟩ (.slice a5 (lJ A p).length n5)) (aF pp (.cells #[.int .i64 p.1,.int .i64 p.2] 35)::iO sp (.slice a5 (lJ A p).length n5) vt (lJ A p) T l)):=SF.out;clear SE SF b5 r5 c0 c1 f0 f1 p0 p1 p2 y0 y1 z0 z1;generalize w5.setCell ⟨sp,0,none⟩ (.slice a5 (lJ A p).length n5)=w2 at*;generalize Value.slice a5 (lJ A p).length n5=v2 at*;clear a5 n5;clear S1 SD1 KA
  go_wp2_with fail
  have SD2:Hid (Sep B w0 w2.drew (aF pp (.cells #[.int .i64 p.1,.int .i64 p.2] 35)::iO sp v2 vt (lJ A p) T l)):=Sep.drew S2.out;obtain⟨c0,c1,f0,f1⟩:=Sep.two (Sep.pk [_] SD2.out);obtain⟨p0,p1,p2⟩:=Sep.two SD2.out
  go_region_with (go_at_call 37;refine Calls.mono (KO.out _ _ (Sep.roomy SD2.out).2) ?_;rintro e w5 ⟨v5,rfl,o5,b5⟩;have SE:Hid (Sep B w0 w5 (aF pp (.cells #[.int .i64 p.1,.int .i64 p.2] 35)::iO sp v2 vt (lJ A p) T l)):=Sep.below SD2.out b5;obtain⟨y0,y1,z0,z1⟩:=Sep.two (Sep.pk [_] SE.out);have SF:Hid _:=Sep.UW SD2.out b5 o5;obtain⟨a5,n5,rfl,r5⟩:=o5)
  all_goals
   have S3:Hid (Sep B w0 (w5.setCell ⟨sp,1,none⟩ (.slice a5 (fQ T p).length n5)) (aF pp (.cells #[.int .i64 p.1,.int .i64 p.2] 35)::iO sp v2 (.slice a5 (fQ T p).length n5) (lJ A p) (fQ T p) l)):=SF.out;clear SE SF b5 r5 c0 c1 f0 f1 p0 p1 p2 y0 y1 z0 z1;generalize w5.setCell ⟨sp,1,none⟩ (.slice a5 (fQ T p).length n5)=w3 at*;generalize Value.slice a5 (fQ T p).length n5=v3 at*;clear a5 n5;clear S2 SD2 KO;cases b
   ·go_wp2
    go_end0
    exact⟨_,⟨rfl,_,_,rfl⟩,Sep.drop S3.out⟩
   ·go_wp2_with fail
    have SD3:Hid (Sep B w0 w3.drew (aF pp (.cells #[.int .i64 p.1,.int .i64 p.2] 35)::iO sp v2 v3 (lJ A p) (fQ T p) l)):=Sep.drew S3.out;obtain⟨c0,c1,f0,f1⟩:=Sep.two (Sep.pk [_] SD3.out);obtain⟨p0,p1,p2⟩:=Sep.two SD3.out
    go_region_with (go_at_call 36;refine Calls.mono (KT.out _ _ (Sep.roomy SD3.out).2) ?_;rintro e w5 ⟨v5,rfl,o5,b5⟩;have SE:Hid (Sep B w0 w5 (aF pp (.cells #[.int .i64 p.1,.int .i64 p.2] 35)::iO sp v2 v3 (lJ A p) (fQ T p) l)):=Sep.below SD3.out b5;obtain⟨y0,y1,z0,z1⟩:=Sep.two (Sep.pk [_] SE.out);have SF:Hid _:=Sep.UW SD3.out b5 o5;obtain⟨a5,n5,rfl,r5⟩:=o5)
    all_goals
     have S4:Hid (Sep B w0 (w5.setCell ⟨sp,1,none⟩ (.slice a5 (lJ (fQ T p) p).length n5)) (aF pp (.cells #[.int .i64 p.1,.int .i64 p.2] 35)::iO sp v2 (.slice a5 (lJ (fQ T p) p).length n5) (lJ A p) (lJ (fQ T p) p) l)):=SF.out;clear SE SF b5 r5 c0 c1 f0 f1 p0 p1 p2 y0 y1 z0 z1;generalize w5.setCell ⟨sp,1,none⟩ (.slice a5 (lJ (fQ T p) p).length n5)=w4 at*;generalize Value.slice a5 (lJ (fQ T p) p).length n5=v4 at*;clear a5 n5;go_wp2
     go_end0
     exact⟨_,⟨rfl,_,_,rfl⟩,Sep.drop S4.out⟩
theorem XC (p:Pr)(hA:A.length<=10000)(hT:T.length<=10000)(h:Sep B w0 w (iO sp va vt A T l)):Calls Tryz.prog 13 #[ptr sp,.agg #[.int .i64 p.1,.int .i64 p.2]] w fun e w'=>∃ys,(e=.returned (.tuple #[])∧∃va' vt',ys=iO sp va' vt' (fQ A p) (fQ T p) [])∧Sep B w0 w' (ys++l):=by
 have KA:Hid (∀w1 v,Row ax 2 w1 v A->Calls Tryz.prog 37 #[v,.agg #[.int .i64 p.1,.int .i64 p.2]] w1 fun e w'=>∃v',e=.returned v'∧Own ax 2 w1.heap.size w' v' (fQ A p)∧Below w1.heap.size w1 w'):=fun w1 v h1=>xt v _ p w1 h1 (by omega);have KO:Hid (∀w1 v,Row ax 2 w1 v T->Calls Tryz.prog 37 #[v,.agg #[.int .i64 p.1,.int .i64 p.2]] w1 fun e w'=>∃v',e=.returned v'∧Own ax 2 w1.heap.size w' v' (fQ T p)∧Below w1.heap.size w1 w'):=fun w1 v h1=>xt v _ p w1 h1 (by omega);have S1:Hid (Sep B w0 (w.alloc (.cells #[.int .i64 p.1,.int .i64 p.2] 35)) (aF w.heap.size (.cells #[.int .i64 p.1,.int .i64 p.2] 35)::iO sp va vt A T l)):=h.aO _;clear h;unfold ptr at*;go_enter Tryz.func13,Tryz.ntmps13
 go_wp2_with fail
 generalize w.alloc (.cells #[.int .i64 p.1,.int .i64 p.2] 35)=w1 at*;generalize w.heap.size=pp at*;have SD1:Hid (Sep B w0 w1.drew (aF pp (.cells #[.int .i64 p.1,.int .i64 p.2] 35)::iO sp va vt A T l)):=Sep.drew S1.out;obtain⟨c0,c1,f0,f1⟩:=Sep.two (Sep.pk [_] SD1.out);obtain⟨p0,p1,p2⟩:=Sep.two SD1.out
 go_region_with (go_at_call 37;refine Calls.mono (KA.out _ _ (Sep.roomy SD1.out).1) ?_;rintro e w5 ⟨v5,rfl,o5,b5⟩;have SE:Hid (Sep B w0 w5 (aF pp (.cells #[.int .i64 p.1,.int .i64 p.2] 35)::iO sp va vt A T l)):=Sep.below SD1.out b5;obtain⟨y0,y1,z0,z1⟩:=Sep.two (Sep.pk [_] SE.out);have SF:Hid _:=Sep.XB SD1.out b5 o5;obtain⟨a5,n5,rfl,r5⟩:=o5)
 all_goals
  have S2:Hid (Sep B w0 (w5.setCell ⟨sp,0,none⟩ (.slice a5 (fQ A p).length n5)) (aF pp (.cells #[.int .i64 p.1,.int .i64 p.2] 35)::iO sp (.slice a5 (fQ A p).length n5) vt (fQ A p) T l)):=SF.out;clear SE SF b5 r5 c0 c1 f0 f1 p0 p1 p2 y0 y1 z0 z1;generalize w5.setCell ⟨sp,0,none⟩ (.slice a5 (fQ A p).length n5)=w2 at*;generalize Value.slice a5 (fQ A p).length n5=v2 at*;clear a5 n5;clear S1 SD1 KA
  go_wp2_with fail
  have SD2:Hid (Sep B w0 w2.drew (aF pp (.cells #[.int .i64 p.1,.int .i64 p.2] 35)::iO sp v2 vt (fQ A p) T l)):=Sep.drew S2.out;obtain⟨c0,c1,f0,f1⟩:=Sep.two (Sep.pk [_] SD2.out);obtain⟨p0,p1,p2⟩:=Sep.two SD2.out
  go_region_with (go_at_call 37;refine Calls.mono (KO.out _ _ (Sep.roomy SD2.out).2) ?_;rintro e w5 ⟨v5,rfl,o5,b5⟩;have SE:Hid (Sep B w0 w5 (aF pp (.cells #[.int .i64 p.1,.int .i64 p.2] 35)::iO sp v2 vt (fQ A p) T l)):=Sep.below SD2.out b5;obtain⟨y0,y1,z0,z1⟩:=Sep.two (Sep.pk [_] SE.out);have SF:Hid _:=Sep.UW SD2.out b5 o5;obtain⟨a5,n5,rfl,r5⟩:=o5)
  all_goals
   have S3:Hid (Sep B w0 (w5.setCell ⟨sp,1,none⟩ (.slice a5 (fQ T p).length n5)) (aF pp (.cells #[.int .i64 p.1,.int .i64 p.2] 35)::iO sp v2 (.slice a5 (fQ T p).length n5) (fQ A p) (fQ T p) l)):=SF.out;clear SE SF b5 r5 c0 c1 f0 f1 p0 p1 p2 y0 y1 z0 z1;generalize w5.setCell ⟨sp,1,none⟩ (.slice a5 (fQ T p).length n5)=w3 at*;generalize Value.slice a5 (fQ T p).length n5=v3 at*;clear a5 n5;go_wp2
   go_end0
   exact⟨_,⟨rfl,_,_,rfl⟩,Sep.drop S3.out⟩
end
end P
end Go.Proofs.YtcenfooehjcddaaGreatDoor
