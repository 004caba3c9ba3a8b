/- Walks of the package cowtree and of what it stands on: lemmas, made short. -/
import Derived.Test.YtdcpfbidcpfboaaGreatDoorR17
import Derived.Deep.RegionHeld3
import Derived.Deep.QuietTactic
import Derived.BigQuiet
set_option maxHeartbeats 16000000
set_option maxRecDepth 100000
set_option linter.unusedVariables false
set_option linter.unusedSimpArgs false
namespace Go.Proofs.YtdcpfbidcpfboaaGreatDoor
open Go.Shelf Go.RowKit Go.Lib Go.Sort
namespace P
open N (En)
def BA (w:World)(k:ByteArray)(w':World):Prop:=(Below w.heap.size w w'∧w.heap.size<w'.heap.size)∧w'.cell? ⟨w.heap.size,0,none⟩=some (.string k)
theorem BA.dr {w w':World}{k:ByteArray}(h:BA w k w'):BA w k w'.drew:=⟨⟨h.1.1.drew,h.1.2⟩,h.2⟩
theorem BA.Fx {w w' w2:World}{k:ByteArray}(h:BA w k w')(b:Below w'.heap.size w' w2):BA w k w2:=
 ⟨⟨h.1.1.trans (b.mono (Nat.le_of_lt h.1.2)),Nat.lt_of_lt_of_le h.1.2 b.size⟩,(b.cell (p:=⟨w.heap.size,0,none⟩) h.1.2).trans h.2⟩
theorem adjKeys (u v:Int)(x:En)(w:World)(TB:uv w)(hx:x.1.size<=maxLen∧x.2.size<=maxLen):
  Calls Tryz.prog 4 #[.int .i64 u,.int .i64 v,.agg #[.string x.1,.string x.2]] w fun e w'=>e=.returned (.bool true)∧Below w.heap.size w w':=by
 obtain⟨k,y⟩:=x;have TT:Hid (cd w.heap.size w):=LA TB;have KW:Hid _:=Ov TT.out ((Sep.nil (Nat.le_refl _) (Below.refl w.heap.size w)).aQ (.cells #[.string k,.string y] 49));have hx1:=hx.1;have hx2:=hx.2;have HX:Hid (k.size<=maxLen):=hx.1;unfold maxLen at hx1 hx2;simp only at hx1 hx2;clear TB hx;go_enter Tryz.func4,Tryz.ntmps4
 go_wp2_with fail
 refine Calls.mono KW.out ?_;rintro e w1 ⟨rfl,s1⟩;have S1:Hid (Sep w.heap.size w w1 [ax w.heap.size (.cells #[.string k,.string y] 49)]):=s1;obtain⟨_,⟨z0,z1⟩,_⟩:=Sep.c2 s1;clear KW s1;by_cases b1:60<k.size
 ·have b1z:(60:Int)< (k.size:Int):=by omega
  go_wp2;go_ret;exact⟨rfl,S1.out.Fx⟩
 have b1z:¬(60:Int)< (k.size:Int):=by omega
 by_cases b2:60<y.size
 ·have b2z:(60:Int)< (y.size:Int):=by omega
  go_wp2;go_ret;exact⟨rfl,S1.out.Fx⟩
 have b2z:¬(60:Int)< (y.size:Int):=by omega
 clear b1 b2
 go_wp2_with fail
 refine Calls.mono (jV u v _) ?_;rintro e w2 ⟨rfl,b2⟩;have S2:Hid (Sep w.heap.size w w2 [ax w.heap.size (.cells #[.string k,.string y] 49)]):=S1.out.below b2;obtain⟨_,⟨z0,z1⟩,_⟩:=Sep.c2 S2.out;clear S1 b2;have KP:Hid (∀w,Calls Tryz.prog 21 #[.agg #[.string k,.string y]] w fun e w'=>e=.returned (.tuple #[.int .i64 (dK (k,y)).1.1,.int .i64 (dK (k,y)).1.2.1,.bool (dK (k,y)).1.2.2,.bool (dK (k,y)).2])∧Below w.heap.size w w'):=fun w=>ju (k,y) w HX.out;have KR:Hid (∀w,Calls Tryz.prog 22 #[.agg #[.string k,.string y]] w fun e w'=>e=.returned (.tuple #[.int .i64 (dK (k,y)).1.1,.int .i64 (dK (k,y)).1.2.1,.bool (dK (k,y)).1.2.2,.bool (dK (k,y)).2])∧Below w.heap.size w w'):=fun w=>Bz (k,y) w;have HP:Hid ((dK (k,y)).2=true->bQ (dK (k,y)).1.1 (dK (k,y)).1.2.1=k):=fun h=>by
  obtain⟨a,c,b,_,e1,e2⟩:=jF h;rw[e2];injection e1 with e1 _;exact e1.symm
 generalize dK (k,y)=pr at*;obtain⟨⟨p1,p2,p3⟩,p4⟩:=pr;simp only at KP KR HP
 go_wp2_with fail
 refine Calls.mono (KP.out _) ?_;rintro e w3 ⟨rfl,b3⟩;have S3:Hid (Sep w.heap.size w w3 [ax w.heap.size (.cells #[.string k,.string y] 49)]):=S2.out.below b3;obtain⟨_,⟨z0,z1⟩,_⟩:=Sep.c2 S3.out;clear S2 b3 KP
 go_wp2_with fail
 refine Calls.mono (KR.out _) ?_;rintro e w4 ⟨rfl,b4⟩;have S4:Hid (Sep w.heap.size w w4 [ax w.heap.size (.cells #[.string k,.string y] 49)]):=S3.out.below b4;obtain⟨_,⟨z0,z1⟩,_⟩:=Sep.c2 S4.out;clear S3 b4 KR
 go_wp2_with fail
 refine Calls.mono (Bx u v _) ?_;rintro e w5 ⟨rfl,b5⟩;have S5:Hid (Sep w.heap.size w w5 [ax w.heap.size (.cells #[.string k,.string y] 49)]):=S4.out.below b5;obtain⟨_,⟨z0,z1⟩,_⟩:=Sep.c2 S5.out;clear S4 b5;have TV:Hid (∀w,Calls Tryz.prog 21 #[.agg #[.string (bQ u v),.string ⟨#[116]⟩]] w fun e w'=>e=.returned (.tuple #[.int .i64 (dK (bQ u v,⟨#[116]⟩)).1.1,.int .i64 (dK (bQ u v,⟨#[116]⟩)).1.2.1,.bool (dK (bQ u v,⟨#[116]⟩)).1.2.2,.bool (dK (bQ u v,⟨#[116]⟩)).2])∧Below w.heap.size w w'):=fun w=>ju (bQ u v,⟨#[116]⟩) w (by
  show(bQ u v).size<=_
  unfold bQ maxLen
  split
  ·rw[dT,List.length_cons];have:=og u v;rw[dT]at this;omega
  ·exact Nat.zero_le _)
 have KK:Hid (∀w,Calls Tryz.prog 20 #[.int .i64 p1,.int .i64 p2] w fun e w'=>e=.returned (.string (bQ p1 p2))∧Below w.heap.size w w'):=jV p1 p2;generalize bQ p1 p2=kk at*;by_cases hm:dR u v=0
 ·have hk0:¬(bQ u v).toList=[]:=by
   rw[toList_data,iC hm];simp
  have Zi:((bQ u v).toList== [])=false:=beq_eq_false_iff_ne.2 hk0;have e2:dK (bQ u v,⟨#[116]⟩)=((u,v,true),true):=kC (b:=true) hm;rw[e2]at TV;clear hm e2;generalize bQ u v=ky at*
  go_wp2_with fail
  refine Calls.mono (TV.out _) ?_;rintro e w6 ⟨rfl,b6⟩;have S6:Hid (Sep w.heap.size w w6 [ax w.heap.size (.cells #[.string k,.string y] 49)]):=S5.out.below b6;obtain⟨Tq,⟨z0,z1⟩,_⟩:=Sep.c2 S6.out;clear S5 b6 TV;cases p4
  ·go_wp2_with fail
   go_quiet (fail)
   go_wp2;go_ret;exact⟨rfl,(S6.out.drewN _).Fx⟩
  ·have hkk:=HP rfl;subst hkk;have HH:BA w kk w6:=⟨⟨S6.out.Fx,Tq⟩,z0⟩;unfold BA at HH
   go_wp2_with fail
   go_region_held3 (fun w'=>(Below w.heap.size w w'∧w.heap.size<w'.heap.size)∧w'.cell? ⟨w.heap.size,0,none⟩=some (.string kk)) (first|assumption|exact BA.dr HH|exact BA.dr (by assumption)|exact BA.Fx (by assumption) (by assumption)) ((go_at_call 20;refine(KK.out _).mono ?_;rintro e w' ⟨rfl,b9⟩))
   all_goals (go_wp2;go_ret;exact⟨rfl,And.left (And.left (by assumption))⟩)
 ·have hk0:(bQ u v).toList=[]:=by unfold bQ;rw[if_neg hm];decide+kernel
  have Zi:((bQ u v).toList== [])=true:=beq_iff_eq.2 hk0;clear hm;generalize dK (bQ u v,(⟨#[116]⟩:ByteArray))=pr at*;have eky:bQ u v=⟨#[]⟩:=(ByteArray.ext (by have:=congrArg List.toArray hk0;rw[toList_data]at this;simpa using this));generalize bQ u v=ky at*;subst eky;obtain⟨⟨q1,q2,q3⟩,q4⟩:=pr;simp only at TV
  go_wp2_with fail
  refine Calls.mono (TV.out _) ?_;rintro e w6 ⟨rfl,b6⟩;have S6:Hid (Sep w.heap.size w w6 [ax w.heap.size (.cells #[.string k,.string y] 49)]):=S5.out.below b6;obtain⟨Tq,⟨z0,z1⟩,_⟩:=Sep.c2 S6.out;clear S5 b6 TV;cases p4
  ·go_wp2_with fail
   go_quiet (fail)
   go_wp2;go_ret;exact⟨rfl,(S6.out.drewN _).Fx⟩
  ·have hkk:=HP rfl;subst hkk;have HH:BA w kk w6:=⟨⟨S6.out.Fx,Tq⟩,z0⟩;unfold BA at HH
   go_wp2_with fail
   refine wp_region_held_drew (S:=fun w'=>(Below w.heap.size w w'∧w.heap.size<w'.heap.size)∧w'.cell? ⟨w.heap.size,0,none⟩=some (.string kk)) (by kernel_rfl) ?_ (fun hHeld=>?_)
   ·exact BA.dr HH
   refine wpAnyH_take (i:=0) (oi:={dst:=some 85,op:=Op.move (Operand.tmp 7),type:=4,pos:= "law.go:151",after:=#[],guard:=none}) (v:=.bool true) rfl (by kernel_rfl) (by kernel_rfl) (by kernel_rfl) (fun _ _ _ h=>h) (Or.inl ⟨by rfl,by intro w hSw;(try dsimp only at hSw);go_simp⟩) (by assumption) ?_
   try simp only[Act.put,List.setIfInBounds_toArray,List.set_cons_zero,List.set_cons_succ]
   refine wpAnyH_take (i:=1) (oi:={dst:=some 86,op:=Op.move (Operand.tmp 85),type:=4,pos:= "law.go:151",after:=#[{on:=0,ground:=Ground.data}],guard:=none}) (v:=.bool true) rfl (by kernel_rfl) (by kernel_rfl) (by kernel_rfl) (fun _ _ _ h=>h) (Or.inl ⟨by rfl,by intro w hSw;(try dsimp only at hSw);go_simp⟩) (by assumption) ?_
   try simp only[Act.put,List.setIfInBounds_toArray,List.set_cons_zero,List.set_cons_succ]
   refine wpAnyH_take (i:=2) (oi:={dst:=some 87,op:=Op.move (Operand.tmp 8),type:=9,pos:= "law.go:151",after:=#[{on:=1,ground:=Ground.guard}],guard:=some (1,true)}) (v:=.string ⟨#[]⟩) rfl (by kernel_rfl) (by kernel_rfl) (by kernel_rfl) (fun _ _ _ h=>h) (Or.inl ⟨by rfl,by intro w hSw;(try dsimp only at hSw);go_simp⟩) (by assumption) ?_
   try simp only[Act.put,List.setIfInBounds_toArray,List.set_cons_zero,List.set_cons_succ]
   refine wpAnyH_take (i:=3) (oi:={dst:=some 88,op:=Op.binOp BinOp.eql 9 (Operand.tmp 87) (Operand.const (Value.string {data:=#[]})) 9,type:=4,pos:= "law.go:151",after:=#[{on:=2,ground:=Ground.data},{on:=1,ground:=Ground.guard}],guard:=some (1,true)}) (v:=.bool true) rfl (by kernel_rfl) (by kernel_rfl) (by kernel_rfl) (fun _ _ _ h=>h) (Or.inl ⟨by rfl,by intro w hSw;(try dsimp only at hSw);go_simp⟩) (by assumption) ?_
   try simp only[Act.put,List.setIfInBounds_toArray,List.set_cons_zero,List.set_cons_succ]
   refine wpAnyH_take (i:=4) (oi:={dst:=some 89,op:=Op.move (Operand.tmp 88),type:=4,pos:= "law.go:151",after:=#[{on:=3,ground:=Ground.data},{on:=1,ground:=Ground.chain},{on:=1,ground:=Ground.guard}],guard:=some (1,true)}) (v:=.bool true) rfl (by kernel_rfl) (by kernel_rfl) (by kernel_rfl) (fun _ _ _ h=>h) (Or.inl ⟨by rfl,by intro w hSw;(try dsimp only at hSw);go_simp⟩) (by assumption) ?_
   try simp only[Act.put,List.setIfInBounds_toArray,List.set_cons_zero,List.set_cons_succ]
   refine wpAnyH_take (i:=5) (oi:={dst:=some 90,op:=Op.move (Operand.tmp 17),type:=3,pos:= "law.go:151",after:=#[{on:=4,ground:=Ground.guard}],guard:=some (4,false)}) (v:=undef) rfl (by kernel_rfl) (by kernel_rfl) (by kernel_rfl) (fun _ _ _ h=>h) (Or.inr ⟨by rfl,rfl⟩) (by assumption) ?_
   try simp only[Act.put,List.setIfInBounds_toArray,List.set_cons_zero,List.set_cons_succ]
   refine wpAnyH_take (i:=6) (oi:={dst:=some 91,op:=Op.move (Operand.tmp 0),type:=3,pos:= "law.go:151",after:=#[{on:=4,ground:=Ground.guard}],guard:=some (4,false)}) (v:=undef) rfl (by kernel_rfl) (by kernel_rfl) (by kernel_rfl) (fun _ _ _ h=>h) (Or.inr ⟨by rfl,rfl⟩) (by assumption) ?_
   try simp only[Act.put,List.setIfInBounds_toArray,List.set_cons_zero,List.set_cons_succ]
   refine wpAnyH_take (i:=7) (oi:={dst:=some 92,op:=Op.binOp BinOp.eql 3 (Operand.tmp 90) (Operand.tmp 91) 3,type:=4,pos:= "law.go:151",after:=#[{on:=5,ground:=Ground.data},{on:=6,ground:=Ground.data},{on:=4,ground:=Ground.guard}],guard:=some (4,false)}) (v:=undef) rfl (by kernel_rfl) (by kernel_rfl) (by kernel_rfl) (fun _ _ _ h=>h) (Or.inr ⟨by rfl,rfl⟩) (by assumption) ?_
   try simp only[Act.put,List.setIfInBounds_toArray,List.set_cons_zero,List.set_cons_succ]
   refine wpAnyH_take (i:=8) (oi:={dst:=some 93,op:=Op.move (Operand.tmp 92),type:=4,pos:= "law.go:151",after:=#[{on:=7,ground:=Ground.data},{on:=4,ground:=Ground.chain},{on:=4,ground:=Ground.guard}],guard:=some (4,false)}) (v:=undef) rfl (by kernel_rfl) (by kernel_rfl) (by kernel_rfl) (fun _ _ _ h=>h) (Or.inr ⟨by rfl,rfl⟩) (by assumption) ?_
   try simp only[Act.put,List.setIfInBounds_toArray,List.set_cons_zero,List.set_cons_succ]
   refine wpAnyH_take (i:=9) (oi:={dst:=some 94,op:=Op.move (Operand.tmp 18),type:=3,pos:= "law.go:151",after:=#[{on:=8,ground:=Ground.guard}],guard:=some (8,true)}) (v:=undef) rfl (by kernel_rfl) (by kernel_rfl) (by kernel_rfl) (fun _ _ _ h=>h) (Or.inr ⟨by rfl,rfl⟩) (by assumption) ?_
   try simp only[Act.put,List.setIfInBounds_toArray,List.set_cons_zero,List.set_cons_succ]
   refine wpAnyH_take (i:=10) (oi:={dst:=some 95,op:=Op.move (Operand.tmp 1),type:=3,pos:= "law.go:151",after:=#[{on:=8,ground:=Ground.guard}],guard:=some (8,true)}) (v:=undef) rfl (by kernel_rfl) (by kernel_rfl) (by kernel_rfl) (fun _ _ _ h=>h) (Or.inr ⟨by rfl,rfl⟩) (by assumption) ?_
   try simp only[Act.put,List.setIfInBounds_toArray,List.set_cons_zero,List.set_cons_succ]
   refine wpAnyH_take (i:=11) (oi:={dst:=some 96,op:=Op.binOp BinOp.eql 3 (Operand.tmp 94) (Operand.tmp 95) 3,type:=4,pos:= "law.go:151",after:=#[{on:=9,ground:=Ground.data},{on:=10,ground:=Ground.data},{on:=8,ground:=Ground.guard}],guard:=some (8,true)}) (v:=undef) rfl (by kernel_rfl) (by kernel_rfl) (by kernel_rfl) (fun _ _ _ h=>h) (Or.inr ⟨by rfl,rfl⟩) (by assumption) ?_
   try simp only[Act.put,List.setIfInBounds_toArray,List.set_cons_zero,List.set_cons_succ]
   refine wpAnyH_take (i:=12) (oi:={dst:=some 97,op:=Op.pick (Operand.tmp 93) (Operand.tmp 96) (Operand.const (Value.bool false)),type:=4,pos:= "law.go:151",after:=#[{on:=8,ground:=Ground.data},{on:=11,ground:=Ground.data},{on:=4,ground:=Ground.guard}],guard:=some (4,false)}) (v:=undef) rfl (by kernel_rfl) (by kernel_rfl) (by kernel_rfl) (fun _ _ _ h=>h) (Or.inr ⟨by rfl,rfl⟩) (by assumption) ?_
   try simp only[Act.put,List.setIfInBounds_toArray,List.set_cons_zero,List.set_cons_succ]
   refine wpAnyH_take (i:=13) (oi:={dst:=some 98,op:=Op.move (Operand.tmp 97),type:=4,pos:= "law.go:151",after:=#[{on:=12,ground:=Ground.data},{on:=8,ground:=Ground.chain},{on:=4,ground:=Ground.guard}],guard:=some (4,false)}) (v:=undef) rfl (by kernel_rfl) (by kernel_rfl) (by kernel_rfl) (fun _ _ _ h=>h) (Or.inr ⟨by rfl,rfl⟩) (by assumption) ?_
   try simp only[Act.put,List.setIfInBounds_toArray,List.set_cons_zero,List.set_cons_succ]
   refine wpAnyH_take (i:=14) (oi:={dst:=some 99,op:=Op.move (Operand.tmp 19),type:=4,pos:= "law.go:151",after:=#[{on:=13,ground:=Ground.guard}],guard:=some (13,true)}) (v:=undef) rfl (by kernel_rfl) (by kernel_rfl) (by kernel_rfl) (fun _ _ _ h=>h) (Or.inr ⟨by rfl,rfl⟩) (by assumption) ?_
   try simp only[Act.put,List.setIfInBounds_toArray,List.set_cons_zero,List.set_cons_succ]
   refine wpAnyH_take (i:=15) (oi:={dst:=some 100,op:=Op.pick (Operand.tmp 98) (Operand.tmp 99) (Operand.const (Value.bool false)),type:=4,pos:= "law.go:151",after:=#[{on:=13,ground:=Ground.data},{on:=14,ground:=Ground.data},{on:=4,ground:=Ground.guard}],guard:=some (4,false)}) (v:=undef) rfl (by kernel_rfl) (by kernel_rfl) (by kernel_rfl) (fun _ _ _ h=>h) (Or.inr ⟨by rfl,rfl⟩) (by assumption) ?_
   try simp only[Act.put,List.setIfInBounds_toArray,List.set_cons_zero,List.set_cons_succ]
   refine wpAnyH_take (i:=16) (oi:={dst:=some 101,op:=Op.move (Operand.tmp 100),type:=4,pos:= "law.go:151",after:=#[{on:=15,ground:=Ground.data},{on:=13,ground:=Ground.chain},{on:=4,ground:=Ground.guard}],guard:=some (4,false)}) (v:=undef) rfl (by kernel_rfl) (by kernel_rfl) (by kernel_rfl) (fun _ _ _ h=>h) (Or.inr ⟨by rfl,rfl⟩) (by assumption) ?_
   try simp only[Act.put,List.setIfInBounds_toArray,List.set_cons_zero,List.set_cons_succ]
   refine wpAnyH_take (i:=17) (oi:={dst:=some 102,op:=Op.move (Operand.tmp 20),type:=4,pos:= "law.go:151",after:=#[{on:=16,ground:=Ground.guard}],guard:=some (16,true)}) (v:=undef) rfl (by kernel_rfl) (by kernel_rfl) (by kernel_rfl) (fun _ _ _ h=>h) (Or.inr ⟨by rfl,rfl⟩) (by assumption) ?_
   try simp only[Act.put,List.setIfInBounds_toArray,List.set_cons_zero,List.set_cons_succ]
   refine wpAnyH_take (i:=18) (oi:={dst:=some 103,op:=Op.pick (Operand.tmp 101) (Operand.tmp 102) (Operand.const (Value.bool false)),type:=4,pos:= "law.go:151",after:=#[{on:=16,ground:=Ground.data},{on:=17,ground:=Ground.data},{on:=4,ground:=Ground.guard}],guard:=some (4,false)}) (v:=undef) rfl (by kernel_rfl) (by kernel_rfl) (by kernel_rfl) (fun _ _ _ h=>h) (Or.inr ⟨by rfl,rfl⟩) (by assumption) ?_
   try simp only[Act.put,List.setIfInBounds_toArray,List.set_cons_zero,List.set_cons_succ]
   refine wpAnyH_take (i:=19) (oi:={dst:=some 104,op:=Op.pick (Operand.tmp 89) (Operand.const (Value.bool true)) (Operand.tmp 103),type:=4,pos:= "law.go:151",after:=#[{on:=4,ground:=Ground.data},{on:=18,ground:=Ground.data},{on:=1,ground:=Ground.guard}],guard:=some (1,true)}) (v:=.bool true) rfl (by kernel_rfl) (by kernel_rfl) (by kernel_rfl) (fun _ _ _ h=>h) (Or.inl ⟨by rfl,by intro w hSw;(try dsimp only at hSw);go_simp⟩) (by assumption) ?_
   try simp only[Act.put,List.setIfInBounds_toArray,List.set_cons_zero,List.set_cons_succ]
   refine wpAnyH_take (i:=20) (oi:={dst:=some 105,op:=Op.pick (Operand.tmp 86) (Operand.tmp 104) (Operand.const (Value.bool false)),type:=4,pos:= "law.go:151",after:=#[{on:=1,ground:=Ground.data},{on:=19,ground:=Ground.data}],guard:=none}) (v:=.bool true) rfl (by kernel_rfl) (by kernel_rfl) (by kernel_rfl) (fun _ _ _ h=>h) (Or.inl ⟨by rfl,by intro w hSw;(try dsimp only at hSw);go_simp⟩) (by assumption) ?_
   try simp only[Act.put,List.setIfInBounds_toArray,List.set_cons_zero,List.set_cons_succ]
   refine wpAnyH_take (i:=21) (oi:={dst:=some 106,op:=Op.move (Operand.tmp 105),type:=4,pos:= "law.go:151",after:=#[{on:=20,ground:=Ground.data},{on:=16,ground:=Ground.chain}],guard:=none}) (v:=.bool true) rfl (by kernel_rfl) (by kernel_rfl) (by kernel_rfl) (fun _ _ _ h=>h) (Or.inl ⟨by rfl,by intro w hSw;(try dsimp only at hSw);go_simp⟩) (by assumption) ?_
   try simp only[Act.put,List.setIfInBounds_toArray,List.set_cons_zero,List.set_cons_succ]
   refine wpAnyH_take (i:=22) (oi:={dst:=some 107,op:=Op.move (Operand.tmp 12),type:=4,pos:= "law.go:151",after:=#[{on:=21,ground:=Ground.guard}],guard:=some (21,true)}) (v:=.bool true) rfl (by kernel_rfl) (by kernel_rfl) (by kernel_rfl) (fun _ _ _ h=>h) (Or.inl ⟨by rfl,by intro w hSw;(try dsimp only at hSw);go_simp⟩) (by assumption) ?_
   try simp only[Act.put,List.setIfInBounds_toArray,List.set_cons_zero,List.set_cons_succ]
   refine wpAnyH_take (i:=23) (oi:={dst:=some 108,op:=Op.unOp UnOp.not 4 (Operand.tmp 107),type:=4,pos:= "law.go:151",after:=#[{on:=22,ground:=Ground.data},{on:=21,ground:=Ground.guard}],guard:=some (21,true)}) (v:=.bool false) rfl (by kernel_rfl) (by kernel_rfl) (by kernel_rfl) (fun _ _ _ h=>h) (Or.inl ⟨by rfl,by intro w hSw;(try dsimp only at hSw);go_simp⟩) (by assumption) ?_
   try simp only[Act.put,List.setIfInBounds_toArray,List.set_cons_zero,List.set_cons_succ]
   refine wpAnyH_take (i:=24) (oi:={dst:=some 109,op:=Op.move (Operand.tmp 108),type:=4,pos:= "law.go:151",after:=#[{on:=23,ground:=Ground.data},{on:=21,ground:=Ground.chain},{on:=21,ground:=Ground.guard}],guard:=some (21,true)}) (v:=.bool false) rfl (by kernel_rfl) (by kernel_rfl) (by kernel_rfl) (fun _ _ _ h=>h) (Or.inl ⟨by rfl,by intro w hSw;(try dsimp only at hSw);go_simp⟩) (by assumption) ?_
   try simp only[Act.put,List.setIfInBounds_toArray,List.set_cons_zero,List.set_cons_succ]
   refine wpAnyH_take (i:=25) (oi:={dst:=some 110,op:=Op.move (Operand.tmp 9),type:=3,pos:= "law.go:151",after:=#[{on:=24,ground:=Ground.guard}],guard:=some (24,false)}) (v:=.int .i64 p1) rfl (by kernel_rfl) (by kernel_rfl) (by kernel_rfl) (fun _ _ _ h=>h) (Or.inl ⟨by rfl,by intro w hSw;(try dsimp only at hSw);go_simp⟩) (by assumption) ?_
   try simp only[Act.put,List.setIfInBounds_toArray,List.set_cons_zero,List.set_cons_succ]
   refine wpAnyH_take (i:=26) (oi:={dst:=some 111,op:=Op.move (Operand.tmp 10),type:=3,pos:= "law.go:151",after:=#[{on:=24,ground:=Ground.guard}],guard:=some (24,false)}) (v:=.int .i64 p2) rfl (by kernel_rfl) (by kernel_rfl) (by kernel_rfl) (fun _ _ _ h=>h) (Or.inl ⟨by rfl,by intro w hSw;(try dsimp only at hSw);go_simp⟩) (by assumption) ?_
   try simp only[Act.put,List.setIfInBounds_toArray,List.set_cons_zero,List.set_cons_succ]
   refine wpAnyH_take (i:=28) (oi:={dst:=some 113,op:=Op.fieldAddr 49 (Operand.tmp 5) 0,type:=0,pos:= "law.go:151",after:=#[{on:=24,ground:=Ground.guard}],guard:=some (24,false)}) (v:=.pointer (some ⟨w.heap.size,0,none⟩)) rfl (by kernel_rfl) (by kernel_rfl) (by kernel_rfl) (fun _ _ _ h=>h) (Or.inl ⟨by rfl,by intro w hSw;(try dsimp only at hSw);go_simp⟩) (by assumption) ?_
   try simp only[Act.put,List.setIfInBounds_toArray,List.set_cons_zero,List.set_cons_succ]
   refine wpAnyH_take (i:=29) (oi:={dst:=some 114,op:=Op.load 9 (Operand.tmp 113),type:=9,pos:= "law.go:151",after:=#[{on:=28,ground:=Ground.data},{on:=24,ground:=Ground.guard}],guard:=some (24,false)}) (v:=.string kk) rfl (by kernel_rfl) (by kernel_rfl) (by kernel_rfl) (fun _ _ _ h=>h) (Or.inl ⟨by rfl,by intro w hSw;(try dsimp only at hSw);go_simp⟩) (by assumption) ?_
   try simp only[Act.put,List.setIfInBounds_toArray,List.set_cons_zero,List.set_cons_succ]
   refine wpAnyH_ready (rs:=[27]) (by kernel_rfl) (by simp) ?_;refine AllReadyH.cons (o:={dst:=some 112,op:=Op.call {callee:=Callee.value (Operand.func 20),args:=#[Operand.tmp 110,Operand.tmp 111],argTypes:=#[3,3]},type:=9,pos:= "law.go:151",after:=#[{on:=25,ground:=Ground.data},{on:=26,ground:=Ground.data},{on:=24,ground:=Ground.chain},{on:=24,ground:=Ground.guard}],guard:=some (24,false)}) rfl (fun K hK=>?_) AllReadyH.nil;go_simp
   go_at_call 20
   refine(KK.out _).mono ?_;rintro e w' ⟨rfl,b9⟩;have HH2:=BA.Fx hHeld b9;refine hK.out _ _ HH2 (fun _=>?_);clear hK K
   try simp only[Act.put,List.setIfInBounds_toArray,List.set_cons_zero,List.set_cons_succ]
   refine wpAnyH_take (i:=30) (oi:={dst:=some 115,op:=Op.binOp BinOp.eql 9 (Operand.tmp 112) (Operand.tmp 114) 9,type:=4,pos:= "law.go:151",after:=#[{on:=27,ground:=Ground.data},{on:=29,ground:=Ground.data},{on:=24,ground:=Ground.guard}],guard:=some (24,false)}) (v:=.bool true) rfl (by kernel_rfl) (by kernel_rfl) (by kernel_rfl) (fun _ _ _ h=>h) (Or.inl ⟨by rfl,by intro w hSw;(try dsimp only at hSw);go_simp⟩) (by assumption) ?_
   try simp only[Act.put,List.setIfInBounds_toArray,List.set_cons_zero,List.set_cons_succ]
   refine wpAnyH_take (i:=31) (oi:={dst:=some 116,op:=Op.pick (Operand.tmp 109) (Operand.const (Value.bool true)) (Operand.tmp 115),type:=4,pos:= "law.go:151",after:=#[{on:=24,ground:=Ground.data},{on:=30,ground:=Ground.data},{on:=21,ground:=Ground.guard}],guard:=some (21,true)}) (v:=.bool true) rfl (by kernel_rfl) (by kernel_rfl) (by kernel_rfl) (fun _ _ _ h=>h) (Or.inl ⟨by rfl,by intro w hSw;(try dsimp only at hSw);go_simp⟩) (by assumption) ?_
   try simp only[Act.put,List.setIfInBounds_toArray,List.set_cons_zero,List.set_cons_succ]
   refine wpAnyH_take (i:=32) (oi:={dst:=some 117,op:=Op.pick (Operand.tmp 106) (Operand.tmp 116) (Operand.const (Value.bool false)),type:=4,pos:= "law.go:151",after:=#[{on:=21,ground:=Ground.data},{on:=31,ground:=Ground.data}],guard:=none}) (v:=.bool true) rfl (by kernel_rfl) (by kernel_rfl) (by kernel_rfl) (fun _ _ _ h=>h) (Or.inl ⟨by rfl,by intro w hSw;(try dsimp only at hSw);go_simp⟩) (by assumption) ?_
   try simp only[Act.put,List.setIfInBounds_toArray,List.set_cons_zero,List.set_cons_succ]
   refine wpAnyH_take (i:=33) (oi:={dst:=some 6,op:=Op.assign (Operand.tmp 117),type:=4,pos:= "law.go:151",after:=#[{on:=32,ground:=Ground.data},{on:=27,ground:=Ground.chain},{on:=0,ground:=Ground.phase},{on:=1,ground:=Ground.phase},{on:=2,ground:=Ground.phase},{on:=3,ground:=Ground.phase},{on:=4,ground:=Ground.phase},{on:=5,ground:=Ground.phase},{on:=6,ground:=Ground.phase},{on:=7,ground:=Ground.phase},{on:=8,ground:=Ground.phase},{on:=9,ground:=Ground.phase},{on:=10,ground:=Ground.phase},{on:=11,ground:=Ground.phase},{on:=12,ground:=Ground.phase},{on:=13,ground:=Ground.phase},{on:=14,ground:=Ground.phase},{on:=15,ground:=Ground.phase},{on:=16,ground:=Ground.phase},{on:=17,ground:=Ground.phase},{on:=18,ground:=Ground.phase},{on:=19,ground:=Ground.phase},{on:=20,ground:=Ground.phase},{on:=21,ground:=Ground.phase},{on:=22,ground:=Ground.phase},{on:=23,ground:=Ground.phase},{on:=24,ground:=Ground.phase},{on:=25,ground:=Ground.phase},{on:=26,ground:=Ground.phase},{on:=27,ground:=Ground.phase},{on:=28,ground:=Ground.phase},{on:=29,ground:=Ground.phase},{on:=30,ground:=Ground.phase},{on:=31,ground:=Ground.phase},{on:=32,ground:=Ground.phase}],guard:=none}) (v:=.bool true) rfl (by kernel_rfl) (by kernel_rfl) (by kernel_rfl) (fun _ _ _ h=>h) (Or.inl ⟨by rfl,by intro w hSw;(try dsimp only at hSw);go_simp⟩) (by assumption) ?_
   try simp only[Act.put,List.setIfInBounds_toArray,List.set_cons_zero,List.set_cons_succ]
   refine wpAnyH_done (by kernel_rfl) ?_ _;go_wp2;go_ret;exact⟨rfl,And.left (And.left HH2)⟩
end P
end Go.Proofs.YtdcpfbidcpfboaaGreatDoor
