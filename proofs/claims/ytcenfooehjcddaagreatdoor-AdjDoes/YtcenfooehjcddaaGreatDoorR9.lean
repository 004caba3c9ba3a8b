/- Walks of the package cowtree and of what it stands on: lemmas, made short. -/
import Derived.Test.YtcenfooehjcddaaGreatDoorR7
import Derived.Test.YtcenfooehjcddaaGreatDoorR1
import Derived.Test.YtcenfooehjcddaaGreatDoorR8
set_option maxHeartbeats 16000000
set_option maxRecDepth 100000
set_option linter.unusedVariables false
set_option linter.unusedSimpArgs false
namespace Go.Proofs.YtcenfooehjcddaaGreatDoor
open Go.Shelf Go.RowKit Go.Lib Go.Sort
section
section
theorem JV:∃i0,Tryz.prog.info? 112=some i0∧i0.zero=some (.agg #[.int .i64 0,.int .i64 0])∧i0.size=2∧i0.bytes=16:=info_parts fV
theorem JW (n:Nat)(w:World)(hn:n<=1000000):
  Calls Tryz.prog 221 #[.slice none 0 0,.int .i64 n] w fun e w'=>∃ao c,e=.returned (.slice ao 0 c)∧bp w.heap.size w' (.slice ao 0 c) []∧Below w.heap.size w w':=by
 by_cases h0:n=0
 ·subst h0;refine(Any8.slices_Grow_room Tryz.Da none 0 0 0 w (Nat.le_refl _) (by omega) (by omega) (Nat.le_refl _)).mono ?_;rintro e w' ⟨rfl,rfl⟩;exact⟨none,0,rfl,bp.empty _ _,Below.refl _ _⟩
 ·obtain⟨i0,hi,hz0,hz1,hz2⟩:=JV;refine(Any8.slices_Grow_grow Tryz.Da i0 _ hi hz0 (by omega) none 0 0 n [] w (Nat.le_refl _) (by omega) (by rw[hz2];omega) (by omega) (by simp) (fun _=>rfl) (fun a h=>by cases h)).mono ?_;rintro e w' ⟨rfl,rfl⟩;have hG:0+n<=grownCap w (0+n) 0 (Tryz.gJ.t 25):=grownCap_ge w _ _ _;have hG2:=grownCap_le_maxLen w (0+n) 0 (Tryz.gJ.t 25) (by unfold maxLen;omega);refine⟨_,_,rfl,⟨by simp[flatK],Or.inr ⟨w.heap.size,grownCap w (0+n) 0 (Tryz.gJ.t 25),_,rfl,Nat.le_refl _,heap_alloc_new _ _,Nat.zero_le _,hG2,?_,?_⟩⟩,?_⟩
  ·generalize grownCap w (0+n) 0 (Tryz.gJ.t 25)=G at*;have e:(Value.agg #[Value.int .i64 0,Value.int .i64 0]).cells.size=2:=rfl;simp[Builtin.zeroCells,e];omega
  ·simp[flatK]
  ·exact(Below.refl _ w).drew.alloc (Nat.le_refl _) _
theorem Ci (c:Nat)(va vb:Value)(a b:List Pr)(w:World)(hc:Cl w c #[va,vb] 108)(ha:Row ax 2 w va a)(hb:Row ax 2 w vb b)(hl:a.length+b.length<=100000):
  Calls Tryz.prog 191 #[.slice (some ⟨c,0,none⟩) 2 2] w fun e w'=>∃v',e=.returned v'∧Own ax 2 w.heap.size w' v' (a++b)∧Below w.heap.size w w':=by
 have RA:Aside (Row ax 2 w va a):=ha;have RB:Aside (Row ax 2 w vb b):=hb;obtain⟨aa,ca,rfl,_⟩:=ha;obtain⟨ab,cb,rfl,_⟩:=hb;have p0:=hc.two.1;have p1:=hc.two.2;have HC:Hid (Cl w c #[.slice aa a.length ca,.slice ab b.length cb] 108):=hc;have e1:wrap64 (a.length:Int)=a.length:=U0 (by omega) (by omega);have e2:wrap64 ((a.length:Int)+(b.length:Int))=a.length+b.length:=U0 (by omega) (by omega);have n1:¬(a.length:Int)<0:=by omega
 have n2:¬(a.length:Int)+(b.length:Int)<0:=by omega
 have G:Hid (Calls Tryz.prog 221 #[.slice none 0 0,.int .i64 ((a.length:Int)+(b.length:Int))] w fun e w'=>∃ao c,e=.returned (.slice ao 0 c)∧bp w.heap.size w' (.slice ao 0 c) []∧Below w.heap.size w w'):=by
  show Calls _ _ _ _ _;have:=JW (a.length+b.length) w (by omega);rw[Int.natCast_add]at this;exact this
 clear hc;go_enter Tryz.func191,Tryz.ntmps191;go_wp2;refine wp_loop_rounds 3 ?_;rw[rounds_succ];go_wp2;rw[rounds_succ];go_wp2;rw[rounds_succ]
 go_wp2_with (go_at_call 221;refine Calls.mono G.out ?_;rintro e w1 ⟨um,c1,rfl,ho1,hb1⟩)
 have O1:Aside (bp w.heap.size w1 (.slice um 0 c1) []):=ho1;have B1:Hid (Below w.heap.size w w1):=hb1;have q0:=(HC.out.on hb1).two.1;have q1:=(HC.out.on hb1).two.2;have hs1:=hb1.size;clear ho1 hb1 p0 p1 G;refine wp_loop_rounds 3 ?_;rw[rounds_succ]
 go_wp2_with (at_builtin;refine yS rfl _ _ rfl w.heap.size _ [] rfl O1.out _ a rfl (RA.out.below B1.out) (by simp;omega) hs1 a (List.nil_append a) ?_)
 intro gR n2 c2 w2 yA HB2;have O2:Aside (bp w.heap.size w2 (.slice gR n2 c2) a):=yA;have B2:Hid (Below w.heap.size w w2):=HB2 _ B1.out;have q2:=(HC.out.on B2.out).two.2;have hs2:=B2.out.size;clear yA HB2 O1 B1 q0 q1;go_wp2;rw[rounds_succ]
 go_wp2_with (at_builtin;refine yS rfl _ _ rfl w.heap.size _ a rfl O2.out _ b rfl (RB.out.below B2.out) (by omega) hs2 (a++b) rfl ?_)
 intro wZ n3 c3 w3 pJ HB3;have O3:Aside (bp w.heap.size w3 (.slice wZ n3 c3) (a++b)):=pJ;have B3:Hid (Below w.heap.size w w3):=HB3 _ B2.out;clear pJ HB3 O2 B2 q2;go_wp2;rw[rounds_succ];go_wp2;go_ret;exact⟨_,rfl,O3.out.own,B3.out⟩
end
section
end
section
def Gives (w:World)(l:List Pr)(e:Ending)(w':World):Prop:=∃ao n c,e=.returned (.slice ao n c)∧Row ax 2 w' (.slice ao n c) l∧Below w.heap.size w w'
theorem JX {w:World}{l:List Pr}{e:Ending}{w':World}(h:∃v',e=.returned v'∧Own ax 2 w.heap.size w' v' l∧Below w.heap.size w w'):Gives w l e w':=by
 obtain⟨v',rfl,ho,hb⟩:=h;obtain⟨ao,c,rfl,_⟩:=id ho;exact⟨ao,_,c,rfl,ho.row,hb⟩
theorem JY (v:Value)(l:List Pr)(w:World)(h:Row ax 2 w v l)(hl:l.length<=100000):Calls Tryz.prog 79 #[v] w (Gives w (pE l)):=(Ah v l w h hl).mono fun _ _ h=>JX h
end
end
end Go.Proofs.YtcenfooehjcddaaGreatDoor
