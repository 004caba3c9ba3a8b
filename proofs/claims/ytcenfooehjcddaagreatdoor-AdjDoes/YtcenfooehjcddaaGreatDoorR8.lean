/- Walks of the package cowtree and of what it stands on: lemmas, made short. -/
import Derived.Test.YtcenfooehjcddaaGreatDoorR1
import Derived.BigRegion
set_option maxHeartbeats 16000000
set_option maxRecDepth 100000
set_option linter.unusedVariables false
set_option linter.unusedSimpArgs false
namespace Go.Proofs.YtcenfooehjcddaaGreatDoor
open Go.Shelf Go.RowKit Go.Lib Go.Sort
section
section
theorem vQ {w:World}{v:Value}{l:List Pr}(h:Row ax 2 w v l):Ba w.heap.size w v l:=by
 obtain⟨ao,cap,e,h1,h2,h3⟩:=h;refine⟨ao,cap,e,h1,h2,fun hne=>?_⟩;obtain⟨b,off,e2,hlt,hH⟩:=h3 hne;exact⟨b,off,e2,by omega,hlt,hH⟩
theorem JU (va vb:Value)(a b:List Pr)(w:World)(ha:Row ax 2 w va a)(hb:Row ax 2 w vb b)(ca:Cn a)(cb:Cn b)(hl:a.length+b.length<=100000):
  Calls Tryz.prog 78 #[va,vb] w fun e w'=>∃v',e=.returned v'∧Own ax 2 w.heap.size w' v' (uY a b)∧Below w.heap.size w w':=by
 have RA:Aside (Ba w.heap.size w va a):=vQ ha;have RB:Aside (Ba w.heap.size w vb b):=vQ hb;have S0:Hid (j4 a b a b []):=j4.start ca cb;clear ha hb ca cb;go_enter Tryz.func78,Tryz.ntmps78;go_wp2
 go_loopg [0,1,5] (a.length+b.length) (fun kx s0 s1 s5 wr=>∃(a' b' both:List Pr) (cT:Option Addr) (n' c':Nat),s5=.slice cT n' c'∧a'.length+b'.length<=kx∧Aside (Ba w.heap.size w s0 a')∧Aside (Ba w.heap.size w s1 b')∧Aside (bp w.heap.size wr (.slice cT n' c') both)∧Hid (Below w.heap.size w wr)∧Hid (j4 a b a' b' both))
 case atStart=>exact⟨a,b,[],none,0,0,rfl,Nat.le_refl _,RA,RB,bp.empty _ _,Below.refl _ _,S0⟩
 case round=>
  clear RA RB S0;obtain⟨a',b',both,cT,n',c',rfl,hkx,RA,RB,HO,HB,HS⟩:=hrel;have hsz:w.heap.size<=wr.heap.size:=HB.out.size;by_cases hfin:a'=[]∨b'=[]
  ·obtain⟨e1,e2⟩:=HS.out.fin hfin;have E:Hid (both=uY a b):=e1;clear e1 e2 HS;obtain⟨aa,cca,rfl,q1,q2,q3⟩:=RA.out;obtain⟨ab,ccb,rfl,r1,r2,r3⟩:=RB.out;clear q3 r3 q2 r2;by_cases h1:a'=[]
   ·subst h1;simp only[List.length_nil]at*;go_wp2;go_ret;exact⟨_,rfl,by rw[<-E.out];exact HO.out.own,HB.out⟩
   ·obtain rfl:b'=[]:=hfin.resolve_left h1;have h2:0<a'.length:=List.length_pos_iff.2 h1;have h3:(0:Int)< (a'.length:Int):=by omega
    simp only[List.length_nil]at*;go_wp2;go_ret;exact⟨_,rfl,by rw[<-E.out];exact HO.out.own,HB.out⟩
  ·obtain⟨x,a',rfl⟩:∃x l,a'=x::l:=by cases a' with
    |nil=>exact absurd (Or.inl rfl) hfin
    |cons x l=>exact⟨x,l,rfl⟩
   obtain⟨y,b',rfl⟩:∃x l,b'=x::l:=by cases b' with
    |nil=>exact absurd (Or.inr rfl) hfin
    |cons x l=>exact⟨x,l,rfl⟩
   clear hfin;have hlen:both.length<=100000:=by have:=HS.out.len;omega
   simp only[List.length_cons]at hkx;obtain⟨ba,oa,ca',rfl,hca,hla,G6,xa1,Zy,RA'⟩:=yT RA.out;obtain⟨bb,ob,cb',rfl,hcb,hlb,hbb,yb1,Zz,RB'⟩:=yT RB.out;have QA:Aside _:=RA';have QB:Aside _:=RB';have X1:wr.cell? ⟨ba,oa,none⟩=some (.int .i64 x.1):=(HB.out.cell (p:=⟨ba,oa,none⟩) G6).trans xa1;have X2:wr.cell? ⟨ba,oa+1,none⟩=some (.int .i64 x.2):=(HB.out.cell (p:=⟨ba,oa+1,none⟩) G6).trans Zy;have Y1:wr.cell? ⟨bb,ob,none⟩=some (.int .i64 y.1):=(HB.out.cell (p:=⟨bb,ob,none⟩) hbb).trans yb1;have Y2:wr.cell? ⟨bb,ob+1,none⟩=some (.int .i64 y.2):=(HB.out.cell (p:=⟨bb,ob+1,none⟩) hbb).trans Zz;have PA:Hid (w.cell? ⟨ba,oa+1,none⟩=some (.int .i64 x.2)∧w.cell? ⟨bb,ob+1,none⟩=some (.int .i64 y.2)):=⟨Zy,Zz⟩;have X9:=RA;have Ya:=RB;clear RA' RB' xa1 Zy yb1 Zz RA RB;obtain⟨lo,hlo⟩:∃lo,max x.1 y.1=lo:=⟨_,rfl⟩;obtain⟨hh,ZA⟩:∃hh,min x.2 y.2=hh:=⟨_,rfl⟩;have HM:Hid (mr x y=if lo<=hh then [(lo,hh)]else []):=by show _=_;unfold mr;rw[hlo,ZA]
   have e1:max x.1 y.1=lo:=hlo;have e2:min x.2 y.2=hh:=ZA;have X3:(wr.alloc (.cells #[.int .i64 0,.int .i64 0] 112)).cell? ⟨ba,oa,none⟩=some (.int .i64 x.1):=Lib.cell?_alloc_some _ X1;have X4:(wr.alloc (.cells #[.int .i64 0,.int .i64 0] 112)).cell? ⟨ba,oa+1,none⟩=some (.int .i64 x.2):=Lib.cell?_alloc_some _ X2;have Y3:(wr.alloc (.cells #[.int .i64 0,.int .i64 0] 112)).cell? ⟨bb,ob,none⟩=some (.int .i64 y.1):=Lib.cell?_alloc_some _ Y1;have Y4:(wr.alloc (.cells #[.int .i64 0,.int .i64 0] 112)).cell? ⟨bb,ob+1,none⟩=some (.int .i64 y.2):=Lib.cell?_alloc_some _ Y2
   go_wp2_with fail
   go_region
   have O2:Aside (bp w.heap.size (wr.alloc (.cells #[.int .i64 lo,.int .i64 hh] 112)).drew (.slice cT n' c') both):=by have:=cA (HO.out.alloc (.cells #[.int .i64 lo,.int .i64 hh] 112)) 1 #[];rw[grow_empty]at this;exact this
   have B2:Hid (Below w.heap.size w (wr.alloc (.cells #[.int .i64 lo,.int .i64 hh] 112)).drew):=(HB.out.alloc hsz _).drew;have P2:Hid (Cl (wr.alloc (.cells #[.int .i64 lo,.int .i64 hh] 112)).drew wr.heap.size #[.int .i64 lo,.int .i64 hh] 112):=Cl.new _ _ _;clear HO HB X1 X2 X3 X4 Y1 Y2 Y3 Y4 hlo ZA e1 e2;generalize(wr.alloc (.cells #[.int .i64 lo,.int .i64 hh] 112)).drew=w2 at*;generalize wr.heap.size=q at*;have p0:=P2.out.two.1;have p1:=P2.out.two.2;have hs2:w.heap.size<=w2.heap.size:=B2.out.size;by_cases hne:lo<=hh
   ·go_wp2_with (at_builtin;refine qE rfl _ _ rfl w.heap.size _ both rfl (O2.out.alloc _) w2.heap.size 0 1 rfl (lo,hh) (by simp) (by simp) (by omega) (by simp;omega) ?_)
    intro Vd n7 c7 w3 pJ HB3 _;have O4:Aside (bp w.heap.size w3 (.slice Vd n7 c7) (both++[(lo,hh)])):=pJ;have B4:Hid (Below w.heap.size w w3):=HB3 _ (B2.out.alloc hs2 _);clear pJ HB3 O2 B2 P2 p0 p1;have Z1:w3.cell? ⟨ba,oa+1,none⟩=some (.int .i64 x.2):=(B4.out.cell (p:=⟨ba,oa+1,none⟩) G6).trans PA.out.1;have Z2:w3.cell? ⟨bb,ob+1,none⟩=some (.int .i64 y.2):=(B4.out.cell (p:=⟨bb,ob+1,none⟩) hbb).trans PA.out.2;have O7:Aside (bp w.heap.size w3.drew (.slice Vd n7 c7) (both++[(lo,hh)])):=by have:=cA O4.out 1 #[];rw[grow_empty]at this;exact this
    have B7:Hid (Below w.heap.size w w3.drew):=B4.out.drew;clear O4 B4;by_cases hlt:x.2<y.2
    ·have S7:Hid (j4 a b a' (y::b') (both++[(lo,hh)])):=by have:=HS.out.left hlt;rw[HM.out,if_pos hne]at this;exact this
     go_wp2_with fail
     go_region
     all_goals go_wp2
     all_goals go_roundg (a'.length+(b'.length+1))
     all_goals first
      |omega
      |(refine⟨a',y::b',_,Vd,n7,c7,rfl,by simp only[List.length_cons];omega,?_,Ya,O7,B7,S7⟩
        exact QA.out (some ⟨ba,oa+2,none⟩) (fun _=>rfl) (fun h=>by cases h))
      |(refine⟨a',y::b',_,Vd,n7,c7,rfl,by simp only[List.length_cons];omega,?_,Ya,O7,B7,S7⟩
        have hc1:ca'=1:=by omega
        have:=QA.out (some ⟨ba,oa,none⟩) (fun hne=>absurd (List.length_eq_zero_iff.1 (by omega)) hne) (fun h=>by cases h)
        rw[hc1]at this
        exact this)
    ·have S7:Hid (j4 a b (x::a') b' (both++[(lo,hh)])):=by have:=HS.out.right hlt;rw[HM.out,if_pos hne]at this;exact this
     go_wp2_with fail
     go_region
     all_goals go_wp2
     all_goals go_roundg (a'.length+1+b'.length)
     all_goals first
      |omega
      |(refine⟨x::a',b',_,Vd,n7,c7,rfl,by simp only[List.length_cons];omega,X9,?_,O7,B7,S7⟩
        exact QB.out (some ⟨bb,ob+2,none⟩) (fun _=>rfl) (fun h=>by cases h))
      |(refine⟨x::a',b',_,Vd,n7,c7,rfl,by simp only[List.length_cons];omega,X9,?_,O7,B7,S7⟩
        have hc1:cb'=1:=by omega
        have:=QB.out (some ⟨bb,ob,none⟩) (fun hne=>absurd (List.length_eq_zero_iff.1 (by omega)) hne) (fun h=>by cases h)
        rw[hc1]at this
        exact this)
   ·have hnl:¬lo<=hh:=hne;have Z1:w2.cell? ⟨ba,oa+1,none⟩=some (.int .i64 x.2):=(B2.out.cell (p:=⟨ba,oa+1,none⟩) G6).trans PA.out.1;have Z2:w2.cell? ⟨bb,ob+1,none⟩=some (.int .i64 y.2):=(B2.out.cell (p:=⟨bb,ob+1,none⟩) hbb).trans PA.out.2;have O7:Aside (bp w.heap.size w2.drew (.slice cT n' c') both):=by have:=cA O2.out 1 #[];rw[grow_empty]at this;exact this
    have B7:Hid (Below w.heap.size w w2.drew):=B2.out.drew;clear O2 B2;by_cases hlt:x.2<y.2
    ·have S7:Hid (j4 a b a' (y::b') both):=by have:=HS.out.left hlt;rw[HM.out,if_neg hne,List.append_nil]at this;exact this
     go_wp2_with fail
     go_region
     all_goals go_wp2
     all_goals go_roundg (a'.length+(b'.length+1))
     all_goals first
      |omega
      |(refine⟨a',y::b',_,cT,n',c',rfl,by simp only[List.length_cons];omega,?_,Ya,O7,B7,S7⟩
        exact QA.out (some ⟨ba,oa+2,none⟩) (fun _=>rfl) (fun h=>by cases h))
      |(refine⟨a',y::b',_,cT,n',c',rfl,by simp only[List.length_cons];omega,?_,Ya,O7,B7,S7⟩
        have hc1:ca'=1:=by omega
        have:=QA.out (some ⟨ba,oa,none⟩) (fun hne=>absurd (List.length_eq_zero_iff.1 (by omega)) hne) (fun h=>by cases h)
        rw[hc1]at this
        exact this)
    ·have S7:Hid (j4 a b (x::a') b' both):=by have:=HS.out.right hlt;rw[HM.out,if_neg hne,List.append_nil]at this;exact this
     go_wp2_with fail
     go_region
     all_goals go_wp2
     all_goals go_roundg (a'.length+1+b'.length)
     all_goals first
      |omega
      |(refine⟨x::a',b',_,cT,n',c',rfl,by simp only[List.length_cons];omega,X9,?_,O7,B7,S7⟩
        exact QB.out (some ⟨bb,ob+2,none⟩) (fun _=>rfl) (fun h=>by cases h))
      |(refine⟨x::a',b',_,cT,n',c',rfl,by simp only[List.length_cons];omega,X9,?_,O7,B7,S7⟩
        have hc1:cb'=1:=by omega
        have:=QB.out (some ⟨bb,ob,none⟩) (fun hne=>absurd (List.length_eq_zero_iff.1 (by omega)) hne) (fun h=>by cases h)
        rw[hc1]at this
        exact this)
end
end
end Go.Proofs.YtcenfooehjcddaaGreatDoor
