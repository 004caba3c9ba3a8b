/- Walks of the package cowtree and of what it stands on: lemmas, made short. -/
import Derived.Test.YtcenfooehjcddaaGreatDoorR3
import Derived.Test.YtcenfooehjcddaaGreatDoorR1
import Derived.Laws.StructEq
import Derived.Deep.RegionHeld3
import Derived.Test.YtcenfooehjcddaaGreatDoorR2
import Derived.Shelf.SlSortCmp.QuietGrown
import Derived.Deep.QuietTactic
import Derived.Shelf.Small.Wraps
import Derived.Ground.NamesProg
import Derived.Test.YtcenfooehjcddaaGreatDoorProg
import Derived.BigQuiet
import Derived.Maps.OwnIn
import Derived.Maps.OwnSet
import Derived.Lib.SlKeysI
set_option maxHeartbeats 16000000
set_option maxRecDepth 100000
set_option linter.unusedVariables false
set_option linter.unusedSimpArgs false
namespace Go.Proofs.YtcenfooehjcddaaGreatDoor
open Go.Shelf Go.RowKit Go.Lib Go.Sort
namespace P
theorem dG {a b:Bool}(h:a=b):Ending.returned (.bool a)=.returned (.bool b):=by rw[h]
theorem kh (v:Int)(w:World):Calls Tryz.prog 32 #[.int .i64 v] w fun e w'=>e=.returned (.bool (dC v))∧w=w':=by
 by_cases h1:v<0
 ·have E:Hid (dC v=false):=by simp[Hid,dC];omega
  have h3:¬0<=v:=by omega
  go_enter Tryz.func32,Tryz.ntmps32;go_wp2;go_ret;exact⟨dG E.out.symm,rfl⟩
 ·have h3:0<=v:=by omega
  by_cases h2:1048576<=v
  ·have E:Hid (dC v=false):=by simp[Hid,dC];omega
   have h4:¬v<1048576:=by omega
   go_enter Tryz.func32,Tryz.ntmps32;go_wp2;go_ret;exact⟨dG E.out.symm,rfl⟩
  ·have E:Hid (dC v=true):=by simp[Hid,dC];omega
   have h4:v<1048576:=by omega
   go_enter Tryz.func32,Tryz.ntmps32;go_wp2;go_ret;exact⟨dG E.out.symm,rfl⟩
theorem sW (u v:Int)(w:World):Calls Tryz.prog 8 #[.int .i64 u,.int .i64 v] w fun e w'=>e=.returned (.int .i64 (dy u v))∧w=w':=by
 have K1:Hid (∀w,Calls Tryz.prog 32 #[.int .i64 u] w fun e w'=>e=.returned (.bool (dC u))∧w=w'):=kh u;have K2:Hid (∀w,Calls Tryz.prog 32 #[.int .i64 v] w fun e w'=>e=.returned (.bool (dC v))∧w=w'):=kh v;have HM:Hid (dy u v=if(dC u&&dC v)=true then(if u=v then 31 else 0)else 30):=rfl;rw[HM.out];clear HM;generalize dC u=a at*;generalize dC v=b at*;cases a
 ·go_enter Tryz.func8,Tryz.ntmps8
  go_wp2_with fail
  refine Calls.mono (K1.out _) ?_;rintro e w1 ⟨rfl,rfl⟩;go_wp2;go_ret;exact⟨rfl,rfl⟩
 ·cases b
  ·go_enter Tryz.func8,Tryz.ntmps8
   go_wp2_with fail
   refine Calls.mono (K1.out _) ?_;rintro e w1 ⟨rfl,rfl⟩
   go_wp2_with fail
   refine Calls.mono (K2.out _) ?_;rintro e w1 ⟨rfl,rfl⟩;go_wp2;go_ret;exact⟨rfl,rfl⟩
  ·by_cases h:u=v
   ·subst h;have HR:Hid ((if u=u then(31:Int)else 0)=31):=if_pos rfl;go_enter Tryz.func8,Tryz.ntmps8
    go_wp2_with fail
    refine Calls.mono (K1.out _) ?_;rintro e w1 ⟨rfl,rfl⟩
    go_wp2_with fail
    refine Calls.mono (K2.out _) ?_;rintro e w1 ⟨rfl,rfl⟩;go_wp2;go_ret;refine⟨?_,rfl⟩
    first|rfl| (simp[HR.out])
   ·have hb:(u==v)=false:=beq_eq_false_iff_ne.2 h;have HR:Hid ((if u=v then(31:Int)else 0)=0):=if_neg h;go_enter Tryz.func8,Tryz.ntmps8
    go_wp2_with fail
    refine Calls.mono (K1.out _) ?_;rintro e w1 ⟨rfl,rfl⟩
    go_wp2_with fail
    refine Calls.mono (K2.out _) ?_;rintro e w1 ⟨rfl,rfl⟩;go_wp2;go_ret;refine⟨?_,rfl⟩
    first|rfl| (simp[HR.out])
end P
namespace P
theorem Jh (a b c d:Int)(w:World):(Op.equalIn 10000 35 (.agg #[.int .i64 a,.int .i64 b]) (.agg #[.int .i64 c,.int .i64 d])).run Tryz.prog w=.ok (decide ((a,b)=(c,d))) w:=by
 have u3:=Tryz.underlying3;have a3:=Tryz.isAgg3;have z3:=Tryz.sizeOf3;have hS:Tryz.prog.underlying 35=some (.struct (Tryz.prog.fieldsOf 35)):=by kernel_rfl
 have hp:Tryz.prog.stoodInHeld 35=false:=by kernel_rfl
 rw[show(10000:Nat)=9999+1 from rfl,run_equalIn_agg w 9999 35 _ _ hS hp];simp only[Program.fieldsOf,Tryz.underlying35];go_simp;by_cases h1:a=c<;>by_cases h2:b=d<;>simp[h1,h2]
theorem VS (x y:Pr)(w:World):Sem.run Tryz.prog (binOp .eql 35 (.agg (ax x).toArray) (.agg (ax y).toArray)) w=.ok (.bool (decide (x=y))) w:=by
 obtain⟨a,b⟩:=x;obtain⟨c,d⟩:=y;simp only[ax];rw[run_eql_struct,Jh];rfl
theorem VT (x y:Pr)(w:World):Sem.run Tryz.prog (binOp .neq 35 (.agg (ax x).toArray) (.agg (ax y).toArray)) w=.ok (.bool (!decide (x=y))) w:=by
 obtain⟨a,b⟩:=x;obtain⟨c,d⟩:=y;simp only[ax];rw[run_neq_struct,Jh];rfl
theorem Y8 (op:BinOp)(a b:Operand)(x y:Pr)(w:World):Sem.run Tryz.prog (eqGuard op 35 a b (.agg (ax x).toArray) (.agg (ax y).toArray)) w=.ok () w:=
 GuardAt.agg (P:=Tryz.prog) (T:=35) (fun x:Pr=>(ax x).toArray) (by kernel_rfl) op a b x y w
theorem VX {x y:Pr}{f:Bool}(h:decide (x=y)=f)(W:World):Sem.run Tryz.prog (binOp .eql 35 (.agg #[.int .i64 x.1,.int .i64 x.2]) (.agg #[.int .i64 y.1,.int .i64 y.2])) W=.ok (.bool f) W:=by
 have:=VS x y W;rw[h]at this;exact this
theorem Nt {x y:Pr}{f:Bool}(h:decide (x=y)=f)(W:World):Sem.run Tryz.prog (binOp .neq 35 (.agg #[.int .i64 x.1,.int .i64 x.2]) (.agg #[.int .i64 y.1,.int .i64 y.2])) W=.ok (.bool !f) W:=by
 have:=VT x y W;rw[h]at this;exact this
theorem U9 (x y:Pr)(op:BinOp)(a b:Operand)(W:World):Sem.run Tryz.prog (eqGuard op 35 a b (.agg #[.int .i64 x.1,.int .i64 x.2]) (.agg #[.int .i64 y.1,.int .i64 y.2])) W=.ok () W:=Y8 op a b x y W
theorem Fz (va vb:Value)(a b:List Pr)(w:World)(ha:Row ax 2 w va a)(hb:Row ax 2 w vb b)(hl:a.length<=1000000)(hl2:b.length<=1000000):
  Calls Tryz.prog 16 #[va,vb] w fun e w'=>e=.returned (.bool (decide (a=b)))∧Below w.heap.size w w':=by
 obtain⟨ao,ca,rfl,a1,a2,a3⟩:=ha;obtain⟨bo,cb,rfl,b1,b2,b3⟩:=hb;have A3:Aside (a≠[]->∃b off,ao=some ⟨b,off,none⟩∧b<w.heap.size∧cx ax 2 w b off a):=a3;have B3:Aside (b≠[]->∃b' off,bo=some ⟨b',off,none⟩∧b'<w.heap.size∧cx ax 2 w b' off b):=b3;clear a3 b3;by_cases hlen:a.length=b.length
 ·have HL:Hid (a.length=b.length):=hlen;have hle1:a.length<=b.length:=by omega
  have hle2:b.length<=a.length:=by omega
  have hneq:((a.length:Int) != (b.length:Int))=false:=by simp;omega
  clear hlen;go_enter Tryz.func16,Tryz.ntmps16;go_wp2
  go_loopg [5] a.length (fun kx s5 wr=>∃(i:Nat),s5=.int .i64 i∧i<=a.length∧a.length-i<=kx∧Hid (GR w wr)∧Hid (a.take i=b.take i))
  case atStart=>exact⟨0,rfl,Nat.zero_le _,Nat.le_refl _,GR.refl _,by simp[Hid]⟩
  case round=>
   obtain⟨i,rfl,hi,hki,HG,HN⟩:=hrel;by_cases hil:i<a.length
   ·have dO:(i:Int)< (a.length:Int):=by omega
    have zl:i<b.length:=by omega
    obtain⟨ba,oa,rfl,G6,x1,x2⟩:=cW A3.out i hil HG.out.below;obtain⟨bb,ob,rfl,hbb,y1,y2⟩:=cW B3.out i zl HG.out.below;have T:Hid (a.take (i+1)=a.take i++[a[i]!]):=bU hil;have T2:Hid (b.take (i+1)=b.take i++[b[i]!]):=bU zl;generalize a[i]! =x at*;generalize b[i]! =y at*;have HD:Hid (GR w wr.drew):=HG.out.drew;by_cases he:x=y
    ·have E:=fun W=>Nt (x:=x) (y:=y) (decide_eq_true he) W;have G:=U9 x y;have HE:Hid (x=y):=he;clear he;simp only[Bool.not_true]at E
     go_wp2_with fail
     go_region
     all_goals go_wp2
     all_goals go_roundg (a.length- (i+1))
     case measure=>omega
     case rel=>
      refine⟨i+1,by go_num,by omega,Nat.le_refl _,HD,?_⟩;show _=_;rw[T.out,T2.out,HN.out,HE.out]
    ·have E:=fun W=>Nt (x:=x) (y:=y) (decide_eq_false he) W;have G:=U9 x y;have HE:Hid (x≠y):=he;clear he;simp only[Bool.not_false]at E
     go_wp2_with fail
     go_region
     all_goals go_wp2
     all_goals go_ret
     all_goals
      refine⟨dG (decide_eq_false fun h=>HE.out ?_).symm,HD.out.below⟩;subst h;have:=T.out.symm.trans T2.out;simpa using this
   ·have dO:¬(i:Int)< (a.length:Int):=by omega
    obtain rfl:i=a.length:=by omega
    go_wp2;go_ret;refine⟨dG (decide_eq_true ?_).symm,HG.out.below⟩;have:=HN.out;rw[List.take_length,HL.out,List.take_length]at this;exact this
 ·have hneq:((a.length:Int) != (b.length:Int))=true:=by simp;omega
  have HL:Hid (a.length≠b.length):=hlen;clear hlen;go_enter Tryz.func16,Tryz.ntmps16;go_wp2;go_ret;exact⟨dG (decide_eq_false fun h=>HL.out (by rw[h])).symm,Below.refl _ _⟩
end P
namespace P
theorem VY:(Tryz.prog.info? 35).map (fun i=>(i.zero,i.size,i.bytes))=some (some (.agg #[.int .i64 0,.int .i64 0]),2,16):=by kernel_rfl
def l8 (x y:Pr):Bool:=decide (x.1<y.1∨x.1=y.1∧x.2<y.2)
theorem sX (x:Pr):l8 x x=false:=by unfold l8;rw[decide_eq_false_iff_not];omega
theorem FC {x y z:Pr}(h:l8 x y=true)(k:l8 y z=true):l8 x z=true:=by
 unfold l8 at*;rw[decide_eq_true_eq]at*;omega
theorem FD {x y:Pr}(h:l8 x y=true):l8 y x=false:=by
 unfold l8 at*;rw[decide_eq_true_eq]at h;rw[decide_eq_false_iff_not];omega
theorem FE {x y:Pr}(h:l8 x y=false)(k:l8 y x=false):x=y:=by
 unfold l8 at*;rw[decide_eq_false_iff_not]at*;obtain⟨a,b⟩:=x;obtain⟨c,d⟩:=y;simp only at h k;rw[Prod.mk.injEq];omega
def SQ (l:List Pr):Prop:=l.Pairwise fun x y=>l8 x y=true
theorem SQ.tail {x:Pr}{l:List Pr}(h:SQ (x::l)):SQ l:=(List.pairwise_cons.1 h).2
theorem SQ.head {x:Pr}{l:List Pr}(h:SQ (x::l)):∀y∈l,l8 x y=true:=(List.pairwise_cons.1 h).1
theorem BI:∀(l l':List Pr),SQ l->SQ l'->(∀x,x∈l↔x∈l')->l=l'
 |[],[],_,_,_=>rfl
 |[],y::l',_,_,h=>absurd ((h y).2 (List.mem_cons_self ..)) (by simp)
 |x::l,[],_,_,h=>absurd ((h x).1 (List.mem_cons_self ..)) (by simp)
 |x::l,y::l',h1,h2,h=>by
  have e:x=y:=by
   rcases List.mem_cons.1 ((h x).1 (List.mem_cons_self ..))with e|e
   ·exact e
   ·rcases List.mem_cons.1 ((h y).2 (List.mem_cons_self ..))with e'|e'
    ·exact e'.symm
    ·have a:=h1.head y e';have b:=h2.head x e;rw[FD a]at b;cases b
  subst e;rw[BI l l' h1.tail h2.tail fun z=>?_];constructor
  ·intro hz;rcases List.mem_cons.1 ((h z).1 (List.mem_cons_of_mem _ hz))with e|e
   ·subst e;have:=h1.head z hz;rw[sX]at this;cases this
   ·exact e
  ·intro hz;rcases List.mem_cons.1 ((h z).2 (List.mem_cons_of_mem _ hz))with e|e
   ·subst e;have:=h2.head z hz;rw[sX]at this;cases this
   ·exact e
def oN (p:Pr):Bool->List Pr->List Pr
 |d,[]=>if d=true then []else [p]
 |d,x::l=>if(!d&&l8 p x)=true then p::x::oN p true l else x::oN p d l
theorem iY (p:Pr):∀l,oN p true l=l
 |[]=>rfl
 |x::l=>by rw[oN,if_neg (by simp),iY p l]
theorem vM (p:Pr):∀l,SQ l->p∉l->SQ (oN p false l)∧∀x,x∈oN p false l↔x=p∨x∈l
 |[],_,_=>⟨List.pairwise_singleton _ _,fun x=>by simp[oN]⟩
 |y::l,h,hp=>by
  unfold oN;by_cases hl:l8 p y=true
  ·rw[if_pos (by simp[hl]),iY];refine⟨List.pairwise_cons.2 ⟨fun z hz=>?_,h⟩,fun x=>by simp⟩;rcases List.mem_cons.1 hz with rfl|hz
   ·exact hl
   ·exact FC hl (h.head z hz)
  ·have hl':l8 p y=false:=by simpa using hl
   rw[if_neg (by simp[hl'])];have hp2:p≠y∧p∉l:=by simpa using hp
   obtain⟨i1,i2⟩:=vM p l h.tail hp2.2;have hyp:l8 y p=true:=by
    cases hc:l8 y p with
    |true=>rfl
    |false=>exact absurd (FE hl' hc) hp2.1
   refine⟨List.pairwise_cons.2 ⟨fun z hz=>?_,i1⟩,fun x=>?_⟩
   ·rcases(i2 z).1 hz with rfl|hz
    ·exact hyp
    ·exact h.head z hz
   ·rw[List.mem_cons,i2 x,List.mem_cons];constructor
    ·rintro(h|h|h)
     ·exact Or.inr (Or.inl h)
     ·exact Or.inl h
     ·exact Or.inr (Or.inr h)
    ·rintro(h|h|h)
     ·exact Or.inr (Or.inl h)
     ·exact Or.inl h
     ·exact Or.inr (Or.inr h)
def lJ (l:List Pr)(p:Pr):List Pr:=oN p (decide (p∈l)) l
theorem zM (l:List Pr)(p:Pr)(h:SQ l):SQ (lJ l p)∧∀x,x∈lJ l p↔x=p∨x∈l:=by
 unfold lJ;by_cases hp:p∈l
 ·rw[decide_eq_true hp,iY];refine⟨h,fun x=>⟨Or.inr,?_⟩⟩;rintro(rfl|h)
  ·exact hp
  ·exact h
 ·rw[decide_eq_false hp];exact vM p l h hp
theorem sY (p:Pr):∀d l,(oN p d l).length<=l.length+1
 |d,[]=>by cases d<;>simp[oN]
 |d,x::l=>by
  unfold oN;split
  ·rw[iY];simp
  ·have:=sY p d l;simp only[List.length_cons];omega
def fQ (l:List Pr)(p:Pr):List Pr:=l.filter fun x=>!decide (x=p)
theorem sZ (l:List Pr)(p:Pr)(h:SQ l):SQ (fQ l p)∧∀x,x∈fQ l p↔x∈l∧x≠p:=
 ⟨List.Pairwise.filter _ h,fun x=>by simp[fQ,List.mem_filter]⟩
theorem FH (x y:Pr)(w:World):Calls Tryz.prog 59 #[.agg #[.int .i64 x.1,.int .i64 x.2],.agg #[.int .i64 y.1,.int .i64 y.2]] w fun e w'=>e=.returned (.bool (l8 x y))∧∃q os',w'=grow (w.drewN q) os':=by
 obtain⟨a,b⟩:=x;obtain⟨c,d⟩:=y;have HG:Hid (∃q os',((w.alloc (.cells #[.int .i64 a,.int .i64 b] 35)).alloc (.cells #[.int .i64 c,.int .i64 d] 35))=grow (w.drewN q) os'):=((GR.refl w).alloc _).alloc _;simp only;by_cases h1:a<c
 ·have E:Hid (l8 (a,b) (c,d)=true):=by simp[Hid,l8,h1]
  go_enter Tryz.func59,Tryz.ntmps59;go_wp2;go_ret;exact⟨dG E.out.symm,HG.out⟩
 ·by_cases h2:a=c
  ·subst h2;by_cases h3:b<d
   ·have E:Hid (l8 (a,b) (a,d)=true):=by simp[Hid,l8,h3]
    go_enter Tryz.func59,Tryz.ntmps59;go_wp2;go_ret;exact⟨dG E.out.symm,HG.out⟩
   ·have E:Hid (l8 (a,b) (a,d)=false):=by simp[Hid,l8,h3]
    go_enter Tryz.func59,Tryz.ntmps59;go_wp2;go_ret;exact⟨dG E.out.symm,HG.out⟩
  ·have E:Hid (l8 (a,b) (c,d)=false):=by simp[Hid,l8,h1,h2]
   have h2':(a==c)=false:=beq_eq_false_iff_ne.2 h2;clear h2;go_enter Tryz.func59,Tryz.ntmps59;go_wp2;go_ret;exact⟨dG E.out.symm,HG.out⟩
theorem ki (v:Value)(l:List Pr)(p:Pr)(w:World)(h:Row ax 2 w v l)(hl:l.length<=1000000):
  Calls Tryz.prog 11 #[v,.agg #[.int .i64 p.1,.int .i64 p.2]] w fun e w'=>e=.returned (.bool (decide (p∈l)))∧∃q os',w'=grow (w.drewN q) os':=by
 obtain⟨ao,cap,rfl,h1,h2,h3⟩:=h;have H3:Aside (l≠[]->∃b off,ao=some ⟨b,off,none⟩∧b<w.heap.size∧cx ax 2 w b off l):=h3;have FI:Hid (GR w (w.alloc (.cells #[.int .i64 p.1,.int .i64 p.2] 35))):=(GR.refl w).alloc _;clear h3;go_enter Tryz.func11,Tryz.ntmps11;go_wp2
 go_loopg [5] l.length (fun kx s5 wr=>∃(i:Nat),s5=.int .i64 i∧i<=l.length∧l.length-i<=kx∧Hid (GR w wr)∧wr.cell? ⟨w.heap.size,0,none⟩=some (.int .i64 p.1)∧wr.cell? ⟨w.heap.size,1,none⟩=some (.int .i64 p.2)∧Hid (p∉l.take i))
 case atStart=>exact⟨0,rfl,Nat.zero_le _,Nat.le_refl _,FI,by simp,by simp,by simp[Hid]⟩
 case round=>
  clear FI;obtain⟨i,rfl,hi,hki,HG,c0,c1,HN⟩:=hrel;by_cases hil:i<l.length
  ·have dO:(i:Int)< (l.length:Int):=by omega
   obtain⟨b,off,rfl,hb,x1,x2⟩:=cW H3.out i hil HG.out.below;have T:Hid (l.take (i+1)=l.take i++[l[i]!]):=bU hil;have M:Hid (l[i]! ∈l):=j6 hil;generalize l[i]! =x at*;have HD:Hid (GR w wr.drew):=HG.out.drew;by_cases he:x=p
   ·have E:=fun W=>VX (x:=x) (y:=p) (decide_eq_true he) W;have G:=U9 x p;have HE:Hid (x=p):=he;clear he
    go_wp2_with fail
    go_region
    all_goals go_wp2
    all_goals go_ret
    all_goals exact⟨dG (decide_eq_true (by rw[<-HE.out];exact M.out)).symm,HD.out⟩
   ·have E:=fun W=>VX (x:=x) (y:=p) (decide_eq_false he) W;have G:=U9 x p;have HE:Hid (x≠p):=he;clear he
    go_wp2_with fail
    go_region
    all_goals go_wp2
    all_goals go_roundg (l.length- (i+1))
    case measure=>omega
    case rel=>
     refine⟨i+1,by go_num,by omega,Nat.le_refl _,HD,c0,c1,?_⟩;show p∉_;rw[T.out,List.mem_append,List.mem_singleton];rintro(h|h)
     ·exact HN.out h
     ·exact HE.out h.symm
  ·have dO:¬(i:Int)< (l.length:Int):=by omega
   obtain rfl:i=l.length:=by omega
   rw[List.take_length]at HN;go_wp2;go_ret;exact⟨dG (decide_eq_false HN.out).symm,HG.out⟩
abbrev gP (base:Nat)(W:World)(v:Value)(l:List Pr):Prop:=W.ownsRow base 35 2 v l.length (flatK ax 2 l.toArray).toList
theorem gP.empty (base:Nat)(W:World):gP base W (.slice none 0 0) []:=by unfold gP;simpa[flatK]using World.ownsRow_nil W base 35 2
theorem gP.own {base:Nat}{W:World}{v:Value}{l:List Pr}(h:gP base W v l):Own ax 2 base W v l:=bI (by decide) h
theorem gP.step {base:Nat}{W w1:World}{v v':Value}{l:List Pr}{x:Pr}(hbase:base<=W.heap.size)(h:gP base W v l)(hgrow:W.grownBy w1 v.ownBlock)(hown:w1.ownsRow base 35 2 v' (l.length+1) ((flatK ax 2 l.toArray).toList++ax x)):
  gP base w1 v' (l++[x])∧∀w0,Below base w0 W->Below base w0 w1:=by
 refine⟨?_,fun w0 hb=>hb.grown hgrow hbase fun k hk=>?_⟩
 ·show w1.ownsRow base 35 2 v' (l++[x]).length (flatK ax 2 (l++[x]).toArray).toList;rw[List.length_append,List.length_singleton,cE ax 2 cD];exact hown
 ·rcases fJ h with hr| ⟨r,hr,hle⟩
  ·rw[hr]at hk;cases hk
  ·rw[hr]at hk;cases hk;exact hle
theorem FK {ops:Array Oper}{rest:List Oper}{o:Oper}{a:Act}{Q:Exit->Act->World->Prop}{w:World}(hgd:o.guard=.none)(s x:Operand)
  (ho:o.op=.call {callee:=.builtin .append,args:=#[s,x],argTypes:=#[29,29]})(base:Nat)(v:Value)(l:List Pr)(hs:a.eval s=v)(hown:gP base w v l)
  (b off c:Nat)(hx:a.eval x=.slice (some ⟨b,off,.none⟩) 1 c)(y:Pr)(c0:w.cell? ⟨b,off,.none⟩=some (.int .i64 y.1))(c1:w.cell? ⟨b,off+1,.none⟩=some (.int .i64 y.2))(hl:l.length<1000000)(hbase:base<=w.heap.size)
  (h:∀ao n c w',gP base w' (.slice ao n c) (l++[y])->(∀w0,Below base w0 w->Below base w0 w')->wpList Tryz.prog ops Q rest (a.put o.dst (.slice ao n c)) w'):wpList Tryz.prog ops Q (o::rest) a w:=by
 obtain⟨i0,hi,hz0,hz1,hz2⟩:=info_parts VY;refine wpList_append_own w hgd s x 29 ho base 35 i0 _ 2 16 Tryz.underlying29 hi hz0 hz1 hz2 rfl (by decide) v _ _ hs hown ⟨b,off,.none⟩ 1 c (ax y) hx rfl ?_ (fh y) (by unfold maxLen;omega) (by omega) hbase ?_
 ·intro j u hj;simp only[ax]at hj
  match j,hj with
  |0,hj=>simp at hj;subst hj;simpa[Addr.add]using c0
  |1,hj=>simp at hj;subst hj;simpa[Addr.add]using c1
 ·intro v' w' h1 h2 _;obtain⟨s1,s2⟩:=gP.step hbase hown h2 h1;obtain⟨cT,n',c',rfl⟩:∃ao n c,v'=.slice ao n c:=by
   rcases h1.2 with⟨h,_⟩| ⟨g,cap,cur,h,_⟩
   ·exact⟨_,_,_,h⟩
   ·exact⟨_,_,_,h⟩
  exact h _ _ _ _ s1 s2
theorem xt (v:Value)(l:List Pr)(p:Pr)(w:World)(h:Row ax 2 w v l)(hl:l.length<=100000):
  Calls Tryz.prog 37 #[v,.agg #[.int .i64 p.1,.int .i64 p.2]] w fun e w'=>∃v',e=.returned v'∧Own ax 2 w.heap.size w' v' (fQ l p)∧Below w.heap.size w w':=by
 obtain⟨ao,cap,rfl,h1,h2,h3⟩:=h;have H3:Aside (l≠[]->∃b off,ao=some ⟨b,off,none⟩∧b<w.heap.size∧cx ax 2 w b off l):=h3;have B0:Hid (Below w.heap.size w (w.alloc (.cells #[.int .i64 p.1,.int .i64 p.2] 35))):=(Below.refl _ w).alloc (Nat.le_refl _) _;have p0:(w.alloc (.cells #[.int .i64 p.1,.int .i64 p.2] 35)).cell? ⟨w.heap.size,0,none⟩=some (.int .i64 p.1):=by simp
 have p1:(w.alloc (.cells #[.int .i64 p.1,.int .i64 p.2] 35)).cell? ⟨w.heap.size,1,none⟩=some (.int .i64 p.2):=by simp
 have hz:(w.alloc (.cells #[.int .i64 p.1,.int .i64 p.2] 35)).heap.size>=w.heap.size+1:=by simp
 clear h3;go_enter Tryz.func37,Tryz.ntmps37;go_wp2;generalize w.alloc (.cells #[.int .i64 p.1,.int .i64 p.2] 35)=w0 at B0 p0 p1 hz⊢;have P0:Hid (w0.cell? ⟨w.heap.size,0,none⟩=some (.int .i64 p.1)):=p0;have P1:Hid (w0.cell? ⟨w.heap.size,1,none⟩=some (.int .i64 p.2)):=p1;clear p0 p1
 go_loopg [5,6] l.length (fun kx s5 s6 wr=>∃(i:Nat) (cT:Option Addr) (n' c':Nat),s5=.slice cT n' c'∧s6=.int .i64 i∧i<=l.length∧l.length-i<=kx∧Aside (gP w0.heap.size wr (.slice cT n' c') (fQ (l.take i) p))∧Hid (Below w0.heap.size w0 wr))
 case atStart=>exact⟨0,none,0,0,rfl,rfl,Nat.zero_le _,Nat.le_refl _,gP.empty _ _,Below.refl _ _⟩
 case round=>
  obtain⟨i,cT,n',c',rfl,rfl,hi,hki,HO,HB⟩:=hrel;have hsz:w0.heap.size<=wr.heap.size:=HB.out.size;by_cases hil:i<l.length
  ·have dO:(i:Int)< (l.length:Int):=by omega
   have BB:Hid (Below w.heap.size w wr):=B0.out.trans (HB.out.mono (by omega));obtain⟨b,off,rfl,hb,x1,x2⟩:=cW H3.out i hil BB.out;have c0:wr.cell? ⟨w.heap.size,0,none⟩=some (.int .i64 p.1):=by rw[HB.out.cell (p:=⟨w.heap.size,0,none⟩) (by simp;omega)];exact P0.out
   have c1:wr.cell? ⟨w.heap.size,1,none⟩=some (.int .i64 p.2):=by rw[HB.out.cell (p:=⟨w.heap.size,1,none⟩) (by simp;omega)];exact P1.out
   have T:Hid (l.take (i+1)=l.take i++[l[i]!]):=bU hil;have HL:(fQ (l.take i) p).length<=100000:=Nat.le_trans (List.length_filter_le _ _) (by simp;omega);generalize l[i]! =x at*;have HD:Hid (Below w0.heap.size w0 wr.drew):=HB.out.drew;have yA:Aside (gP w0.heap.size wr.drew (.slice cT n' c') (fQ (l.take i) p)):=by have:=cA HO.out 1 #[];rw[grow_empty]at this;exact this
   by_cases he:x=p
   ·have E:=fun W=>Nt (x:=x) (y:=p) (decide_eq_true he) W;have G:=U9 x p;have HE:Hid (x=p):=he;clear he;simp only[Bool.not_true]at E
    go_wp2_with fail
    go_region
    all_goals go_wp2
    all_goals go_roundg (l.length- (i+1))
    case measure=>omega
    case rel=>
     refine⟨i+1,cT,n',c',rfl,by go_num,by omega,Nat.le_refl _,?_,HD⟩;have e:fQ (l.take (i+1)) p=fQ (l.take i) p:=by rw[T.out,fQ,List.filter_append];simp[HE.out,fQ]
     rw[e];exact yA
   ·have E:=fun W=>Nt (x:=x) (y:=p) (decide_eq_false he) W;have G:=U9 x p;have HE:Hid (x≠p):=he;clear he;simp only[Bool.not_false]at E
    go_wp2_with fail
    go_region
    all_goals
     have x3:wr.drew.cell? ⟨b,off+i*2,none⟩=some (.int .i64 x.1):=x1;have x4:wr.drew.cell? ⟨b,off+i*2+1,none⟩=some (.int .i64 x.2):=x2;have hs3:wr.drew.heap.size=wr.heap.size:=rfl;clear x1 x2 c0 c1;generalize wr.drew=w2 at HD yA x3 x4 hs3⊢;have hs4:w0.heap.size<=w2.heap.size:=by omega
     clear hs3
     go_wp2_with (at_builtin;refine FK rfl _ _ rfl w0.heap.size _ _ rfl (yA.out.alloc _) w2.heap.size 0 1 rfl x (by simp) (by simp) (by omega) (by simp;omega) ?_)
     intro gR n2 c2 w3 pJ HB3;have td:Aside (gP w0.heap.size w3 (.slice gR n2 c2) (fQ (l.take i) p++[x])):=pJ;have pW:Hid (Below w0.heap.size w0 w3):=HB3 _ (HD.out.alloc hs4 _);clear pJ HB3;go_wp2
     go_roundg (l.length- (i+1))
    case measure=>omega
    case rel=>
     refine⟨i+1,gR,n2,c2,rfl,by go_num,by omega,Nat.le_refl _,?_,pW⟩;have e:fQ (l.take (i+1)) p=fQ (l.take i) p++[x]:=by rw[T.out,fQ,List.filter_append];simp[HE.out,fQ]
     rw[e];exact td
  ·have dO:¬(i:Int)< (l.length:Int):=by omega
   obtain rfl:i=l.length:=by omega
   rw[List.take_length]at HO;go_wp2;go_ret;exact⟨_,rfl,Own.mono HO.out.own (by omega),B0.out.trans (HB.out.mono (by omega))⟩
theorem DT (v:Value)(l:List Pr)(p:Pr)(w:World)(h:Row ax 2 w v l)(hl:l.length<=50000):
  Calls Tryz.prog 36 #[v,.agg #[.int .i64 p.1,.int .i64 p.2]] w fun e w'=>∃v',e=.returned v'∧Own ax 2 w.heap.size w' v' (lJ l p)∧Below w.heap.size w w':=by
 have mixed:Tryz.prog.follows .mixedOrders=true:=by kernel_rfl
 have Y9:Below w.heap.size w (w.alloc (.cells #[.int .i64 p.1,.int .i64 p.2] 35)):=(Below.refl _ w).alloc (Nat.le_refl _) _;have HC:Hid _:=ki v l p _ (h.below Y9) (by omega);obtain⟨ao,cap,rfl,h1,h2,h3⟩:=h;have H3:Aside (l≠[]->∃b off,ao=some ⟨b,off,none⟩∧b<w.heap.size∧cx ax 2 w b off l):=h3;have B0:Hid (Below w.heap.size w (w.alloc (.cells #[.int .i64 p.1,.int .i64 p.2] 35))):=Y9;have p0:(w.alloc (.cells #[.int .i64 p.1,.int .i64 p.2] 35)).cell? ⟨w.heap.size,0,none⟩=some (.int .i64 p.1):=by simp
 have p1:(w.alloc (.cells #[.int .i64 p.1,.int .i64 p.2] 35)).cell? ⟨w.heap.size,1,none⟩=some (.int .i64 p.2):=by simp
 have hz:(w.alloc (.cells #[.int .i64 p.1,.int .i64 p.2] 35)).heap.size>=w.heap.size+1:=by simp
 have HP:Hid (lJ l p=oN p (decide (p∈l)) l):=rfl;clear h3 Y9;generalize decide (p∈l)=d0 at HC HP;go_enter Tryz.func36,Tryz.ntmps36
 go_wp2_with fail
 generalize w.alloc (.cells #[.int .i64 p.1,.int .i64 p.2] 35)=w0 at B0 p0 p1 hz HC⊢;have Za:Aside (∀W,Below w0.heap.size w0 W->W.cell? ⟨w.heap.size,0,none⟩=some (.int .i64 p.1)∧W.cell? ⟨w.heap.size,1,none⟩=some (.int .i64 p.2)):=fun W hW=>⟨by rw[hW.cell (p:=⟨w.heap.size,0,none⟩) (by simp;omega)];exact p0,by rw[hW.cell (p:=⟨w.heap.size,1,none⟩) (by simp;omega)];exact p1⟩;clear p0 p1;refine Calls.mono HC.out ?_;rintro e w1 ⟨rfl,hg1⟩;have B1:Hid (Below w0.heap.size w0 w1):=GR.below hg1;clear hg1 HC;go_wp2
 go_loopg [5,6,7] l.length (fun kx s5 s6 s7 wr=>∃(i:Nat) (cT:Option Addr) (n' c':Nat) (dn:Bool) (out:List Pr),s5=.slice cT n' c'∧s6=.bool dn∧s7=.int .i64 i∧i<=l.length∧l.length-i<=kx∧out.length<=2*i∧Aside (gP w0.heap.size wr (.slice cT n' c') out)∧Hid (Below w0.heap.size w0 wr)∧Hid (out++oN p dn (l.drop i)=oN p d0 l))
 case atStart=>exact⟨0,none,0,0,d0,[],rfl,rfl,rfl,Nat.zero_le _,Nat.le_refl _,by simp,gP.empty _ _,B1,rfl⟩
 case round=>
  clear B1;obtain⟨i,cT,n',c',dn,out,rfl,rfl,rfl,hi,hki,hout,HO,HB,HE⟩:=hrel;have hsz:w0.heap.size<=wr.heap.size:=HB.out.size;by_cases hil:i<l.length
  ·have dO:(i:Int)< (l.length:Int):=by omega
   obtain⟨b,off,rfl,hb,x1,x2⟩:=cW H3.out i hil B0.out;have HD:Hid (l.drop i=l[i]! ::l.drop (i+1)):=oD hil;generalize l[i]! =x at*;have XN:Aside (∀W,Below w0.heap.size w0 W->W.cell? ⟨b,off+i*2,none⟩=some (.int .i64 x.1)∧W.cell? ⟨b,off+i*2+1,none⟩=some (.int .i64 x.2)):=fun W hW=>⟨by rw[hW.cell (p:=⟨b,off+i*2,none⟩) (by simp;omega)];exact x1,by rw[hW.cell (p:=⟨b,off+i*2+1,none⟩) (by simp;omega)];exact x2⟩;clear x1 x2;cases dn with
   |true=>
    have HE2:Hid ((out++[x])++oN p true (l.drop (i+1))=oN p d0 l):=by
     show _=_;rw[<-HE.out,HD.out,iY,iY];simp
    clear HE HD
    go_wp2_with fail
    go_quiet_grown (fail)
    have yA:Aside (gP w0.heap.size (grow (wr.drewN nq) osq) (.slice cT n' c') out):=cA HO.out nq osq;have HB2:Hid (Below w0.heap.size w0 (grow (wr.drewN nq) osq)):=below_grown HB.out hsz nq osq;clear HO HB;generalize grow (wr.drewN nq) osq=w2 at yA HB2⊢;have hs2:w0.heap.size<=w2.heap.size:=HB2.out.size;obtain⟨x3,x4⟩:=XN.out w2 HB2.out
    go_wp2_with (at_builtin;refine FK rfl _ _ rfl w0.heap.size _ out rfl (yA.out.alloc _) w2.heap.size 0 1 rfl x (by simp) (by simp) (by omega) (by simp;omega) ?_)
    intro gR n2 c2 w3 pJ HB3;have td:Aside (gP w0.heap.size w3 (.slice gR n2 c2) (out++[x])):=pJ;have pW:Hid (Below w0.heap.size w0 w3):=HB3 _ (HB2.out.alloc hs2 _);clear pJ HB3 yA HB2 x3 x4;go_wp2
    go_roundg (l.length- (i+1))
    case measure=>omega
    case rel=>exact⟨i+1,gR,n2,c2,true,out++[x],rfl,rfl,by go_num,by omega,Nat.le_refl _,by simp;omega,td,pW,HE2⟩
   |false=>
    obtain⟨q0,q1⟩:=Za.out wr HB.out;obtain⟨y0,y1⟩:=XN.out wr HB.out;have Q0:∀n os,(grow (wr.drewN n) os).cell? ⟨w.heap.size,0,none⟩=some (.int .i64 p.1):=cell_grown (by simp;omega) q0;have Q1:∀n os,(grow (wr.drewN n) os).cell? ⟨w.heap.size,1,none⟩=some (.int .i64 p.2):=cell_grown (by simp;omega) q1;have X1:∀n os,(grow (wr.drewN n) os).cell? ⟨b,off+i*2,none⟩=some (.int .i64 x.1):=cell_grown (by simp;omega) y0;have X2:∀n os,(grow (wr.drewN n) os).cell? ⟨b,off+i*2+1,none⟩=some (.int .i64 x.2):=cell_grown (by simp;omega) y1;have Hb:∀n os,Calls Tryz.prog 59 #[.agg #[.int .i64 p.1,.int .i64 p.2],.agg #[.int .i64 x.1,.int .i64 x.2]] (grow (wr.drewN n) os) fun e w'=>e=.returned (.bool (l8 p x))∧∃q os',w'=grow ((grow (wr.drewN n) os).drewN q) os':=fun n os=>FH p x _;clear q0 q1 y0 y1;cases hf:l8 p x with
    |true=>
     rw[hf]at Hb;have HE2:Hid ((out++[p,x])++oN p true (l.drop (i+1))=oN p d0 l):=by
      show _=_;rw[<-HE.out,HD.out,oN,if_pos (by rw[hf];rfl)];simp
     clear HE HD hf
     go_wp2_with fail
     go_quiet_grown (first| (go_at_call 59;refine Calls.grown_of (Hb _ _)))
     have yA:Aside (gP w0.heap.size (grow (wr.drewN nq) osq) (.slice cT n' c') out):=cA HO.out nq osq;have HB2:Hid (Below w0.heap.size w0 (grow (wr.drewN nq) osq)):=below_grown HB.out hsz nq osq;clear HO HB Hb Q0 Q1 X1 X2;generalize grow (wr.drewN nq) osq=w2 at yA HB2⊢;have hs2:w0.heap.size<=w2.heap.size:=HB2.out.size;obtain⟨x3,x4⟩:=Za.out w2 HB2.out
     go_wp2_with (at_builtin;refine FK rfl _ _ rfl w0.heap.size _ out rfl (yA.out.alloc _) w2.heap.size 0 1 rfl p (by simp) (by simp) (by omega) (by simp;omega) ?_)
     intro gR n2 c2 w3 pJ HB3;have td:Aside (gP w0.heap.size w3 (.slice gR n2 c2) (out++[p])):=pJ;have pW:Hid (Below w0.heap.size w0 w3):=HB3 _ (HB2.out.alloc hs2 _);have hs3:w0.heap.size<=w3.heap.size:=pW.out.size;clear pJ HB3 yA HB2 x3 x4;obtain⟨x3,x4⟩:=XN.out w3 pW.out
     go_wp2_with (at_builtin;refine FK rfl _ _ rfl w0.heap.size _ (out++[p]) rfl (td.out.alloc _) w3.heap.size 0 1 rfl x (by simp) (by simp) (by simp;omega) (by simp;omega) ?_)
     intro wZ n3 c3 w4 HO5 Nu;have HO6:Aside (gP w0.heap.size w4 (.slice wZ n3 c3) (out++[p,x])):=HO5;have HB6:Hid (Below w0.heap.size w0 w4):=Nu _ (pW.out.alloc hs3 _);clear HO5 Nu td pW x3 x4;go_wp2
     go_roundg (l.length- (i+1))
     case measure=>omega
     case rel=>exact⟨i+1,wZ,n3,c3,true,out++[p,x],rfl,rfl,by go_num,by omega,Nat.le_refl _,by simp;omega,HO6,HB6,HE2⟩
    |false=>
     rw[hf]at Hb;have HE2:Hid ((out++[x])++oN p false (l.drop (i+1))=oN p d0 l):=by
      show _=_;rw[<-HE.out,HD.out,oN,if_neg (by rw[hf];simp)];simp
     clear HE HD hf
     go_wp2_with fail
     go_quiet_grown (first| (go_at_call 59;refine Calls.grown_of (Hb _ _)))
     have yA:Aside (gP w0.heap.size (grow (wr.drewN nq) osq) (.slice cT n' c') out):=cA HO.out nq osq;have HB2:Hid (Below w0.heap.size w0 (grow (wr.drewN nq) osq)):=below_grown HB.out hsz nq osq;clear HO HB Hb Q0 Q1 X1 X2;generalize grow (wr.drewN nq) osq=w2 at yA HB2⊢;have hs2:w0.heap.size<=w2.heap.size:=HB2.out.size;obtain⟨x3,x4⟩:=XN.out w2 HB2.out
     go_wp2_with (at_builtin;refine FK rfl _ _ rfl w0.heap.size _ out rfl (yA.out.alloc _) w2.heap.size 0 1 rfl x (by simp) (by simp) (by omega) (by simp;omega) ?_)
     intro gR n2 c2 w3 pJ HB3;have td:Aside (gP w0.heap.size w3 (.slice gR n2 c2) (out++[x])):=pJ;have pW:Hid (Below w0.heap.size w0 w3):=HB3 _ (HB2.out.alloc hs2 _);clear pJ HB3 yA HB2 x3 x4;go_wp2
     go_roundg (l.length- (i+1))
     case measure=>omega
     case rel=>exact⟨i+1,gR,n2,c2,false,out++[x],rfl,rfl,by go_num,by omega,Nat.le_refl _,by simp;omega,td,pW,HE2⟩
  ·have dO:¬(i:Int)< (l.length:Int):=by omega
   obtain rfl:i=l.length:=by omega
   have HE2:Hid (out++oN p dn []=oN p d0 l):=by have:=HE.out;rw[List.drop_length]at this;exact this
   clear HE;cases dn with
   |true=>
    have AZ:Hid (lJ l p=out):=by rw[HP.out,<-HE2.out];simp[Hid,oN]
    go_wp2;go_ret;rw[AZ.out];exact⟨_,rfl,Own.mono HO.out.own (by omega),B0.out.trans (HB.out.mono (by omega))⟩
   |false=>
    have AZ:Hid (lJ l p=out++[p]):=by rw[HP.out,<-HE2.out];simp[Hid,oN]
    obtain⟨x3,x4⟩:=Za.out wr HB.out
    go_wp2_with (at_builtin;refine FK rfl _ _ rfl w0.heap.size _ out rfl (HO.out.alloc _) wr.heap.size 0 1 rfl p (by simp) (by simp) (by omega) (by simp;omega) ?_)
    intro gR n2 c2 w3 pJ HB3;have td:Aside (gP w0.heap.size w3 (.slice gR n2 c2) (out++[p])):=pJ;have pW:Hid (Below w0.heap.size w0 w3):=HB3 _ (HB.out.alloc hsz _);clear pJ HB3 x3 x4;go_wp2;go_ret;rw[AZ.out];exact⟨_,rfl,Own.mono td.out.own (by omega),B0.out.trans (pW.out.mono (by omega))⟩
end P
namespace P
theorem oO (u v:Int)(w:World):Calls Tryz.prog 7 #[.int .i64 u,.int .i64 v] w fun e w'=>e=.returned (.agg #[.int .i64 (min u v),.int .i64 (max u v)])∧Below w.heap.size w w':=by
 go_enter Tryz.func7,Tryz.ntmps7;go_wp2;refine bodyPost_ret (v:=.agg #[.int .i64 (min u v),.int .i64 (max u v)]) ?_ rfl ⟨rfl,(Below.refl _ _).alloc (Nat.le_refl _) _⟩;rw[bC rfl];go_simp
def tj (u:Int)(L:List Pr):List Int:=(L.filter fun x=>decide (x.2=u)).map (·.1)
def xu (u:Int)(L:List Pr):List Int:=(L.filter fun x=>decide (x.1=u)).map (·.2)
def tu (A:List Pr)(u:Int):List Int:=tj u A++xu u A
theorem Nv {u:Int}{L M:List Pr}{x:Pr}(e:M=L++[x])(h:x.2=u):tj u L++[x.1]=tj u M:=by subst e;simp[tj,h]
theorem Sx {u:Int}{L M:List Pr}{x:Pr}(e:M=L++[x])(h:¬x.2=u):tj u M=tj u L:=by subst e;simp[tj,h]
theorem Nw {u:Int}{L M:List Pr}{x:Pr}(e:M=L++[x])(h:x.1=u):xu u L++[x.2]=xu u M:=by subst e;simp[xu,h]
theorem Sy {u:Int}{L M:List Pr}{x:Pr}(e:M=L++[x])(h:¬x.1=u):xu u M=xu u L:=by subst e;simp[xu,h]
theorem DU {u:Int}{L:List Pr}:(tj u L).length<=L.length:=by unfold tj;rw[List.length_map];exact List.length_filter_le _ _
theorem Nx {u:Int}{L:List Pr}:(xu u L).length<=L.length:=by unfold xu;rw[List.length_map];exact List.length_filter_le _ _
theorem Qq {w:World}{x:Int}{t:TypeId}{q:Nat}(e:q=w.heap.size):Row N.encI 1 (w.alloc (.cells #[.int .i64 x] t)) (.slice (some ⟨q,0,none⟩) 1 1) [x]:=
 ⟨_,1,rfl,Nat.le_refl _,(fun h=>by cases h),fun _=>⟨_,0,rfl,by rw[e];simp,fun t ht=>by
  obtain rfl:t=0:=by simpa using ht
  subst e
  simp[flatK,N.encI]⟩⟩
section
variable {w:World}{sp:Nat}{va:Value}{A:List Pr}
theorem VZ (u:Int)(c0:w.cell? ⟨sp,0,none⟩=some va)(hs:sp<w.heap.size)(hA:Row ax 2 w va A)(hl:A.length<=10000):Calls Tryz.prog 40 #[.pointer (some ⟨sp,0,none⟩),.int .i64 u] w fun e w'=>∃v',e=.returned v'∧N.dB w.heap.size w' v' (tu A u)∧Below w.heap.size w w':=by
 obtain⟨ao,cap,rfl,h1,h2,h3⟩:=hA;have H3:Aside (A≠[]->∃b off,ao=some ⟨b,off,none⟩∧b<w.heap.size∧cx ax 2 w b off A):=h3;have C0:Hid (∀w',Below w.heap.size w w'->w'.cell? ⟨sp,0,none⟩=some (.slice ao A.length cap)):=fun w' hb=>by rw[hb.cell (p:=⟨sp,0,none⟩) (by simpa using hs)];exact c0
 clear h3 c0;go_enter Tryz.func40,Tryz.ntmps40;go_wp2
 go_loopg [5,6] A.length (fun kx s5 s6 wr=>∃(i:Nat) (cT:Option Addr) (n' c':Nat),s5=.slice cT n' c'∧s6=.int .i64 i∧i<=A.length∧A.length-i<=kx∧Aside (N.dB w.heap.size wr (.slice cT n' c') (tj u (A.take i)))∧Hid (Below w.heap.size w wr))
 case atStart=>exact⟨0,none,0,0,rfl,rfl,Nat.zero_le _,Nat.le_refl _,N.dB.empty _ _,Below.refl _ _⟩
 case round=>
  obtain⟨i,cT,n',c',rfl,rfl,hi,hki,HO,HB⟩:=hrel;have hsz:w.heap.size<=wr.heap.size:=HB.out.size;have k0:=C0.out wr HB.out;by_cases hil:i<A.length
  ·have dO:(i:Int)< (A.length:Int):=by omega
   obtain⟨b,off,rfl,hb,x1,x2⟩:=cW H3.out i hil HB.out;have T:A.take (i+1)=A.take i++[A[i]!]:=bU hil;have HL:Hid ((tj u (A.take i)).length+1<1000000):=Nat.lt_of_le_of_lt (Nat.add_le_add_right DU 1) (by simp;omega);generalize A[i]! =x at*;by_cases he:x.2=u
   ·have Zb:(x.2==u)=true:=beq_iff_eq.2 he;have O2:Hid (tj u (A.take i)++[x.1]=tj u (A.take (i+1))):=Nv T he;clear T he
    go_wp2_with (at_builtin;refine N.Sh rfl _ _ rfl w.heap.size _ _ rfl ((HO.out.alloc _).alloc _) _ [x.1] rfl (Qq (by simp)) (by simpa using HL.out) (by simp;omega) _ O2.out ?_)
    intro gR n2 c2 w3 pJ HB3;have td:Aside (N.dB w.heap.size w3 (.slice gR n2 c2) (tj u (A.take (i+1)))):=pJ;have pW:Hid (Below w.heap.size w w3):=HB3 _ ((HB.out.alloc hsz _).alloc (by simp;omega) _);clear pJ HB3;go_wp2
    go_roundg (A.length- (i+1))
    case measure=>omega
    case rel=>exact⟨i+1,gR,n2,c2,rfl,by go_num,by omega,Nat.le_refl _,td,pW⟩
   ·have Zb:(x.2==u)=false:=beq_eq_false_iff_ne.2 he;have O2:Hid (tj u (A.take (i+1))=tj u (A.take i)):=Sx T he;clear T he;go_wp2
    go_roundg (A.length- (i+1))
    case measure=>omega
    case rel=>exact⟨i+1,cT,n',c',rfl,by go_num,by omega,Nat.le_refl _,by rw[O2.out];exact HO.out.alloc _,HB.out.alloc hsz _⟩
  ·have dO:¬(i:Int)< (A.length:Int):=by omega
   obtain rfl:i=A.length:=by omega
   rw[List.take_length]at HO;go_wp2
   go_loopg [5,8] A.length (fun kx s5 s8 wr=>∃(i:Nat) (cT:Option Addr) (n' c':Nat),s5=.slice cT n' c'∧s8=.int .i64 i∧i<=A.length∧A.length-i<=kx∧Aside (N.dB w.heap.size wr (.slice cT n' c') (tj u A++xu u (A.take i)))∧Hid (Below w.heap.size w wr))
   case atStart=>exact⟨0,cT,n',c',rfl,rfl,Nat.zero_le _,Nat.le_refl _,by rw[List.take_zero,show xu u []=[]from rfl,List.append_nil];exact HO.out,HB.out⟩
   case round=>
    clear HO HB hsz k0 hil dO hki hi;obtain⟨i,cT,n',c',rfl,rfl,hi,hki,HO,HB⟩:=hrel;have hsz:w.heap.size<=wr.heap.size:=HB.out.size;have k0:=C0.out wr HB.out;by_cases hil:i<A.length
    ·have dO:(i:Int)< (A.length:Int):=by omega
     obtain⟨b,off,rfl,hb,x1,x2⟩:=cW H3.out i hil HB.out;have T:A.take (i+1)=A.take i++[A[i]!]:=bU hil;have HL:Hid ((tj u A++xu u (A.take i)).length+1<1000000):=by
      have h1:=DU (u:=u) (L:=A);have h2:=Nx (u:=u) (L:=A.take i);rw[List.length_take]at h2;show _<_;rw[List.length_append];omega
     generalize A[i]! =x at*;by_cases he:x.1=u
     ·have Zb:(x.1==u)=true:=beq_iff_eq.2 he;have O2:Hid ((tj u A++xu u (A.take i))++[x.2]=tj u A++xu u (A.take (i+1))):=by show _=_;rw[List.append_assoc,Nw T he]
      clear T he
      go_wp2_with (at_builtin;refine N.Sh rfl _ _ rfl w.heap.size _ _ rfl ((HO.out.alloc _).alloc _) _ [x.2] rfl (Qq (by simp)) (by simpa using HL.out) (by simp;omega) _ O2.out ?_)
      intro gR n2 c2 w3 pJ HB3;have td:Aside (N.dB w.heap.size w3 (.slice gR n2 c2) (tj u A++xu u (A.take (i+1)))):=pJ;have pW:Hid (Below w.heap.size w w3):=HB3 _ ((HB.out.alloc hsz _).alloc (by simp;omega) _);clear pJ HB3;go_wp2
      go_roundg (A.length- (i+1))
      case measure=>omega
      case rel=>exact⟨i+1,gR,n2,c2,rfl,by go_num,by omega,Nat.le_refl _,td,pW⟩
     ·have Zb:(x.1==u)=false:=beq_eq_false_iff_ne.2 he;have O2:Hid (xu u (A.take (i+1))=xu u (A.take i)):=Sy T he;clear T he;go_wp2
      go_roundg (A.length- (i+1))
      case measure=>omega
      case rel=>exact⟨i+1,cT,n',c',rfl,by go_num,by omega,Nat.le_refl _,by rw[O2.out];exact HO.out.alloc _,HB.out.alloc hsz _⟩
    ·have dO:¬(i:Int)< (A.length:Int):=by omega
     obtain rfl:i=A.length:=by omega
     rw[List.take_length]at HO;go_wp2;go_ret;exact⟨_,rfl,HO,HB⟩
end
end P
end Go.Proofs.YtcenfooehjcddaaGreatDoor
namespace Go.Proofs.YtcenfooehjcddaaGreatDoor
namespace P
open Go.RowKit Go.Lib
open N (En bB)
def tN (b:Bool):ByteArray:=if b=true then⟨#[116]⟩else⟨#[110]⟩
theorem Ji {a b:Bool}(h:tN a=tN b):a=b:=by
 cases a<;>cases b<;>first|rfl| (revert h;decide+kernel)
def cM (u v:Int):ByteArray:=if dy u v=0 then⟨(65::gA u v).toArray⟩else⟨#[]⟩
theorem eN {u v:Int}:dy u v=0↔dC u=true∧dC v=true∧u≠v:=by
 unfold dy;split
 ·rename_i h
  have h:=Bool.and_eq_true_iff.1 h;split
  ·rename_i e
   exact⟨fun h=>(by cases h),fun h=>absurd e h.2.2⟩
  ·rename_i e
   exact⟨fun _=>⟨h.1,h.2,e⟩,fun _=>rfl⟩
 ·rename_i h
  exact⟨fun h=>(by cases h),fun e=>absurd (show(dC u&&dC v)=true by rw[e.1,e.2.1];rfl) h⟩
theorem l9 {u v:Int}(h:dy u v=0):dy v u=0:=by
 obtain⟨a,b,c⟩:=eN.1 h;exact eN.2 ⟨b,a,fun e=>c e.symm⟩
theorem Ny {u v:Int}(h:dy u v=0):gA u v=beBytes 4 u.toNat++beBytes 4 v.toNat:=by
 obtain⟨a,b,_⟩:=eN.1 h;unfold gA;rw[if_pos (by rw[a,b];rfl)]
def gp (e:En):(Int×Int×Bool)×Bool:=
 if Lib.hasPrefix e.1.data.toList [65]=true∧(qK ⟨(Lib.trimPrefix e.1.data.toList [65]).toArray⟩).2.2=0∧(qK ⟨(Lib.trimPrefix e.1.data.toList [65]).toArray⟩).1≠(qK ⟨(Lib.trimPrefix e.1.data.toList [65]).toArray⟩).2.1∧(e.2=tN true∨e.2=tN false)then
  (((qK ⟨(Lib.trimPrefix e.1.data.toList [65]).toArray⟩).1,(qK ⟨(Lib.trimPrefix e.1.data.toList [65]).toArray⟩).2.1,decide (e.2=tN true)),true)else((0,0,false),false)
theorem jJ {s:List UInt8}:Lib.hasPrefix s [65]=true↔∃r,s=65::r:=by
 cases s with
 |nil=>simp[Lib.hasPrefix]
 |cons a r=>
  simp only[Lib.hasPrefix,List.isPrefixOf,Bool.and_true,beq_iff_eq];exact⟨fun h=>⟨r,by rw[h]⟩,fun⟨_,h⟩=>by injection h with h;exact h.symm⟩
theorem DV (r:List UInt8):Lib.trimPrefix (65::r) [65]=r:=by
 unfold Lib.trimPrefix;rw[if_pos (jJ.2 ⟨r,rfl⟩)];rfl
theorem zO (s:ByteArray):(⟨s.data.toList.toArray⟩:ByteArray)=s:=by cases s;simp
theorem nE {u v:Int}{b:Bool}(h:dy u v=0):gp (cM u v,tN b)=((u,v,b),true):=by
 obtain⟨h1,h2,h3⟩:=eN.1 h;have e:cM u v=⟨(65::gA u v).toArray⟩:=by unfold cM;rw[if_pos h]
 unfold gp;rw[e];simp only[DV,Ns h1 h2];rw[if_pos ⟨jJ.2 ⟨_,rfl⟩,trivial,h3,by cases b<;>simp⟩];cases b
 ·have:tN false≠tN true:=by decide+kernel
  simp[this]
 ·simp
theorem vN (e:En):(∃u v b,gp e=((u,v,b),true)∧dy u v=0∧e=(cM u v,tN b))∨gp e=((0,0,false),false):=by
 obtain⟨k,x⟩:=e;unfold gp;split
 ·rename_i h
  obtain⟨h1,h2,h3,h4⟩:=h;obtain⟨r,hr⟩:=jJ.1 h1;simp only at h1 h2 h3 h4 hr;simp only[hr,DV]at h2 h3⊢;rcases Fx ⟨r.toArray⟩with⟨u,v,hp,a,b,c⟩|hp
  ·rw[hp]at h3⊢;have hm:dy u v=0:=eN.2 ⟨a,b,h3⟩;have hk:k=cM u v:=by
    unfold cM;rw[if_pos hm,<-zO k,hr];have:=congrArg (fun s:ByteArray=>s.data.toList) c;simp only at this;rw[this]
   refine .inl ⟨u,v,decide (x=tN true),rfl,hm,?_⟩;rw[hk];rcases h4 with h4|h4
   ·rw[h4];simp
   ·have:tN false≠tN true:=by decide+kernel
    rw[h4];simp[this]
  ·rw[hp]at h2;cases h2
 ·exact .inr rfl
theorem xw:∀(p q x y:List UInt8),p.length=q.length->Op.bytesLess (p++x) (q++y)=(Op.bytesLess p q||(decide (p=q)&&Op.bytesLess x y))
 |[],[],x,y,_=>by simp[Op.bytesLess]
 |a::p,b::q,x,y,h=>by
  simp only[List.cons_append,Op.bytesLess];rw[xw p q x y (by simpa using h)];by_cases h1:a=b
  ·subst h1;simp
  ·have h2:¬(a::p=b::q):=fun e=>h1 (by injection e);have h3:(a==b)=false:=beq_eq_false_iff_ne.2 h1;simp[h1,h2,h3]
theorem zP (x:List UInt8):∀i:Nat,x.foldl (fun a c=>a*256+c.toNat) i=i*256^x.length+beNat x:=by
 induction x with
 |nil=>intro i;simp[beNat]
 |cons a x ih=>
  intro i;have e:beNat (a::x)=a.toNat*256^x.length+beNat x:=by rw[beNat,List.foldl_cons,ih];simp
  rw[List.foldl_cons,ih,e,List.length_cons,Nat.pow_succ,Nat.add_mul,Nat.mul_assoc,Nat.mul_comm 256,Nat.add_assoc]
theorem tv (a:UInt8)(x:List UInt8):beNat (a::x)=a.toNat*256^x.length+beNat x:=by
 rw[beNat,List.foldl_cons,zP];simp
theorem pK (a b p x y:Nat)(h:a<b)(hx:x<p):a*p+x<b*p+y:=by
 have h1:(a+1)*p<=b*p:=Nat.mul_le_mul_right p h;rw[Nat.add_mul,Nat.one_mul]at h1;omega
theorem uJ (x:List UInt8):∀y:List UInt8,x.length=y.length->Op.bytesLess x y=decide (beNat x<beNat y):=by
 induction x with
 |nil=>intro y h;rw[List.length_eq_zero_iff.1 h.symm];rfl
 |cons a x ih=>
  intro y h;cases y with
  |nil=>simp at h
  |cons b y=>
   have hl:x.length=y.length:=by simpa using h
   have hx:=mK x;have hy:=mK y;rw[Op.bytesLess,ih y hl,tv,tv,hl];rw[hl]at hx;rcases Nat.lt_trichotomy a.toNat b.toNat with c|c|c
   ·have e1:a<b:=UInt8.lt_iff_toNat_lt.2 c;have e2:=pK a.toNat b.toNat _ (beNat x) (beNat y) c hx;simp[e1,e2]
   ·have e1:a=b:=UInt8.toNat_inj.1 c;subst e1;simp
   ·have e1:¬a<b:=by rw[UInt8.lt_iff_toNat_lt];omega
    have e2:a≠b:=by intro e;subst e;omega
    have e3:=pK b.toNat a.toNat _ (beNat y) (beNat x) c hy;have e4:¬(a.toNat*256^y.length+beNat x<b.toNat*256^y.length+beNat y):=Nat.not_lt.2 (Nat.le_of_lt e3);rw[decide_eq_false e4];simp[e1,e2]
theorem Jj (k n m:Nat)(hn:n<256^k)(hm:m<256^k):Op.bytesLess (beBytes k n) (beBytes k m)=decide (n<m):=by
 rw[uJ _ _ (by rw[beBytes_length,beBytes_length]),dJ k n hn,dJ k m hm]
theorem SA (k n m:Nat)(hn:n<256^k)(hm:m<256^k):(beBytes k n==beBytes k m)=decide (n=m):=by
 by_cases h:n=m
 ·subst h;simp
 ·simp[h];intro e;apply h;rw[<-dJ k n hn,<-dJ k m hm,e]
theorem mb (x y:List UInt8):bB ⟨x.toArray⟩ ⟨y.toArray⟩=Op.bytesLess x y:=by
 unfold bB;rw[toList_data,toList_data]
theorem mf {u:Int}(h:dC u=true):0<=u∧u<1048576:=of_decide_eq_true h
theorem nG {u v:Int}(h:dC u=true)(k:dC v=true):Op.bytesLess (beBytes 4 u.toNat) (beBytes 4 v.toNat)=decide (u<v):=by
 have a:=mf h;have b:=mf k;rw[Jj 4 _ _ (by omega) (by omega)];exact decide_eq_decide.2 ⟨fun h=>by omega,fun h=>by omega⟩
theorem Qr {u v:Int}(h:dC u=true)(k:dC v=true):beBytes 4 u.toNat=beBytes 4 v.toNat↔u=v:=by
 have a:=mf h;have b:=mf k;refine⟨fun e=>?_,fun e=>by rw[e]⟩;have:=SA 4 u.toNat v.toNat (by omega) (by omega);rw[e]at this;simp at this;omega
theorem kj {u v:Int}(h:dy u v=0):cM u v=⟨(65::(beBytes 4 u.toNat++beBytes 4 v.toNat)).toArray⟩:=by
 unfold cM;rw[if_pos h,Ny h]
theorem xx {u v a b:Int}(h:dy u v=0)(k:dy a b=0):bB (cM u v) (cM a b)=decide (u<a∨(u=a∧v<b)):=by
 obtain⟨h1,h2,_⟩:=eN.1 h;obtain⟨k1,k2,_⟩:=eN.1 k;rw[kj h,kj k,mb];simp only[Op.bytesLess];rw[xw _ _ _ _ (by rw[beBytes_length,beBytes_length]),nG h1 k1,nG h2 k2];have:=Qr h1 k1;by_cases c:u=a
 ·subst c;simp
 ·simp[c,this]
theorem kU {u v a b:Int}(h:dy u v=0)(k:dy a b=0)(e:cM u v=cM a b):u=a∧v=b:=by
 have h1:=xx h k;have h2:=xx k h;rw[e,N.dU]at h1 h2;have h1:=of_decide_eq_false h1.symm;have h2:=of_decide_eq_false h2.symm;omega
def xy (u:Int):ByteArray:=⟨(65::beBytes 4 u.toNat).toArray⟩
def toA (u:Int):ByteArray:=⟨(65::(beBytes 4 u.toNat++List.replicate 16 255)).toArray⟩
theorem V0 {v:Int}(h:dC v=true):Op.bytesLess (beBytes 4 v.toNat) (List.replicate 16 255)=true:=by
 have a:=mf h;have e:v.toNat/256/256/256%256=0:=by omega
 simp only[beBytes,e,List.nil_append,List.cons_append];rfl
theorem qL {u a b:Int}(hu:dC u=true)(h:dy a b=0):(!bB (cM a b) (xy u)&&bB (cM a b) (toA u))=decide (a=u):=by
 obtain⟨h1,h2,_⟩:=eN.1 h;have e1:bB (cM a b) (xy u)=decide (a<u):=by
  unfold xy;rw[kj h,mb];simp only[Op.bytesLess];have:=xw (beBytes 4 a.toNat) (beBytes 4 u.toNat) (beBytes 4 b.toNat) [] (by rw[beBytes_length,beBytes_length]);rw[List.append_nil]at this;rw[this,nG h1 hu];cases beBytes 4 b.toNat<;>simp[Op.bytesLess]
 have e2:bB (cM a b) (toA u)=decide (a<u∨a=u):=by
  unfold toA;rw[kj h,mb];simp only[Op.bytesLess];rw[xw _ _ _ _ (by rw[beBytes_length,beBytes_length]),nG h1 hu,V0 h2];have:=Qr h1 hu;by_cases c:a=u
  ·subst c;simp
  ·simp[c,this]
 rw[e1,e2];by_cases c:a=u
 ·subst c;simp
 ·by_cases d:a<u
  ·simp[c,d]
  ·simp[c,d]
end P
end Go.Proofs.YtcenfooehjcddaaGreatDoor
section
namespace Go.Proofs
open Go.Shelf
def Tryz.zQ:Go.Shelf.Ren:=⟨fun|103=>88|210=>113|206=>110|n=>n,fun|9=>9|4=>4|24=>135|3=>3|n=>n,fun|n=>n⟩
theorem Tryz.Nz:Go.Proofs.Lays.n103 Tryz.prog Tryz.zQ:={
 mixed:=by kernel_rfl
 f103:=Tryz.func88.trans (congrArg some (by kernel_rfl))
 f206:=Tryz.func110.trans (congrArg some (by kernel_rfl))
 f210:=Tryz.func113.trans (congrArg some (by kernel_rfl))
 t3:=Tryz.underlying3
 a3:=Tryz.isAgg3
 z3:=Tryz.sizeOf3
 v3:=Tryz.zeroValue3
 t4:=Tryz.underlying4
 a4:=Tryz.isAgg4
 z4:=Tryz.sizeOf4
 v4:=Tryz.zeroValue4
 t9:=Tryz.underlying9
 a9:=Tryz.isAgg9
 z9:=Tryz.sizeOf9
 v9:=Tryz.zeroValue9
 t24:=Tryz.underlying135
 a24:=Tryz.isAgg135
 z24:=Tryz.sizeOf135
 v24:=Tryz.zeroValue135}
open Go.RowKit in
theorem Tryz.strings_CutPrefix (s p:ByteArray)(w:World):
 Calls Tryz.prog 88 #[.string s,.string p] w fun e w'=>e=.returned (.tuple #[.string ⟨(Lib.trimPrefix s.data.toList p.data.toList).toArray⟩,.bool (Lib.hasPrefix s.data.toList p.data.toList)])∧w'=w:=Any.strings_CutPrefix Tryz.Nz s p w
end Go.Proofs
end
namespace Go.Proofs.YtcenfooehjcddaaGreatDoor
namespace P
open Go.Shelf Go.RowKit Go.Lib
open N (En)
theorem NC {u v:Int}(h:dy u v=0):(⟨#[65]⟩:ByteArray)++⟨(gA u v).toArray⟩=cM u v:=by
 unfold cM;rw[if_pos h,show(⟨#[65]⟩:ByteArray)=⟨([65]:List UInt8).toArray⟩from rfl];apply jT;rw[ByteArray.data_append];simp
theorem FO (u v:Int):(⟨(gA u v).toArray⟩:ByteArray).size<=8:=by
 rw[fu];unfold gA;split
 ·rw[List.length_append,beBytes_length,beBytes_length];omega
 ·exact Nat.zero_le _
theorem eZ {fn:Func}{t u v x:Tmp}(h:fn.results=#[.tmp t,.tmp u,.tmp v,.tmp x])(tmps:Array Value)(P:Program)(w:World):
  (results fn tmps).run P w=.ok (.tuple #[tmps.getD t undef,tmps.getD u undef,tmps.getD v undef,tmps.getD x undef]) w:=by
 simp[results,h]
theorem tA (u v:Int)(w:World):Calls Tryz.prog 26 #[.int .i64 u,.int .i64 v] w fun e w'=>e=.returned (.string (cM u v))∧Below w.heap.size w w':=by
 have KM:Hid _:=nw u v w;have KK:Hid (∀w',Calls Tryz.prog 54 #[.int .i64 u,.int .i64 v] w' fun e w''=>e=.returned (.tuple #[.string ⟨(gA u v).toArray⟩,.int .i64 (xq u v)])∧Below w'.heap.size w' w''):=fun w'=>DR u v w';by_cases hm:dy u v=0
 ·have HC:Hid _:=NC hm;rw[hm]at KM;have hz:¬9223372036854775807<1+(⟨(gA u v).toArray⟩:ByteArray).size:=by have:=FO u v;omega
  clear hm;generalize cM u v=ky at*;generalize xq u v=ke at*;generalize(⟨(gA u v).toArray⟩:ByteArray)=ks at*;generalize(bR u v).1=p1 at*;generalize(bR u v).2=p2 at*;go_enter Tryz.func26,Tryz.ntmps26
  go_wp2_with fail
  refine Calls.mono KM.out ?_;rintro e w1 ⟨rfl,b1⟩;have B1:Hid _:=b1;clear KM b1
  go_wp2_with fail
  refine Calls.mono (KK.out _) ?_;rintro e w2 ⟨rfl,b2⟩;have B2:Hid (Below w.heap.size w w2):=(B1.out.alloc B1.out.size _).trans (b2.mono (B1.out.alloc B1.out.size _).size);clear KK b2;go_wp2;go_ret;exact⟨by rw[<-HC.out];rfl,B2.out⟩
 ·have HC:Hid (cM u v=⟨#[]⟩):=by show _=_;unfold cM;rw[if_neg hm]
  have hmb:(dy u v != 0)=true:=bne_iff_ne.2 hm;clear hm;generalize dy u v=er at*;generalize(bR u v).1=p1 at*;generalize(bR u v).2=p2 at*;go_enter Tryz.func26,Tryz.ntmps26
  go_wp2_with fail
  refine Calls.mono KM.out ?_;rintro e w1 ⟨rfl,b1⟩;have B1:Hid _:=b1;clear KM b1;go_wp2;go_ret;exact⟨by rw[HC.out];rfl,B1.out.alloc B1.out.size _⟩
theorem FQ (k:ByteArray):(⟨(Lib.trimPrefix k.data.toList [65]).toArray⟩:ByteArray).size<=k.size:=by
 rw[fu];have:=Lib.trimPrefix_le k.data.toList [65];have e:k.data.toList.length=k.size:=Array.length_toList;omega
theorem tB (x:En)(w:World)(hs:x.1.size<=maxLen):Calls Tryz.prog 61 #[.agg #[.string x.1,.string x.2]] w fun e w'=>e=.returned (.tuple #[.int .i64 (gp x).1.1,.int .i64 (gp x).1.2.1,.bool (gp x).1.2.2,.bool (gp x).2])∧Below w.heap.size w w':=by
 obtain⟨k,v⟩:=x;have HS:Hid (k.size<=maxLen):=hs;obtain⟨tx,htx⟩:∃tx:ByteArray,tx=⟨(Lib.trimPrefix k.data.toList [65]).toArray⟩:=⟨_,rfl⟩;have HT:Hid (tx.size<=maxLen):=by show _<=_;rw[htx];exact Nat.le_trans (FQ k) hs
 have KC:Hid (∀w,Calls Tryz.prog 88 #[.string k,.string ⟨#[65]⟩] w fun e w'=>e=.returned (.tuple #[.string tx,.bool (Lib.hasPrefix k.data.toList [65])])∧w'=w):=fun w=>by
  have:=Tryz.strings_CutPrefix k ⟨#[65]⟩ w;rw[htx];exact this
 have KP:Hid (∀w,Calls Tryz.prog 89 #[.string tx] w fun e w'=>e=.returned (.tuple #[.int .i64 (qK tx).1,.int .i64 (qK tx).2.1,.int .i64 (qK tx).2.2])∧Below w.heap.size w w'):=fun w=>Fy tx w HT.out;have HP:Hid (gp (k,v)=if Lib.hasPrefix k.data.toList [65]=true∧(qK tx).2.2=0∧(qK tx).1≠(qK tx).2.1∧(v=tN true∨v=tN false)then(((qK tx).1,(qK tx).2.1,decide (v=tN true)),true)else((0,0,false),false)):=by
  show _=_;unfold gp;simp only[<-htx]
 clear hs htx;generalize qK tx=pr at*;obtain⟨u,t,er⟩:=pr;simp only at KP HP;generalize gp (k,v)=res at*;cases hp:Lib.hasPrefix k.data.toList [65]with
 |false=>
  have HR:Hid (res=((0,0,false),false)):=by have:=HP.out;rw[if_neg (by rw[hp];simp)]at this;exact this
  rw[hp]at KC;rw[HR.out];clear HP hp;go_enter Tryz.func61,Tryz.ntmps61
  go_wp2_with fail
  refine Calls.mono (KC.out _) ?_;rintro e w1 ⟨rfl,rfl⟩
  go_wp2_with fail
  refine Calls.mono (KP.out _) ?_;rintro e w2 ⟨rfl,b2⟩;have B2:Hid _:=b2;clear KC KP b2;go_wp2
  (try simp only[Exit.inBlock,Exit.then])
  refine bodyPost_ret (eZ rfl _ _ _) rfl ?_;exact⟨rfl,(Below.refl _ w).alloc (Nat.le_refl _) _ |>.trans (B2.out.mono (by simp))⟩
 |true=>
  rw[hp]at KC;by_cases h1:er=0
  ·subst h1;by_cases h2:u=t
   ·have HR:Hid (res=((0,0,false),false)):=by have:=HP.out;rw[if_neg (fun c=>c.2.2.1 h2)]at this;exact this
    have XO:(u==t)=true:=beq_iff_eq.2 h2;rw[HR.out];clear HP hp h2;go_enter Tryz.func61,Tryz.ntmps61
    go_wp2_with fail
    refine Calls.mono (KC.out _) ?_;rintro e w1 ⟨rfl,rfl⟩
    go_wp2_with fail
    refine Calls.mono (KP.out _) ?_;rintro e w2 ⟨rfl,b2⟩;have B2:Hid (Below w.heap.size w w2):=(Below.refl _ w).alloc (Nat.le_refl _) _ |>.trans (b2.mono (by simp));have q0:=(b2.cell (p:=⟨w.heap.size,0,none⟩) (by simp)).trans (Cl.new w #[.string k,.string v] 96).two.1;have q1:=(b2.cell (p:=⟨w.heap.size,1,none⟩) (by simp)).trans (Cl.new w #[.string k,.string v] 96).two.2;clear KC KP b2;go_wp2
    (try simp only[Exit.inBlock,Exit.then])
    refine bodyPost_ret (eZ rfl _ _ _) rfl ?_;exact⟨rfl,B2.out⟩
   ·have XO:(u==t)=false:=beq_eq_false_iff_ne.2 h2;by_cases h3:v=tN true
    ·have HR:Hid (res=((u,t,true),true)):=by have:=HP.out;rw[if_pos ⟨hp,rfl,h2,.inl h3⟩,decide_eq_true h3]at this;exact this
     have h3c:v.toList=[116]:=by rw[h3];decide+kernel
     rw[HR.out];clear HP hp h2 h3;go_enter Tryz.func61,Tryz.ntmps61
     go_wp2_with fail
     refine Calls.mono (KC.out _) ?_;rintro e w1 ⟨rfl,rfl⟩
     go_wp2_with fail
     refine Calls.mono (KP.out _) ?_;rintro e w2 ⟨rfl,b2⟩;have B2:Hid (Below w.heap.size w w2):=(Below.refl _ w).alloc (Nat.le_refl _) _ |>.trans (b2.mono (by simp));have q0:=(b2.cell (p:=⟨w.heap.size,0,none⟩) (by simp)).trans (Cl.new w #[.string k,.string v] 96).two.1;have q1:=(b2.cell (p:=⟨w.heap.size,1,none⟩) (by simp)).trans (Cl.new w #[.string k,.string v] 96).two.2;clear KC KP b2;go_wp2
     go_region
     go_wp2
     (try simp only[Exit.inBlock,Exit.then])
     refine bodyPost_ret (eZ rfl _ _ _) rfl ?_;exact⟨rfl,B2.out.drew⟩
    ·have h3c:¬v.toList=[116]:=fun e=>h3 (N.jC (e.trans (show [116]=(tN true).toList by decide+kernel)));by_cases h4:v=tN false
     ·have HR:Hid (res=((u,t,false),true)):=by have:=HP.out;rw[if_pos ⟨hp,rfl,h2,.inr h4⟩,decide_eq_false h3]at this;exact this
      have h4c:v.toList=[110]:=by rw[h4];decide+kernel
      rw[HR.out];clear HP hp h2 h3 h4;go_enter Tryz.func61,Tryz.ntmps61
      go_wp2_with fail
      refine Calls.mono (KC.out _) ?_;rintro e w1 ⟨rfl,rfl⟩
      go_wp2_with fail
      refine Calls.mono (KP.out _) ?_;rintro e w2 ⟨rfl,b2⟩;have B2:Hid (Below w.heap.size w w2):=(Below.refl _ w).alloc (Nat.le_refl _) _ |>.trans (b2.mono (by simp));have q0:=(b2.cell (p:=⟨w.heap.size,0,none⟩) (by simp)).trans (Cl.new w #[.string k,.string v] 96).two.1;have q1:=(b2.cell (p:=⟨w.heap.size,1,none⟩) (by simp)).trans (Cl.new w #[.string k,.string v] 96).two.2;clear KC KP b2;go_wp2
      go_region
      go_wp2
      (try simp only[Exit.inBlock,Exit.then])
      refine bodyPost_ret (eZ rfl _ _ _) rfl ?_;exact⟨rfl,B2.out.drew⟩
     ·have HR:Hid (res=((0,0,false),false)):=by have:=HP.out;rw[if_neg (fun c=>c.2.2.2.elim h3 h4)]at this;exact this
      have h4c:¬v.toList=[110]:=fun e=>h4 (N.jC (e.trans (show [110]=(tN false).toList by decide+kernel)));have h3d:(v.toList== [116])=false:=beq_eq_false_iff_ne.2 h3c;have h4d:(v.toList== [110])=false:=beq_eq_false_iff_ne.2 h4c;rw[HR.out];clear HP hp h2 h3 h4;go_enter Tryz.func61,Tryz.ntmps61
      go_wp2_with fail
      refine Calls.mono (KC.out _) ?_;rintro e w1 ⟨rfl,rfl⟩
      go_wp2_with fail
      refine Calls.mono (KP.out _) ?_;rintro e w2 ⟨rfl,b2⟩;have B2:Hid (Below w.heap.size w w2):=(Below.refl _ w).alloc (Nat.le_refl _) _ |>.trans (b2.mono (by simp));have q0:=(b2.cell (p:=⟨w.heap.size,0,none⟩) (by simp)).trans (Cl.new w #[.string k,.string v] 96).two.1;have q1:=(b2.cell (p:=⟨w.heap.size,1,none⟩) (by simp)).trans (Cl.new w #[.string k,.string v] 96).two.2;clear KC KP b2;go_wp2
      (try simp only[Exit.inBlock,Exit.then])
      refine bodyPost_ret (eZ rfl _ _ _) rfl ?_;exact⟨rfl,B2.out⟩
  ·have h1b:(er != 0)=true:=bne_iff_ne.2 h1;have HR:Hid (res=((0,0,false),false)):=by have:=HP.out;rw[if_neg (fun c=>h1 c.2.1)]at this;exact this
   rw[HR.out];clear HP hp h1;go_enter Tryz.func61,Tryz.ntmps61
   go_wp2_with fail
   refine Calls.mono (KC.out _) ?_;rintro e w1 ⟨rfl,rfl⟩
   go_wp2_with fail
   refine Calls.mono (KP.out _) ?_;rintro e w2 ⟨rfl,b2⟩;have B2:Hid (Below w.heap.size w w2):=(Below.refl _ w).alloc (Nat.le_refl _) _ |>.trans (b2.mono (by simp));have q0:=(b2.cell (p:=⟨w.heap.size,0,none⟩) (by simp)).trans (Cl.new w #[.string k,.string v] 96).two.1;have q1:=(b2.cell (p:=⟨w.heap.size,1,none⟩) (by simp)).trans (Cl.new w #[.string k,.string v] 96).two.2;clear KC KP b2;go_wp2
   (try simp only[Exit.inBlock,Exit.then])
   refine bodyPost_ret (eZ rfl _ _ _) rfl ?_;exact⟨rfl,B2.out⟩
end P
section
open Go.RowKit
open Go.ChangeMaps (setBlock)
structure C3 where
 there:Bool
 kind:UInt8
 body:ByteArray
def c0:C3:=⟨false,0,ByteArray.empty⟩
def cV (c:C3):Value:=.agg #[.bool c.there,.int .u8 (c.kind.toNat:Int),.string c.body]
def RC (v:Value):Option (DataW Value×List MemPlace):=some (.held v,[])
def Wf (k:Int):Prop:=-9223372036854775808<=k∧k<=9223372036854775807
theorem Wf.lit {k:Int}(h:Wf k):(Lit.int .i64 k).wf=true:=by
 have h1:=h.1;have h2:=h.2;have e1:IntKind.min .i64=-9223372036854775808:=by decide
 have e2:IntKind.max .i64=9223372036854775807:=by decide
 unfold Lit.wf;simp only[e1,e2];simp[h1,h2]
theorem Wf.key {k:Int}(h:Wf k):keyOf Tryz.prog 3 (.int .i64 k)=some (.int .i64 k):=Maps.keyOf_int_mk Tryz.underlying3 h.lit
theorem iG:Maps.Keyed Tryz.prog 3:=Maps.int_keyed Tryz.underlying3
theorem V1 (w:World):(zeroValue 217).run Tryz.prog w=.ok (cV c0) w:=by kernel_rfl
abbrev Fr:=Int->Option C3
def View (D:DataW Value)(g:Fr):Prop:=∀k,Maps.has D (.int .i64 k)=(g k).isSome∧∀z,D.atKey (.int .i64 k) z=(g k).elim z fun c=>.held (cV c)
def gY (g:Fr)(k:Int)(c:C3):Fr:=fun q=>if q=k then some c else g q
def tC (g:Fr)(k:Int):Fr:=fun q=>if q=k then none else g q
theorem Jk:View (.map []) (fun _=>none):=fun k=>⟨rfl,fun z=>rfl⟩
theorem km {q k:Int}(h:q≠k):(Lit.int .i64 q)≠.int .i64 k:=fun e=>h (by injection e)
theorem View.put {D:DataW Value}{g:Fr}(h:View D g)(hD:Maps.IsMap D)(k:Int)(c:C3):View (D.put (.int .i64 k) (.held (cV c))) (gY g k c):=by
 intro q;unfold gY;by_cases hq:q=k
 ·subst hq;rw[if_pos rfl];have hkl:WideAt.IsKeyLit (.int .i64 q):=by simp[WideAt.IsKeyLit]
  exact⟨Maps.has_put_same hD hkl _,fun z=>Maps.atKey_put_same hD hkl _ z⟩
 ·rw[if_neg hq];exact⟨(Maps.has_put_other (km hq) _).trans (h q).1,fun z=>(Maps.atKey_put_other (km hq) _ z).trans ((h q).2 z)⟩
theorem View.del {D:DataW Value}{g:Fr}(h:View D g)(k:Int):View (D.del (.int .i64 k)) (tC g k):=by
 intro q;unfold tC;by_cases hq:q=k
 ·subst hq;rw[if_pos rfl];exact⟨Maps.has_del_same,fun z=>Maps.atKey_del_same z⟩
 ·rw[if_neg hq];exact⟨(Maps.has_del_other (km hq)).trans (h q).1,fun z=>(Maps.atKey_del_other (km hq) z).trans ((h q).2 z)⟩
def nH (m:Nat)(g:Fr)(n:Nat):aM:=fun w X=>(∃D,w.ownsMap Tryz.prog 3 RC m n D∧View D g)∧∀k,X k↔k=m
theorem ir (m:Nat)(g:Fr)(n:Nat):Good (nH m g n):=
 ⟨fun w w' X h hk _=>by
  obtain⟨⟨D,⟨es,clock,hb,r⟩,hv⟩,hX⟩:=h
  exact⟨⟨D,⟨es,clock,(hk m ((hX m).2 rfl)).trans hb,r⟩,hv⟩,hX⟩,fun w X h k hk=>by
  obtain⟨⟨D,o,_⟩,hX⟩:=h
  rw[(hX k).1 hk];exact o.lt⟩
section
variable {B:Nat}{w0 w w':World}{l:List aM}{m n:Nat}{g:Fr}
theorem Sep.SC (h:Sep B w0 w (nH m g n::l)):∃D,w.ownsMap Tryz.prog 3 RC m n D∧View D g:=by
 obtain⟨_,_,Y,⟨_,X,_,ha,_⟩,_⟩:=h;exact ha.1
theorem Sep.SD (h:Sep B w0 w l):Sep B w0 (w.alloc (.map #[] 0)) (nH w.heap.size (fun _=>none) 0::l):=
 h.add ((Below.refl _ _).alloc (Nat.le_refl _) _) (ir _ _ _) (X:=fun k=>k=w.heap.size) ⟨⟨_,World.ownsMap_made w _ _ _,Jk⟩,fun _=>Iff.rfl⟩ (fun k hk=>Nat.le_of_eq hk.symm)
theorem Jl {v:Value}{z c:C3}{D:DataW Value}{ps:List MemPlace}{g:Option C3}(hv:RC v=some (D,ps))(hD:D=g.elim (.held (cV z)) fun c=>.held (cV c)):v=cV (g.getD z):=by
 unfold RC at hv;cases g with
 |none=>subst hD;simp at hv;exact hv.1
 |some c=>subst hD;simp at hv;exact hv.1
theorem Sep.Jm (h:Sep B w0 w (nH m g n::l)){k:Int}(hk:Wf k):(Instr.lookup 113 (.map (some m)) (.int .i64 k) true).run Tryz.prog w=.ok (.tuple #[cV ((g k).getD c0),.bool (g k).isSome]) w:=by
 obtain⟨D,o,hv⟩:=h.SC;obtain⟨v,ps,hr,hR⟩:=o.look_ok iG Tryz.underlying113 (V1 w) (zd:=.held (cV c0)) (zp:=[]) rfl hk.key;rw[hr,Jl (z:=c0) (c:=c0) hR ((hv k).2 _),(hv k).1]
theorem dw.mapTurned {X:Nat->Prop}{w w':World}{m:Nat}(hm:X m)(h:w.mapTurned w' m):dw X w w':=by
 obtain⟨es,clock,es',clock',hb,rfl⟩:=h;exact dw.setBlock w hm _
theorem Sep.SG (h:Sep B w0 w (nH m g n::l)){k:Int}(hk:Wf k)(c:C3)(hn:n<1000000):∃w',(Instr.mapUpdate 113 (.map (some m)) (.int .i64 k) (cV c)).run Tryz.prog w=.ok () w'∧Sep B w0 w' (nH m (gY g k c) (n+1)::l):=by
 obtain⟨D,o,hv⟩:=h.SC;obtain⟨w',hr,o',ht⟩:=o.store iG Tryz.underlying113 (Nat.lt_of_lt_of_le hn (by decide)) hk.key (val:=cV c) (d:=.held (cV c)) (ps:=[]) rfl;refine⟨w',hr,h.step (ir _ _ _) fun X hX=>⟨X,⟨⟨_,o',hv.put o.isMap k c⟩,hX.2⟩,dw.mapTurned ((hX.2 m).2 rfl) ht,fun k hk=>.inl hk⟩⟩
theorem Sep.SH (h:Sep B w0 w (nH m g n::l)){k:Int}(hk:Wf k)(ty:TypeId):∃w',(Builtin.delete_ #[113,3] ty #[.map (some m),.int .i64 k]).run Tryz.prog w=.ok (.tuple #[]) w'∧Sep B w0 w' (nH m (tC g k) n::l):=by
 obtain⟨D,o,hv⟩:=h.SC;obtain⟨w',hr,o',ht⟩:=o.drop iG Tryz.underlying113 hk.key ty;refine⟨w',hr,h.step (ir _ _ _) fun X hX=>⟨X,⟨⟨_,o',hv.del k⟩,hX.2⟩,dw.mapTurned ((hX.2 m).2 rfl) ht,fun k hk=>.inl hk⟩⟩
end
end
section
open Go.RowKit
open Go.ChangeMaps (setBlock)
abbrev Gv:=Int->Option Value
def zN:Value:=.agg #[.bool false,.slice none 0 0,.slice none 0 0,.slice none 0 0]
theorem Qs (w:World):(zeroValue 170).run Tryz.prog w=.ok zN w:=by kernel_rfl
def lK (D:DataW Value)(g:Gv):Prop:=∀k,Maps.has D (.int .i64 k)=(g k).isSome∧∀z,D.atKey (.int .i64 k) z=(g k).elim z fun c=>.held c
def pY (g:Gv)(k:Int)(c:Value):Gv:=fun q=>if q=k then some c else g q
def ND (g:Gv)(k:Int):Gv:=fun q=>if q=k then none else g q
theorem FR:lK (.map []) (fun _=>none):=fun k=>⟨rfl,fun z=>rfl⟩
theorem lK.put {D:DataW Value}{g:Gv}(h:lK D g)(hD:Maps.IsMap D)(k:Int)(c:Value):lK (D.put (.int .i64 k) (.held c)) (pY g k c):=by
 intro q;unfold pY;by_cases hq:q=k
 ·subst hq;rw[if_pos rfl];have hkl:WideAt.IsKeyLit (.int .i64 q):=by simp[WideAt.IsKeyLit]
  exact⟨Maps.has_put_same hD hkl _,fun z=>Maps.atKey_put_same hD hkl _ z⟩
 ·rw[if_neg hq];exact⟨(Maps.has_put_other (km hq) _).trans (h q).1,fun z=>(Maps.atKey_put_other (km hq) _ z).trans ((h q).2 z)⟩
theorem lK.del {D:DataW Value}{g:Gv}(h:lK D g)(k:Int):lK (D.del (.int .i64 k)) (ND g k):=by
 intro q;unfold ND;by_cases hq:q=k
 ·subst hq;rw[if_pos rfl];exact⟨Maps.has_del_same,fun z=>Maps.atKey_del_same z⟩
 ·rw[if_neg hq];exact⟨(Maps.has_del_other (km hq)).trans (h q).1,fun z=>(Maps.atKey_del_other (km hq) z).trans ((h q).2 z)⟩
def dh (m:Nat)(g:Gv)(n:Nat):aM:=fun w X=>(∃D,w.ownsMap Tryz.prog 3 RC m n D∧lK D g)∧∀k,X k↔k=m
theorem dH (m:Nat)(g:Gv)(n:Nat):Good (dh m g n):=
 ⟨fun w w' X h hk _=>by
  obtain⟨⟨D,⟨es,clock,hb,r⟩,hv⟩,hX⟩:=h
  exact⟨⟨D,⟨es,clock,(hk m ((hX m).2 rfl)).trans hb,r⟩,hv⟩,hX⟩,fun w X h k hk=>by
  obtain⟨⟨D,o,_⟩,hX⟩:=h
  rw[(hX k).1 hk];exact o.lt⟩
section
variable {B:Nat}{w0 w w':World}{l:List aM}{m n:Nat}{g:Gv}
theorem Sep.tD (h:Sep B w0 w (dh m g n::l)):∃D,w.ownsMap Tryz.prog 3 RC m n D∧lK D g:=by
 obtain⟨_,_,Y,⟨_,X,_,ha,_⟩,_⟩:=h;exact ha.1
theorem Sep.DW (h:Sep B w0 w l):Sep B w0 (w.alloc (.map #[] 0)) (dh w.heap.size (fun _=>none) 0::l):=
 h.add ((Below.refl _ _).alloc (Nat.le_refl _) _) (dH _ _ _) (X:=fun k=>k=w.heap.size) ⟨⟨_,World.ownsMap_made w _ _ _,FR⟩,fun _=>Iff.rfl⟩ (fun k hk=>Nat.le_of_eq hk.symm)
theorem oP {v:Value}{z c:Value}{D:DataW Value}{ps:List MemPlace}{g:Option Value}(hv:RC v=some (D,ps))(hD:D=g.elim (.held z) fun c=>.held c):v=g.getD z:=by
 unfold RC at hv;cases g with
 |none=>subst hD;simp at hv;exact hv.1
 |some c=>subst hD;simp at hv;exact hv.1
theorem Sep.NF (h:Sep B w0 w (dh m g n::l)){k:Int}(hk:Wf k):(Instr.lookup 138 (.map (some m)) (.int .i64 k) true).run Tryz.prog w=.ok (.tuple #[((g k).getD zN),.bool (g k).isSome]) w:=by
 obtain⟨D,o,hv⟩:=h.tD;obtain⟨v,ps,hr,hR⟩:=o.look_ok iG Tryz.underlying138 (Qs w) (zd:=.held zN) (zp:=[]) rfl hk.key;rw[hr,oP (z:=zN) (c:=zN) hR ((hv k).2 _),(hv k).1]
theorem Sep.SI (h:Sep B w0 w (dh m g n::l)){k:Int}(hk:Wf k):(Instr.lookup 138 (.map (some m)) (.int .i64 k) false).run Tryz.prog w=.ok (((g k).getD zN)) w:=by
 obtain⟨D,o,hv⟩:=h.tD;obtain⟨v,ps,hr,hR⟩:=o.lookup iG Tryz.underlying138 (Qs w) (zd:=.held zN) (zp:=[]) rfl hk.key;rw[hr,oP (z:=zN) (c:=zN) hR ((hv k).2 _)]
theorem Sep.NG (h:Sep B w0 w (dh m g n::l)){k:Int}(hk:Wf k)(c:Value)(hn:n<1000000):∃w',(Instr.mapUpdate 138 (.map (some m)) (.int .i64 k) c).run Tryz.prog w=.ok () w'∧Sep B w0 w' (dh m (pY g k c) (n+1)::l):=by
 obtain⟨D,o,hv⟩:=h.tD;obtain⟨w',hr,o',ht⟩:=o.store iG Tryz.underlying138 (Nat.lt_of_lt_of_le hn (by decide)) hk.key (val:=c) (d:=.held c) (ps:=[]) rfl;refine⟨w',hr,h.step (dH _ _ _) fun X hX=>⟨X,⟨⟨_,o',hv.put o.isMap k c⟩,hX.2⟩,dw.mapTurned ((hX.2 m).2 rfl) ht,fun k hk=>.inl hk⟩⟩
theorem Sep.NH (h:Sep B w0 w (dh m g n::l)){k:Int}(hk:Wf k)(ty:TypeId):∃w',(Builtin.delete_ #[138,3] ty #[.map (some m),.int .i64 k]).run Tryz.prog w=.ok (.tuple #[]) w'∧Sep B w0 w' (dh m (ND g k) n::l):=by
 obtain⟨D,o,hv⟩:=h.tD;obtain⟨w',hr,o',ht⟩:=o.drop iG Tryz.underlying138 hk.key ty;refine⟨w',hr,h.step (dH _ _ _) fun X hX=>⟨X,⟨⟨_,o',hv.del k⟩,hX.2⟩,dw.mapTurned ((hX.2 m).2 rfl) ht,fun k hk=>.inl hk⟩⟩
end
def Jn (g:Gv)(L:List Int):Prop:=L.Pairwise (· < ·)∧∀k,k∈L↔(g k).isSome=true
theorem xz {w:World}{m n:Nat}{g:Gv}{D:DataW Value}(o:w.ownsMap Tryz.prog 3 RC m n D)(hv:lK D g){ss:List Int}(hp:ss.Perm (intKeys D)):Jn g (ss.mergeSort (fun x y=>decide (x<=y)))∧ss.length<=n:=by
 obtain⟨es,rfl,hpw,_⟩:=o.entries iG;obtain⟨es',hD',hko⟩:=o.keysOf;obtain rfl:es=es':=by simpa using hD'
 have hkk:∀p∈es,∃x,p.1=.int .i64 x:=fun p hp=>by obtain⟨v,hv⟩:=hko p hp;obtain⟨x,_,hx,_⟩:=Maps.keyOf_i64 Tryz.underlying3 hv;exact⟨x,hx⟩
 have hnd:(intKeys (.map es)).Nodup:=by
  show(es.map fun p=>Go.intOf p.1).Nodup;refine List.pairwise_map.2 (hpw.imp_of_mem fun {p q} hp' hq' hne e=>hne ?_);obtain⟨a,ha⟩:=hkk p hp';obtain⟨b,hb⟩:=hkk q hq';rw[ha,hb]at e⊢;exact congrArg _ e
 have hmem:∀x,x∈intKeys (.map es)↔(g x).isSome=true:=fun x=>by
  rw[<- (hv x).1,Maps.has_eq,List.any_eq_true];show x∈es.map (fun p=>Go.intOf p.1)↔_;rw[List.mem_map];constructor
  ·rintro⟨p,hp',rfl⟩;obtain⟨a,ha⟩:=hkk p hp';exact⟨p,hp',by rw[ha];simp[Lit.sameKey,Go.intOf]⟩
  ·rintro⟨p,hp',hs⟩;obtain⟨a,ha⟩:=hkk p hp';rw[ha]at hs;exact⟨p,hp',by rw[ha];simpa[Lit.sameKey,Go.intOf]using hs⟩
 refine⟨⟨?_,fun k=>?_⟩,?_⟩
 ·have tr:∀a b c:Int,leI a b=true->leI b c=true->leI a c=true:=fun a b c h1 h2=>by simp only[leI,decide_eq_true_eq]at*;exact Int.le_trans h1 h2
  have tt:∀a b:Int,(leI a b||leI b a)=true:=fun a b=>by simp only[leI,Bool.or_eq_true,decide_eq_true_eq];exact Int.le_total a b
  have h1:=List.pairwise_mergeSort tr tt ss;have h2:(ss.mergeSort leI).Nodup:=((List.mergeSort_perm ss leI).trans hp).nodup_iff.2 hnd;refine(List.pairwise_and_iff.2 ⟨h1,h2⟩).imp fun {a b} hab=>?_;have:=of_decide_eq_true hab.1;have h3:=hab.2;omega
 ·rw[((List.mergeSort_perm ss _).trans hp).mem_iff];exact hmem k
 ·rw[hp.length_eq];have:=o.size_le;simpa[intKeys,Maps.size]using this
end
section
open Go.RowKit
structure TX where
 free:List Pr
 pages:Nat
 fresh:Fr
 cnt:Nat
def cR (pages:Int)(room:Nat):Nat:=(max 2 (min pages (room:Int))).toNat
def TX.new (fr:List Pr)(pages:Int)(room:Nat):TX:=⟨uY fr [(2,(cR pages room:Int)-1)],cR pages room,fun _=>none,0⟩
def TX.alloc (x:TX)(room:Nat):(Int×Int)×TX:=
 match x.free with
 |r::s=>((r.1,0),⟨gL (r::s),x.pages,gY x.fresh r.1 c0,x.cnt+1⟩)
 |[]=>if room<=x.pages then((0,2),x)else(((x.pages:Int),0),⟨[],x.pages+1,gY x.fresh x.pages c0,x.cnt+1⟩)
def TX.drop (x:TX)(id:Int):TX:=if(x.fresh id).isSome=true then⟨Di x.free [(id,id)],x.pages,tC x.fresh id,x.cnt⟩else x
def TX.put (x:TX)(id:Int)(kind:UInt8)(s:ByteArray):Int×TX:=
 if(x.fresh id).isSome=true then(if 240<s.size then(50,x)else(0,⟨x.free,x.pages,gY x.fresh id ⟨true,kind,s⟩,x.cnt+1⟩))else(1,x)
structure TX.Ok (x:TX)(room:Nat):Prop where
 cn:Cn x.free
 p2:2<=x.pages
 pr:x.pages<=room
 fr:∀n,dm x.free n->2<=n∧n<x.pages
 fs:∀n,(x.fresh n).isSome=true->2<=n∧n<x.pages
 dj:∀n,dm x.free n->(x.fresh n).isSome=false
theorem Jo {p:Int}:∀(l:List Pr) (f:Int),f<=p->Cn l->(∀n,dm l n->f<=n∧n<p)->(l.length:Int)+f<=p
 |[],f,hf,_,_=>by simpa using hf
 |r::l,f,hf,hc,h=>by
  obtain⟨⟨r0,r1,r2⟩,_,hl⟩:=bE.1 hc;have a1:=h r.1 (hc.dT (Int.le_refl _) r1);have a2:=h r.2 (hc.dT r1 (Int.le_refl _));have ih:=Jo l (r.2+1) (by omega) hl (fun n hn=>⟨by have:=hc.fw hn;omega,(h n ((aT _ _ _).2 (.inr hn))).2⟩);simp only[List.length_cons];omega
theorem TX.Ok.len {x:TX}{room:Nat}(h:x.Ok room):x.free.length<=x.pages:=by
 have:=Jo (p:=x.pages) x.free 2 (by have:=h.p2;omega) h.cn h.fr;omega
theorem BJ (pages:Int){room:Nat}(h:2<=room):2<=cR pages room∧cR pages room<=room:=by unfold cR;omega
theorem TX.Bx (fr:List Pr)(pages:Int){room:Nat}(h:2<=room):(TX.new fr pages room).Ok room:=by
 obtain⟨h2,h3⟩:=BJ pages h;refine⟨oz _ _,h2,h3,fun n hn=>?_,(fun n hn=>by cases hn),fun n hn=>rfl⟩;have:=(oC _ _ n).1 hn;have:=(eW _ _).1 this.2;show _∧n< (cR pages room:Int);simp only at this;omega
theorem dI (g:Fr)(k:Int)(c:C3)(q:Int):(gY g k c q).isSome=(decide (q=k)||(g q).isSome):=by
 unfold gY;by_cases h:q=k<;>simp[h]
theorem oQ (g:Fr)(k:Int)(q:Int):(tC g k q).isSome=(!decide (q=k)&&(g q).isSome):=by
 unfold tC;by_cases h:q=k<;>simp[h]
theorem TX.tE {x:TX}{room:Nat}(h:x.Ok room):(x.alloc room).2.Ok room:=by
 obtain⟨fr,p,g,c⟩:=x;unfold TX.alloc;cases fr with
 |cons r s=>
  obtain⟨_,d1,_,_,d2⟩:=yR h.cn;have r1:=h.fr r.1 (h.cn.dT (Int.le_refl _) (bE.1 h.cn).1.2.1);refine⟨d1,h.p2,h.pr,fun n hn=>h.fr n ((d2 n).1 hn).1,fun n hn=>?_,fun n hn=>?_⟩
  ·rw[dI]at hn;rcases Bool.or_eq_true_iff.1 hn with e|e
   ·rw[of_decide_eq_true e];exact r1
   ·exact h.fs n e
  ·have k:=(d2 n).1 hn;have:=h.dj n k.1;simp only at this;rw[dI,this];simp;omega
 |nil=>
  simp only;split
  ·exact h
  ·rename_i hp
   have h2:=h.p2;simp only at h2;refine⟨Cn.nil,by simp only;omega,by simp only;omega,fun n hn=>absurd hn (dz n),fun n hn=>?_,fun n hn=>absurd hn (dz n)⟩;rw[dI]at hn;simp only;rcases Bool.or_eq_true_iff.1 hn with e|e
   ·rw[of_decide_eq_true e];omega
   ·have:=h.fs n e;simp only at this;omega
theorem TX.DX {x:TX}{room:Nat}(h:x.Ok room)(id:Int):(x.drop id).Ok room:=by
 unfold TX.drop;split
 ·rename_i hi
  have k:=h.fs id hi;refine⟨Ic _ _,h.p2,h.pr,fun n hn=>?_,fun n hn=>?_,fun n hn=>?_⟩
  ·rcases(wN _ _ n).1 hn with e|e
   ·exact h.fr n e
   ·have:=(eW _ _).1 e;simp only at this;have e2:n=id:=by omega
    rw[e2];exact k
  ·rw[oQ]at hn;exact h.fs n (Bool.and_eq_true_iff.1 hn).2
  ·rw[oQ];rcases(wN _ _ n).1 hn with e|e
   ·rw[h.dj n e];simp
   ·have:=(eW _ _).1 e;simp only at this;have e2:n=id:=by omega
    simp[e2]
 ·exact h
theorem TX.SJ {x:TX}{room:Nat}(h:x.Ok room)(id:Int)(kind:UInt8)(s:ByteArray):(x.put id kind s).2.Ok room:=by
 unfold TX.put;split
 ·rename_i hi
  split
  ·exact h
  ·have k:=h.fs id hi;refine⟨h.cn,h.p2,h.pr,h.fr,fun n hn=>?_,fun n hn=>?_⟩
   ·rw[dI]at hn;rcases Bool.or_eq_true_iff.1 hn with e|e
    ·rw[of_decide_eq_true e];exact k
    ·exact h.fs n e
   ·rw[dI,h.dj n hn];have:n≠id:=fun e=>by
     have:=h.dj n hn;rw[e,hi]at this;cases this
    simp[this]
 ·exact h
end
section
open Go.RowKit
def SK (r:(ByteArray×Int)×Dk):(ByteArray×Int)×Dk:=((r.1.1,if r.1.2=40 then 3 else r.1.2),r.2)
def TX.get (x:TX)(d:Dk)(id:Int)(kind:UInt8):(ByteArray×Int)×Dk:=
 match x.fresh id with
 |some c=>if c.there=true∧c.kind=kind then((c.body,0),d)else((ByteArray.empty,3),d)
 |none=>if(x.pages:Int)<=id∨hasB x.free id=true then((ByteArray.empty,3),d)else SK (d.rd id kind)
end
end Go.Proofs.YtcenfooehjcddaaGreatDoor
namespace Go.Proofs.YtcenfooehjcddaaGreatDoor
open Go.Shelf Go.RowKit Go.Lib Go.Sort
namespace N
section
attribute [local go_sem ↓] Go.wp_at_zero Go.wp_at_succ
theorem SL (s:ByteArray):#[Value.string s]=flatK encS 1 [s].toArray:=by
 apply Array.ext';have:=cE encS 1 fj [] s;rw[List.nil_append]at this;rw[this];simp[flatK,encS]
theorem _root_.Go.Proofs.YtcenfooehjcddaaGreatDoor.Cl.Jp {w:World}{q:Nat}{s:ByteArray}{t:TypeId}(h:Cl w q #[.string s] t):Row encS 1 w (.slice (some ⟨q,0,none⟩) 1 1) [s]:=kN h (SL s) rfl
theorem SN (s:Int):#[Value.int .i64 s]=flatK encI 1 [s].toArray:=by
 apply Array.ext';have:=cE encI 1 iV [] s;rw[List.nil_append]at this;rw[this];simp[flatK,encI]
theorem _root_.Go.Proofs.YtcenfooehjcddaaGreatDoor.Cl.NI {w:World}{q:Nat}{s:Int}{t:TypeId}(h:Cl w q #[.int .i64 s] t):Row encI 1 w (.slice (some ⟨q,0,none⟩) 1 1) [s]:=kN h (SN s) rfl
theorem _root_.Go.Proofs.YtcenfooehjcddaaGreatDoor.Cl.Zc (w:World)(cs:Array Value)(t:TypeId)(o o' o'':Obj):Cl ((((w.alloc o).alloc o').alloc o'').alloc (.cells cs t)) (w.heap.size+3) cs t:=by
 have:=Cl.new (((w.alloc o).alloc o').alloc o'') cs t
 rwa [show(((w.alloc o).alloc o').alloc o'').heap.size=w.heap.size+3 by simp]at this
def Qt (W:World)(p:Nat)(lf:Bool)(key:ByteArray)(vb:Value)(bt:List ByteArray)(qM p8 ot:Option Addr)(qN ck1 ou:Nat)(es1:List En)(iK:List Int)(fS:List ByteArray)(qO qP qg:Option Addr)(qQ ck2 qh:Nat)(es2:List En)(iZ:List Int)(iL:List ByteArray){y4 y8 y9 xC tF tG y13 uK qi qj tH xD xE:Value}(C:List Bool->Act->Prop)(w:World):Prop:=∀{f0 f1 f2 f3 f4 f5 f6 f7 f8 f9 f10 f11 f12 f13 f14 f15 f16 f17 f18 f19 f20 f21 f22:Bool}{x20 kn mg lz x24 x25 tI x27 x28 x29 x30 x31 x32 Jq x34 XP XQ NK x38 x39 x40 x41:Value},f22=false->(RB W (p+2) 170 w∧Row encS 1 w vb bt)->Hid (f0=true->x20=.pointer (some ⟨p,0,none⟩))->Hid (f1=true->kn=.bool lf)->Hid (f2=true->mg=.pointer (some ⟨p,1,none⟩))->Hid (f3=true->lz=.slice qM es1.length qN)->Hid (f4=true->x24=.pointer (some ⟨p+1,1,none⟩))->Hid (f5=true->x25=.slice qO es2.length qQ)->Hid (f6=true->∃qq,tI=.slice (some ⟨qq,0,none⟩) 2 2∧Cl w qq #[.slice qM es1.length qN,.slice qO es2.length qQ] 49)->Hid (f7=true->∃ao n c,x27=.slice ao n c∧bp (p+3) w x27 (es1++es2))->Hid (f8=true->x28=.pointer (some ⟨p,2,none⟩))->Hid (f9=true->x29=.slice p8 iK.length ck1)->Hid (f10=true->x30=.pointer (some ⟨p+1,2,none⟩))->Hid (f11=true->x31=.slice qP iZ.length ck2)->Hid (f12=true->∃qq,x32=.slice (some ⟨qq,0,none⟩) 2 2∧Cl w qq #[.slice p8 iK.length ck1,.slice qP iZ.length ck2] 85)->Hid (f13=true->∃ao n c,Jq=.slice ao n c∧dB (p+3) w Jq (iK++iZ))->Hid (f14=true->x34=.pointer (some ⟨p,3,none⟩))->Hid (f15=true->XP=.slice ot fS.length ou)->Hid (f16=true->XQ=vb)->Hid (f17=true->NK=.pointer (some ⟨p+1,3,none⟩))->Hid (f18=true->x38=.slice qg iL.length qh)->Hid (f19=true->∃qq,x39=.slice (some ⟨qq,0,none⟩) 3 3∧Cl w qq #[.slice ot fS.length ou,vb,.slice qg iL.length qh] 48)->Hid (f20=true->∃ao n c,x40=.slice ao n c∧cI (p+3) w x40 (fS++bt++iL))->Hid (f21=true->f7=true∧f13=true∧f20=true∧x41=.agg #[.bool lf,x27,Jq,x40])->C [f0,f1,f2,f3,f4,f5,f6,f7,f8,f9,f10,f11,f12,f13,f14,f15,f16,f17,f18,f19,f20,f21,f22] {tmps:=#[.agg #[.bool lf,.slice qM es1.length qN,.slice p8 iK.length ck1,.slice ot fS.length ou],.string key,.agg #[.bool lf,.slice qO es2.length qQ,.slice qP iZ.length ck2,.slice qg iL.length qh],.pointer (some ⟨p,0,none⟩),y4,.pointer (some ⟨p+1,0,none⟩),.pointer (some ⟨p+2,0,none⟩),vb,y8,y9,xC,tF,tG,y13,uK,qi,qj,tH,xD,xE,x20,kn,mg,lz,x24,x25,tI,x27,x28,x29,x30,x31,x32,Jq,x34,XP,XQ,NK,x38,x39,x40,x41],defers:=[]}
theorem vO:(∀(key:ByteArray) (es1 es2:List En) (iK iZ:List Int) (fS iL:List ByteArray) (lC lD vs1 nI nJ vs2:Value) (w:World) (h1:iw w lC lD vs1 ⟨true,es1,iK,fS⟩) (h2:iw w nI nJ vs2 ⟨true,es2,iZ,iL⟩) (hm1:yz ⟨true,es1,iK,fS⟩) (hm2:yz ⟨true,es2,iZ,iL⟩),Calls Tryz.prog 189 #[.agg #[.bool true,lC,lD,vs1],.string key,.agg #[.bool true,nI,nJ,vs2]] w fun e w'=>∃AX AY vs',e=.returned (.agg #[.bool true,AX,AY,vs'])∧kT w.heap.size w' AX AY vs' ⟨true,es1++es2,iK++iZ,fS++[]++iL⟩∧Below w.heap.size w w')∧
  (∀(key:ByteArray) (es1 es2:List En) (iK iZ:List Int) (fS iL:List ByteArray) (lC lD vs1 nI nJ vs2:Value) (w:World) (h1:iw w lC lD vs1 ⟨false,es1,iK,fS⟩) (h2:iw w nI nJ vs2 ⟨false,es2,iZ,iL⟩) (hm1:yz ⟨false,es1,iK,fS⟩) (hm2:yz ⟨false,es2,iZ,iL⟩),Calls Tryz.prog 189 #[.agg #[.bool false,lC,lD,vs1],.string key,.agg #[.bool false,nI,nJ,vs2]] w fun e w'=>∃AX AY vs',e=.returned (.agg #[.bool false,AX,AY,vs'])∧kT w.heap.size w' AX AY vs' ⟨false,es1++es2,iK++iZ,fS++[key]++iL⟩∧Below w.heap.size w w'):=by
 and_intros
 have jq:=trivial
 rotate_left
 have fC:=trivial
 rotate_left
 all_goals
  intro key es1 es2 iK iZ fS iL lC lD vs1 nI nJ vs2 w h1 h2 hm1 hm2;obtain⟨he1,hk1,hs1⟩:=h1;obtain⟨he2,hk2,hs2⟩:=h2;obtain⟨s1,s2,s3⟩:=hm1;obtain⟨r1,r2,r3⟩:=hm2;simp only at he1 hk1 hs1 he2 hk2 hs2 s1 s2 s3 r1 r2 r3;obtain⟨qM,qN,rfl,_⟩:=aG he1;obtain⟨p8,ck1,rfl,_⟩:=aG hk1;obtain⟨ot,ou,rfl,_⟩:=aG hs1;obtain⟨qO,qQ,rfl,_⟩:=aG he2;obtain⟨qP,ck2,rfl,_⟩:=aG hk2;obtain⟨qg,qh,rfl,_⟩:=aG hs2
  first
   |have zz:=fC
    have K1:Cl ((((w.alloc (.cells #[.bool false,.slice qM es1.length qN,.slice p8 iK.length ck1,.slice ot fS.length ou] 170)).alloc (.cells #[.bool false,.slice qO es2.length qQ,.slice qP iZ.length ck2,.slice qg iL.length qh] 170)).alloc (.cells #[.bool false,.slice none 0 0,.slice none 0 0,.slice none 0 0] 170)).alloc (.cells #[.string key] 9)) w.heap.size #[.bool false,.slice qM es1.length qN,.slice p8 iK.length ck1,.slice ot fS.length ou] 170:=(((Cl.lY _ _ _).alloc _).alloc _).alloc _;have K2:Cl ((((w.alloc (.cells #[.bool false,.slice qM es1.length qN,.slice p8 iK.length ck1,.slice ot fS.length ou] 170)).alloc (.cells #[.bool false,.slice qO es2.length qQ,.slice qP iZ.length ck2,.slice qg iL.length qh] 170)).alloc (.cells #[.bool false,.slice none 0 0,.slice none 0 0,.slice none 0 0] 170)).alloc (.cells #[.string key] 9)) (w.heap.size+1) #[.bool false,.slice qO es2.length qQ,.slice qP iZ.length ck2,.slice qg iL.length qh] 170:=((Cl.pU _ _ _ _).alloc _).alloc _;have K3:Cl ((((w.alloc (.cells #[.bool false,.slice qM es1.length qN,.slice p8 iK.length ck1,.slice ot fS.length ou] 170)).alloc (.cells #[.bool false,.slice qO es2.length qQ,.slice qP iZ.length ck2,.slice qg iL.length qh] 170)).alloc (.cells #[.bool false,.slice none 0 0,.slice none 0 0,.slice none 0 0] 170)).alloc (.cells #[.string key] 9)) (w.heap.size+2) #[.bool false,.slice none 0 0,.slice none 0 0,.slice none 0 0] 170:=(Cl.Bv _ _ _ _ _).alloc _;have BW:Hid (Below w.heap.size w ((((w.alloc (.cells #[.bool false,.slice qM es1.length qN,.slice p8 iK.length ck1,.slice ot fS.length ou] 170)).alloc (.cells #[.bool false,.slice qO es2.length qQ,.slice qP iZ.length ck2,.slice qg iL.length qh] 170)).alloc (.cells #[.bool false,.slice none 0 0,.slice none 0 0,.slice none 0 0] 170)).alloc (.cells #[.string key] 9))):=aq _ (aq _ (aq _ (aq _ (Below.refl _ _))));have V2:Row encS 1 ((((w.alloc (.cells #[.bool false,.slice qM es1.length qN,.slice p8 iK.length ck1,.slice ot fS.length ou] 170)).alloc (.cells #[.bool false,.slice qO es2.length qQ,.slice qP iZ.length ck2,.slice qg iL.length qh] 170)).alloc (.cells #[.bool false,.slice none 0 0,.slice none 0 0,.slice none 0 0] 170)).alloc (.cells #[.string key] 9)) (.slice (some ⟨w.heap.size+3,0,none⟩) 1 1) [key]:=(Cl.Zc _ _ _ _ _ _).Jp
   |have K1:Cl (((w.alloc (.cells #[.bool true,.slice qM es1.length qN,.slice p8 iK.length ck1,.slice ot fS.length ou] 170)).alloc (.cells #[.bool true,.slice qO es2.length qQ,.slice qP iZ.length ck2,.slice qg iL.length qh] 170)).alloc (.cells #[.bool false,.slice none 0 0,.slice none 0 0,.slice none 0 0] 170)) w.heap.size #[.bool true,.slice qM es1.length qN,.slice p8 iK.length ck1,.slice ot fS.length ou] 170:=((Cl.lY _ _ _).alloc _).alloc _
    have K2:Cl (((w.alloc (.cells #[.bool true,.slice qM es1.length qN,.slice p8 iK.length ck1,.slice ot fS.length ou] 170)).alloc (.cells #[.bool true,.slice qO es2.length qQ,.slice qP iZ.length ck2,.slice qg iL.length qh] 170)).alloc (.cells #[.bool false,.slice none 0 0,.slice none 0 0,.slice none 0 0] 170)) (w.heap.size+1) #[.bool true,.slice qO es2.length qQ,.slice qP iZ.length ck2,.slice qg iL.length qh] 170:=(Cl.pU _ _ _ _).alloc _;have K3:Cl (((w.alloc (.cells #[.bool true,.slice qM es1.length qN,.slice p8 iK.length ck1,.slice ot fS.length ou] 170)).alloc (.cells #[.bool true,.slice qO es2.length qQ,.slice qP iZ.length ck2,.slice qg iL.length qh] 170)).alloc (.cells #[.bool false,.slice none 0 0,.slice none 0 0,.slice none 0 0] 170)) (w.heap.size+2) #[.bool false,.slice none 0 0,.slice none 0 0,.slice none 0 0] 170:=Cl.Bv _ _ _ _ _;have BW:Hid (Below w.heap.size w (((w.alloc (.cells #[.bool true,.slice qM es1.length qN,.slice p8 iK.length ck1,.slice ot fS.length ou] 170)).alloc (.cells #[.bool true,.slice qO es2.length qQ,.slice qP iZ.length ck2,.slice qg iL.length qh] 170)).alloc (.cells #[.bool false,.slice none 0 0,.slice none 0 0,.slice none 0 0] 170))):=(aq _ (aq _ (aq _ (Below.refl _ _))));have V2:Row encS 1 (((w.alloc (.cells #[.bool true,.slice qM es1.length qN,.slice p8 iK.length ck1,.slice ot fS.length ou] 170)).alloc (.cells #[.bool true,.slice qO es2.length qQ,.slice qP iZ.length ck2,.slice qg iL.length qh] 170)).alloc (.cells #[.bool false,.slice none 0 0,.slice none 0 0,.slice none 0 0] 170)) (.slice none 0 0) []:=xn
  go_enter Tryz.func189,Tryz.ntmps189
  go_wp2_with fail
  first
   |have zz:=fC
    generalize((((w.alloc (.cells #[.bool false,.slice qM es1.length qN,.slice p8 iK.length ck1,.slice ot fS.length ou] 170)).alloc (.cells #[.bool false,.slice qO es2.length qQ,.slice qP iZ.length ck2,.slice qg iL.length qh] 170)).alloc (.cells #[.bool false,.slice none 0 0,.slice none 0 0,.slice none 0 0] 170)).alloc (.cells #[.string key] 9))=W at*
   |generalize(((w.alloc (.cells #[.bool true,.slice qM es1.length qN,.slice p8 iK.length ck1,.slice ot fS.length ou] 170)).alloc (.cells #[.bool true,.slice qO es2.length qQ,.slice qP iZ.length ck2,.slice qg iL.length qh] 170)).alloc (.cells #[.bool false,.slice none 0 0,.slice none 0 0,.slice none 0 0] 170))=W at*
  obtain⟨p,hp⟩:∃p,w.heap.size=p:=⟨_,rfl⟩;rw[hp]at K1 K2 K3 BW⊢
  (try rw[hp]at V2)
  first
   |have zz:=fC
    have RT:Hid (Row encS 1 W.drew (.slice (some ⟨p+3,0,none⟩) 1 1) [key]):=V2.below (Below.refl _ W).drew
   |have RT:Hid (Row encS 1 W.drew (.slice none 0 0) []):=V2.below (Below.refl _ W).drew
  have R0:Hid (RB W (p+2) 170 W.drew):=⟨(Below.refl _ W).drew,_,_,_,_,K3⟩;have BX:∀X,RB W (p+2) 170 X->Below p w X:=fun X hX=>BW.out.trans (hX.1.mono (by omega));have RE1:Hid (∀X,RB W (p+2) 170 X->Row ax 2 X (.slice qM es1.length qN) es1):=fun X hX=>he1.below (by rw[hp];exact BX X hX);have XS:Hid (∀X,RB W (p+2) 170 X->Row encI 1 X (.slice p8 iK.length ck1) iK):=fun X hX=>hk1.below (by rw[hp];exact BX X hX);have V3:Hid (∀X,RB W (p+2) 170 X->Row encS 1 X (.slice ot fS.length ou) fS):=fun X hX=>hs1.below (by rw[hp];exact BX X hX);have RE2:Hid (∀X,RB W (p+2) 170 X->Row ax 2 X (.slice qO es2.length qQ) es2):=fun X hX=>he2.below (by rw[hp];exact BX X hX);have RK2:Hid (∀X,RB W (p+2) 170 X->Row encI 1 X (.slice qP iZ.length ck2) iZ):=fun X hX=>hk2.below (by rw[hp];exact BX X hX);have RS2:Hid (∀X,RB W (p+2) 170 X->Row encS 1 X (.slice qg iL.length qh) iL):=fun X hX=>hs2.below (by rw[hp];exact BX X hX)
  first
   |have zz:=fC
    have MA:Hid (∀X,RB W (p+2) 170 X->X.cell? ⟨p,0,none⟩=some (.bool false)∧X.cell? ⟨p,1,none⟩=some (.slice qM es1.length qN)∧X.cell? ⟨p,2,none⟩=some (.slice p8 iK.length ck1)∧X.cell? ⟨p,3,none⟩=some (.slice ot fS.length ou)):=fun X hX=>(K1.below hX.1 (by omega)).four;have MB:Hid (∀X,RB W (p+2) 170 X->X.cell? ⟨p+1,0,none⟩=some (.bool false)∧X.cell? ⟨p+1,1,none⟩=some (.slice qO es2.length qQ)∧X.cell? ⟨p+1,2,none⟩=some (.slice qP iZ.length ck2)∧X.cell? ⟨p+1,3,none⟩=some (.slice qg iL.length qh)):=fun X hX=>(K2.below hX.1 (by omega)).four
   |have MA:Hid (∀X,RB W (p+2) 170 X->X.cell? ⟨p,0,none⟩=some (.bool true)∧X.cell? ⟨p,1,none⟩=some (.slice qM es1.length qN)∧X.cell? ⟨p,2,none⟩=some (.slice p8 iK.length ck1)∧X.cell? ⟨p,3,none⟩=some (.slice ot fS.length ou)):=fun X hX=>(K1.below hX.1 (by omega)).four
    have MB:Hid (∀X,RB W (p+2) 170 X->X.cell? ⟨p+1,0,none⟩=some (.bool true)∧X.cell? ⟨p+1,1,none⟩=some (.slice qO es2.length qQ)∧X.cell? ⟨p+1,2,none⟩=some (.slice qP iZ.length ck2)∧X.cell? ⟨p+1,3,none⟩=some (.slice qg iL.length qh)):=fun X hX=>(K2.below hX.1 (by omega)).four
  have U5:Hid (∀X,RB W (p+2) 170 X->Below p w X):=BX;clear he1 hk1 hs1 he2 hk2 hs2 K1 K2 K3 BW BX V2
  first
   |have zz:=fC
    refine bc 22 (Qt W p false key (.slice (some ⟨p+3,0,none⟩) 1 1) [key] qM p8 ot qN ck1 ou es1 iK fS qO qP qg qQ ck2 qh es2 iZ iL) (by kernel_rfl) (by kernel_rfl) (by kernel_rfl) (fun _ k=>k rfl ⟨R0.out,RT.out⟩ ar ar ar ar ar ar ar ar ar ar ar ar ar ar ar ar ar ar ar ar ar ar) ?_ ?_ ?_
   |refine bc 22 (Qt W p true key (.slice none 0 0) [] qM p8 ot qN ck1 ou es1 iK fS qO qP qg qQ ck2 qh es2 iZ iL) (by kernel_rfl) (by kernel_rfl) (by kernel_rfl) (fun _ k=>k rfl ⟨R0.out,RT.out⟩ ar ar ar ar ar ar ar ar ar ar ar ar ar ar ar ar ar ar ar ar ar ar) ?_ ?_ ?_
  ·intro i w' hne f0 f1 f2 f3 f4 f5 f6 f7 f8 f9 f10 f11 f12 f13 f14 f15 f16 f17 f18 f19 f20 f21 f22 x20 kn mg lz x24 x25 tI x27 x28 x29 x30 x31 x32 Jq x34 XP XQ NK x38 x39 x40 x41 e22 hB h0 h1 h2 h3 h4 h5 h6 h7 h8 h9 h10 h11 h12 dN fP qR h16 BK h18 h19 h20 h21 hi;obtain⟨hlt,hun,_⟩:=aP hi;have hlt':i<23:=hlt;clear hlt;rcases(by omega:i=0∨i=1∨i=2∨i=3∨i=4∨i=5∨i=6∨i=7∨i=8∨i=9∨i=10∨i=11∨i=12∨i=13∨i=14∨i=15∨i=16∨i=17∨i=18∨i=19∨i=20∨i=21)with rfl|rfl|rfl|rfl|rfl|rfl|rfl|rfl|rfl|rfl|rfl|rfl|rfl|rfl|rfl|rfl|rfl|rfl|rfl|rfl|rfl|rfl
   refine ai rfl fun K HK=>?_;go_simp
   rotate_left
   cases h0 (ah 0 hi (by kernel_rfl));have cell:=(MA.out _ hB.1).1;refine ai rfl fun K HK=>?_;go_simp
   rotate_left
   refine ai rfl fun K HK=>?_;go_simp
   rotate_left
   cases h2 (ah 2 hi (by kernel_rfl));have cell:=(MA.out _ hB.1).2.1;refine ai rfl fun K HK=>?_;go_simp
   rotate_left
   refine ai rfl fun K HK=>?_;go_simp
   rotate_left
   cases h4 (ah 4 hi (by kernel_rfl));have cell:=(MB.out _ hB.1).2.1;refine ai rfl fun K HK=>?_;go_simp
   rotate_left
   ·cases h3 (ah 3 hi (by kernel_rfl));cases h5 (ah 5 hi (by kernel_rfl));refine ai rfl fun K HK=>?_;go_simp;exact HK.out _ _ fun _ k=>k e22 ⟨RB.alloc hB.1 _,hB.2.below (aq _ (Below.refl _ _))⟩ h0 h1 h2 h3 h4 h5 (fun _=>⟨_,rfl,Cl.new _ _ _⟩) (fun d=>let⟨ao,n,c,e,o⟩:=h7.out d;⟨ao,n,c,e,ownsRow_below o (aq _ (Below.refl _ _))⟩) h8 h9 h10 h11 (fun d=>let⟨q,e,c⟩:=h12.out d;⟨q,e,Cl.on c (aq _ (Below.refl _ _))⟩) (fun d=>let⟨ao,n,c,e,o⟩:=dN.out d;⟨ao,n,c,e,ownsRow_below o (aq _ (Below.refl _ _))⟩) fP qR h16 BK h18 (fun d=>let⟨q,e,c⟩:=h19.out d;⟨q,e,Cl.on c (aq _ (Below.refl _ _))⟩) (fun d=>let⟨ao,n,c,e,o⟩:=h20.out d;⟨ao,n,c,e,ownsRow_below o (aq _ (Below.refl _ _))⟩) h21
   ·have un:f7=false:=hun;obtain⟨q6,rfl,c6⟩:=h6.out (ah 6 hi (by kernel_rfl));refine ai rfl fun K HK=>?_;go_simp;refine Calls.mono (Jb q6 49 (.slice qM es1.length qN) (.slice qO es2.length qQ) es1 es2 w' c6 (RE1.out _ hB.1) (RE2.out _ hB.1) (by omega)) ?_;rintro e w1 ⟨ao,nn,cc,rfl,ow,b1⟩;exact HK.out _ _ fun _ k=>k e22 ⟨RB.call hB.1 b1,hB.2.below b1⟩ h0 h1 h2 h3 h4 h5 (fun d=>let⟨q,e,c⟩:=h6.out d;⟨q,e,Cl.on c (b1)⟩) (fun _=>⟨ao,nn,cc,rfl,aH ow (RB.lt hB.1)⟩) h8 h9 h10 h11 (fun d=>let⟨q,e,c⟩:=h12.out d;⟨q,e,Cl.on c (b1)⟩) (fun d=>let⟨ao,n,c,e,o⟩:=dN.out d;⟨ao,n,c,e,ownsRow_below o (b1)⟩) fP qR h16 BK h18 (fun d=>let⟨q,e,c⟩:=h19.out d;⟨q,e,Cl.on c (b1)⟩) (fun d=>let⟨ao,n,c,e,o⟩:=h20.out d;⟨ao,n,c,e,ownsRow_below o (b1)⟩) (fun d=>by have e:=(h21.out d).1;rw[un]at e;cases e)
   refine ai rfl fun K HK=>?_;go_simp
   rotate_left
   cases h8 (ah 8 hi (by kernel_rfl));have cell:=(MA.out _ hB.1).2.2.1;refine ai rfl fun K HK=>?_;go_simp
   rotate_left
   refine ai rfl fun K HK=>?_;go_simp
   rotate_left
   cases h10 (ah 10 hi (by kernel_rfl));have cell:=(MB.out _ hB.1).2.2.1;refine ai rfl fun K HK=>?_;go_simp
   rotate_left
   ·cases h9 (ah 9 hi (by kernel_rfl));cases h11 (ah 11 hi (by kernel_rfl));refine ai rfl fun K HK=>?_;go_simp;exact HK.out _ _ fun _ k=>k e22 ⟨RB.alloc hB.1 _,hB.2.below (aq _ (Below.refl _ _))⟩ h0 h1 h2 h3 h4 h5 (fun d=>let⟨q,e,c⟩:=h6.out d;⟨q,e,Cl.on c (aq _ (Below.refl _ _))⟩) (fun d=>let⟨ao,n,c,e,o⟩:=h7.out d;⟨ao,n,c,e,ownsRow_below o (aq _ (Below.refl _ _))⟩) h8 h9 h10 h11 (fun _=>⟨_,rfl,Cl.new _ _ _⟩) (fun d=>let⟨ao,n,c,e,o⟩:=dN.out d;⟨ao,n,c,e,ownsRow_below o (aq _ (Below.refl _ _))⟩) fP qR h16 BK h18 (fun d=>let⟨q,e,c⟩:=h19.out d;⟨q,e,Cl.on c (aq _ (Below.refl _ _))⟩) (fun d=>let⟨ao,n,c,e,o⟩:=h20.out d;⟨ao,n,c,e,ownsRow_below o (aq _ (Below.refl _ _))⟩) h21
   ·have un:f13=false:=hun;obtain⟨DO,rfl,c12⟩:=h12.out (ah 12 hi (by kernel_rfl));refine ai rfl fun K HK=>?_;go_simp;refine Calls.mono (Jc DO 85 (.slice p8 iK.length ck1) (.slice qP iZ.length ck2) iK iZ w' c12 (XS.out _ hB.1) (RK2.out _ hB.1) (by omega)) ?_;rintro e w1 ⟨ao,nn,cc,rfl,ow,b1⟩;exact HK.out _ _ fun _ k=>k e22 ⟨RB.call hB.1 b1,hB.2.below b1⟩ h0 h1 h2 h3 h4 h5 (fun d=>let⟨q,e,c⟩:=h6.out d;⟨q,e,Cl.on c (b1)⟩) (fun d=>let⟨ao,n,c,e,o⟩:=h7.out d;⟨ao,n,c,e,ownsRow_below o (b1)⟩) h8 h9 h10 h11 (fun d=>let⟨q,e,c⟩:=h12.out d;⟨q,e,Cl.on c (b1)⟩) (fun _=>⟨ao,nn,cc,rfl,aH ow (RB.lt hB.1)⟩) fP qR h16 BK h18 (fun d=>let⟨q,e,c⟩:=h19.out d;⟨q,e,Cl.on c (b1)⟩) (fun d=>let⟨ao,n,c,e,o⟩:=h20.out d;⟨ao,n,c,e,ownsRow_below o (b1)⟩) (fun d=>by have e:=(h21.out d).2.1;rw[un]at e;cases e)
   refine ai rfl fun K HK=>?_;go_simp
   rotate_left
   cases fP (ah 14 hi (by kernel_rfl));have cell:=(MA.out _ hB.1).2.2.2;refine ai rfl fun K HK=>?_;go_simp
   rotate_left
   refine ai rfl fun K HK=>?_;go_simp
   rotate_left
   refine ai rfl fun K HK=>?_;go_simp
   rotate_left
   cases BK (ah 17 hi (by kernel_rfl));have cell:=(MB.out _ hB.1).2.2.2;refine ai rfl fun K HK=>?_;go_simp
   rotate_left
   ·cases qR (ah 15 hi (by kernel_rfl));cases h16 (ah 16 hi (by kernel_rfl));cases h18 (ah 18 hi (by kernel_rfl));refine ai rfl fun K HK=>?_;go_simp;exact HK.out _ _ fun _ k=>k e22 ⟨RB.alloc hB.1 _,hB.2.below (aq _ (Below.refl _ _))⟩ h0 h1 h2 h3 h4 h5 (fun d=>let⟨q,e,c⟩:=h6.out d;⟨q,e,Cl.on c (aq _ (Below.refl _ _))⟩) (fun d=>let⟨ao,n,c,e,o⟩:=h7.out d;⟨ao,n,c,e,ownsRow_below o (aq _ (Below.refl _ _))⟩) h8 h9 h10 h11 (fun d=>let⟨q,e,c⟩:=h12.out d;⟨q,e,Cl.on c (aq _ (Below.refl _ _))⟩) (fun d=>let⟨ao,n,c,e,o⟩:=dN.out d;⟨ao,n,c,e,ownsRow_below o (aq _ (Below.refl _ _))⟩) fP qR h16 BK h18 (fun _=>⟨_,rfl,Cl.new _ _ _⟩) (fun d=>let⟨ao,n,c,e,o⟩:=h20.out d;⟨ao,n,c,e,ownsRow_below o (aq _ (Below.refl _ _))⟩) h21
   ·have un:f20=false:=hun;obtain⟨NL,rfl,c19⟩:=h19.out (ah 19 hi (by kernel_rfl));refine ai rfl fun K HK=>?_;go_simp
    first
     |have zz:=fC
      refine Calls.mono (sN NL 48 (.slice ot fS.length ou) (.slice (some ⟨p+3,0,none⟩) 1 1) (.slice qg iL.length qh) fS [key] iL w' c19 (V3.out _ hB.1) hB.2 (RS2.out _ hB.1) (by simp only[List.length_singleton];omega)) ?_
     |refine Calls.mono (sN NL 48 (.slice ot fS.length ou) (.slice none 0 0) (.slice qg iL.length qh) fS [] iL w' c19 (V3.out _ hB.1) hB.2 (RS2.out _ hB.1) (by simp only[List.length_nil];omega)) ?_
    rintro e w1 ⟨ao,nn,cc,rfl,ow,b1⟩;exact HK.out _ _ fun _ k=>k e22 ⟨RB.call hB.1 b1,hB.2.below b1⟩ h0 h1 h2 h3 h4 h5 (fun d=>let⟨q,e,c⟩:=h6.out d;⟨q,e,Cl.on c (b1)⟩) (fun d=>let⟨ao,n,c,e,o⟩:=h7.out d;⟨ao,n,c,e,ownsRow_below o (b1)⟩) h8 h9 h10 h11 (fun d=>let⟨q,e,c⟩:=h12.out d;⟨q,e,Cl.on c (b1)⟩) (fun d=>let⟨ao,n,c,e,o⟩:=dN.out d;⟨ao,n,c,e,ownsRow_below o (b1)⟩) fP qR h16 BK h18 (fun d=>let⟨q,e,c⟩:=h19.out d;⟨q,e,Cl.on c (b1)⟩) (fun _=>⟨ao,nn,cc,rfl,aH ow (RB.lt hB.1)⟩) (fun d=>by have e:=(h21.out d).2.2.1;rw[un]at e;cases e)
   ·cases h1 (ah 1 hi (by kernel_rfl));have d7:f7=true:=ah 7 hi (by kernel_rfl);obtain⟨a7,n7,m7,rfl,o7⟩:=h7.out d7;have d13:f13=true:=ah 13 hi (by kernel_rfl);obtain⟨uG,n13,m13,rfl,U6⟩:=dN.out d13;have d20:f20=true:=ah 20 hi (by kernel_rfl);obtain⟨a20,n20,m20,rfl,Zd⟩:=h20.out d20;refine ai rfl fun K HK=>?_;go_simp;exact HK.out _ _ fun _ k=>k e22 hB h0 h1 h2 h3 h4 h5 h6 h7 h8 h9 h10 h11 h12 dN fP qR h16 BK h18 h19 h20 (fun _=>⟨d7,d13,d20,rfl⟩)
   all_goals exact HK.out _ _ fun _ k=>by apply k<;>first|assumption|exact hidR|(repeat' first|apply Exists.intro|assumption|rfl|apply And.intro|exact fun _=>rfl)
  ·intro w' f0 f1 f2 f3 f4 f5 f6 f7 f8 f9 f10 f11 f12 f13 f14 f15 f16 f17 f18 f19 f20 f21 f22 x20 kn mg lz x24 x25 tI x27 x28 x29 x30 x31 x32 Jq x34 XP XQ NK x38 x39 x40 x41 e22 hB h0 h1 h2 h3 h4 h5 h6 h7 h8 h9 h10 h11 h12 dN fP qR h16 BK h18 h19 h20 h21 hi;have d21:f21=true:=ah 21 hi (by kernel_rfl);obtain⟨_,_,_,rfl⟩:=h21.out d21;have d7:f7=true:=ah 7 hi (by kernel_rfl);obtain⟨a7,n7,m7,rfl,o7⟩:=h7.out d7;have d13:f13=true:=ah 13 hi (by kernel_rfl);obtain⟨uG,n13,m13,rfl,U6⟩:=dN.out d13;have d20:f20=true:=ah 20 hi (by kernel_rfl);obtain⟨a20,n20,m20,rfl,Zd⟩:=h20.out d20;clear hi;obtain⟨⟨z0,y0⟩,⟨z1,y1⟩,⟨z2,y2⟩,⟨z3,y3⟩,g0,g1,g2,g3⟩:=hB.1.four;refine ai rfl fun K HK=>?_;go_simp;refine HK.out _ _ ?_
   first
    |have zz:=fC
     have KF:Cl ((((w'.setCell ⟨p+2,0,none⟩ (.bool false)).setCell ⟨p+2,1,none⟩ (.slice a7 n7 m7)).setCell ⟨p+2,2,none⟩ (.slice uG n13 m13)).setCell ⟨p+2,3,none⟩ (.slice a20 n20 m20)) (p+2) #[.bool false,.slice a7 n7 m7,.slice uG n13 m13,.slice a20 n20 m20] 170:=by
      obtain⟨⟨_,u0,u1,u2,u3,kc⟩,_⟩:=hB;exact kc.fk _ _ _ _
     have BF:Hid (Below p w ((((w'.setCell ⟨p+2,0,none⟩ (.bool false)).setCell ⟨p+2,1,none⟩ (.slice a7 n7 m7)).setCell ⟨p+2,2,none⟩ (.slice uG n13 m13)).setCell ⟨p+2,3,none⟩ (.slice a20 n20 m20))):=dg (U5.out _ hB.1) (by omega);have OF:Hid (kT p ((((w'.setCell ⟨p+2,0,none⟩ (.bool false)).setCell ⟨p+2,1,none⟩ (.slice a7 n7 m7)).setCell ⟨p+2,2,none⟩ (.slice uG n13 m13)).setCell ⟨p+2,3,none⟩ (.slice a20 n20 m20)) (.slice a7 n7 m7) (.slice uG n13 m13) (.slice a20 n20 m20) ⟨false,es1++es2,iK++iZ,fS++[key]++iL⟩):=⟨aH (bF o7 (Nat.lt_succ_self _)) (by omega),aH (bF U6 (Nat.lt_succ_self _)) (by omega),aH (bF Zd (Nat.lt_succ_self _)) (by omega)⟩;generalize World.setCell _ _ _=X at*
    |have KF:Cl ((((w'.setCell ⟨p+2,0,none⟩ (.bool true)).setCell ⟨p+2,1,none⟩ (.slice a7 n7 m7)).setCell ⟨p+2,2,none⟩ (.slice uG n13 m13)).setCell ⟨p+2,3,none⟩ (.slice a20 n20 m20)) (p+2) #[.bool true,.slice a7 n7 m7,.slice uG n13 m13,.slice a20 n20 m20] 170:=by
      obtain⟨⟨_,u0,u1,u2,u3,kc⟩,_⟩:=hB;exact kc.fk _ _ _ _
     have BF:Hid (Below p w ((((w'.setCell ⟨p+2,0,none⟩ (.bool true)).setCell ⟨p+2,1,none⟩ (.slice a7 n7 m7)).setCell ⟨p+2,2,none⟩ (.slice uG n13 m13)).setCell ⟨p+2,3,none⟩ (.slice a20 n20 m20))):=dg (U5.out _ hB.1) (by omega);have OF:Hid (kT p ((((w'.setCell ⟨p+2,0,none⟩ (.bool true)).setCell ⟨p+2,1,none⟩ (.slice a7 n7 m7)).setCell ⟨p+2,2,none⟩ (.slice uG n13 m13)).setCell ⟨p+2,3,none⟩ (.slice a20 n20 m20)) (.slice a7 n7 m7) (.slice uG n13 m13) (.slice a20 n20 m20) ⟨true,es1++es2,iK++iZ,fS++[]++iL⟩):=⟨aH (bF o7 (Nat.lt_succ_self _)) (by omega),aH (bF U6 (Nat.lt_succ_self _)) (by omega),aH (bF Zd (Nat.lt_succ_self _)) (by omega)⟩;generalize World.setCell _ _ _=X at*
   obtain⟨k0,k1,k2,k3⟩:=KF.four;clear y0 y1 y2 y3 g0 g1 g2 g3 hB h0 h1 h2 h3 h4 h5 h6 h7 h8 h9 h10 h11 h12 dN fP qR h16 BK h18 h19 h20 h21;go_wp2
   first
    |have zz:=fC
     refine bodyPost_ret (v:=.agg #[.bool false,.slice a7 n7 m7,.slice uG n13 m13,.slice a20 n20 m20]) ?_ rfl ⟨_,_,_,rfl,by rw[hp];exact OF.out,by rw[hp];exact BF.out⟩
    |refine bodyPost_ret (v:=.agg #[.bool true,.slice a7 n7 m7,.slice uG n13 m13,.slice a20 n20 m20]) ?_ rfl ⟨_,_,_,rfl,by rw[hp];exact OF.out,by rw[hp];exact BF.out⟩
   rw[bC rfl];go_simp
  ·intro _ _;intros;assumption
end
section
attribute [local go_sem ↓] Go.wp_at_zero Go.wp_at_succ
theorem nK {base q:Nat}{w:World}{e t:TypeId}{k:Nat}{v a b c d:Value}{n:Nat}{xs:List Value}{cs:Array Value}(h:w.ownsRow base e k v n xs)(hc:Cl w q cs t)(hne:t≠e):(fk w q a b c d).ownsRow base e k v n xs:=by
 refine⟨h.1,?_⟩;rcases h.2 with h2| ⟨g,cap,cur,hv,hg,hh,r⟩
 ·exact Or.inl h2
 ·refine Or.inr ⟨g,cap,cur,hv,hg,?_,r⟩;have Va:g≠q:=by
   intro e1;subst e1;unfold Cl at hc;rw[hc]at hh;injection hh with hh;injection hh with h1 h2;exact hne h2
  unfold fk;rw[Below.heap_setCell _ _ _ _ Va,Below.heap_setCell _ _ _ _ Va,Below.heap_setCell _ _ _ _ Va,Below.heap_setCell _ _ _ _ Va];exact hh
def FT (w:World)(n:Nd)(e:Ending)(w':World):Prop:=∃ve vk vs,e=.returned (.agg #[.bool n.leaf,ve,vk,vs])∧kT w.heap.size w' ve vk vs n∧Below w.heap.size w w'
theorem zR (key:ByteArray)(a b:Nd)(lC lD vs1 nI nJ vs2:Value)(w:World)(h1:iw w lC lD vs1 a)(hm1:yz a)(hlf:a.leaf=true)(Hb:b.leaf=false):
  Calls Tryz.prog 189 #[.agg #[.bool a.leaf,lC,lD,vs1],.string key,.agg #[.bool b.leaf,nI,nJ,vs2]] w (FT w a):=by
 have BW:Hid (Below w.heap.size w (((w.alloc (.cells #[.bool true,lC,lD,vs1] 170)).alloc (.cells #[.bool false,nI,nJ,vs2] 170)).alloc (.cells #[.bool false,.slice none 0 0,.slice none 0 0,.slice none 0 0] 170))):=aq _ (aq _ (aq _ (Below.refl _ _)));have K1:Cl (((w.alloc (.cells #[.bool true,lC,lD,vs1] 170)).alloc (.cells #[.bool false,nI,nJ,vs2] 170)).alloc (.cells #[.bool false,.slice none 0 0,.slice none 0 0,.slice none 0 0] 170)) w.heap.size #[.bool true,lC,lD,vs1] 170:=((Cl.lY _ _ _).alloc _).alloc _;have K2:Cl (((w.alloc (.cells #[.bool true,lC,lD,vs1] 170)).alloc (.cells #[.bool false,nI,nJ,vs2] 170)).alloc (.cells #[.bool false,.slice none 0 0,.slice none 0 0,.slice none 0 0] 170)) (w.heap.size+1) #[.bool false,nI,nJ,vs2] 170:=(Cl.pU _ _ _ _).alloc _;have K3:Cl (((w.alloc (.cells #[.bool true,lC,lD,vs1] 170)).alloc (.cells #[.bool false,nI,nJ,vs2] 170)).alloc (.cells #[.bool false,.slice none 0 0,.slice none 0 0,.slice none 0 0] 170)) (w.heap.size+1+1) #[.bool false,.slice none 0 0,.slice none 0 0,.slice none 0 0] 170:=Cl.Bv _ _ _ _ _;have C:Hid _:=iW a lC lD vs1 (((w.alloc (.cells #[.bool true,lC,lD,vs1] 170)).alloc (.cells #[.bool false,nI,nJ,vs2] 170)).alloc (.cells #[.bool false,.slice none 0 0,.slice none 0 0,.slice none 0 0] 170)) (h1.below BW.out) hm1;rw[hlf]at C;rw[hlf,Hb];obtain⟨ae,ce,rfl,_⟩:=aG h1.e;obtain⟨ak,ck,rfl,_⟩:=aG h1.k;obtain⟨az,cz,rfl,_⟩:=aG h1.s;have HL:Hid (a.leaf=true):=hlf;clear h1 hlf Hb;go_enter Tryz.func189,Tryz.ntmps189
 go_upto_region 1 with fail
 generalize World.alloc _ _=W at*;obtain⟨p,hp⟩:∃p,w.heap.size=p:=⟨_,rfl⟩;rw[hp]at K1 K2 K3 BW⊢;obtain⟨c0,c1,c2,c3⟩:=K1.four;obtain⟨d0,_,_,_⟩:=K2.four;have l1:=K3.lt;clear K1 K2
 go_wp2_with fail
 refine Calls.mono C.out ?_;rintro e w1 ⟨AX,AY,vs',rfl,O1,B1⟩;obtain⟨av,cv,rfl⟩:=bL O1.e;obtain⟨bv,dv,rfl⟩:=bL O1.k;obtain⟨gv,hv,rfl⟩:=bL O1.s;have K4:Cl w1 (p+1+1) #[.bool false,.slice none 0 0,.slice none 0 0,.slice none 0 0] 170:=K3.on B1;obtain⟨f0,f1,f2,f3⟩:=K4.four;obtain⟨g0,g1,g2,g3⟩:=K4.thaw;have KF:Cl ((((w1.setCell ⟨p+1+1,0,none⟩ (.bool true)).setCell ⟨p+1+1,1,none⟩ (.slice av a.es.length cv)).setCell ⟨p+1+1,2,none⟩ (.slice bv a.ks.length dv)).setCell ⟨p+1+1,3,none⟩ (.slice gv a.ss.length hv)) (p+1+1) #[.bool true,.slice av a.es.length cv,.slice bv a.ks.length dv,.slice gv a.ss.length hv] 170:=K4.fk _ _ _ _;have BF:Hid (Below p w ((((w1.setCell ⟨p+1+1,0,none⟩ (.bool true)).setCell ⟨p+1+1,1,none⟩ (.slice av a.es.length cv)).setCell ⟨p+1+1,2,none⟩ (.slice bv a.ks.length dv)).setCell ⟨p+1+1,3,none⟩ (.slice gv a.ss.length hv))):=dg (BW.out.trans (B1.mono (by omega))) (by omega);have OF:Hid (kT p ((((w1.setCell ⟨p+1+1,0,none⟩ (.bool true)).setCell ⟨p+1+1,1,none⟩ (.slice av a.es.length cv)).setCell ⟨p+1+1,2,none⟩ (.slice bv a.ks.length dv)).setCell ⟨p+1+1,3,none⟩ (.slice gv a.ss.length hv)) (.slice av a.es.length cv) (.slice bv a.ks.length dv) (.slice gv a.ss.length hv) a):=⟨aH (bF O1.e l1) (by omega),aH (bF O1.k l1) (by omega),aH (bF O1.s l1) (by omega)⟩;clear C B1 O1 K3 K4 c0 c1 c2 c3 d0;go_wp2
 (try simp only[Exit.inBlock,Exit.then])
 generalize World.setCell _ _ _=X at*;obtain⟨k0,k1,k2,k3⟩:=KF.four;refine bodyPost_ret (v:=.agg #[.bool true,.slice av a.es.length cv,.slice bv a.ks.length dv,.slice gv a.ss.length hv]) ?_ rfl ⟨_,_,_,by rw[HL.out],by rw[hp];exact OF.out,by rw[hp];exact BF.out⟩;rw[bC rfl];go_simp
theorem xF (key:ByteArray)(a b:Nd)(lC lD vs1 nI nJ vs2:Value)(w:World)(h1:iw w lC lD vs1 a)(hm1:yz a)(hlf:a.leaf=false)(Hb:b.leaf=true):
  Calls Tryz.prog 189 #[.agg #[.bool a.leaf,lC,lD,vs1],.string key,.agg #[.bool b.leaf,nI,nJ,vs2]] w (FT w a):=by
 have BW:Hid (Below w.heap.size w (((w.alloc (.cells #[.bool false,lC,lD,vs1] 170)).alloc (.cells #[.bool true,nI,nJ,vs2] 170)).alloc (.cells #[.bool false,.slice none 0 0,.slice none 0 0,.slice none 0 0] 170))):=aq _ (aq _ (aq _ (Below.refl _ _)));have K1:Cl (((w.alloc (.cells #[.bool false,lC,lD,vs1] 170)).alloc (.cells #[.bool true,nI,nJ,vs2] 170)).alloc (.cells #[.bool false,.slice none 0 0,.slice none 0 0,.slice none 0 0] 170)) w.heap.size #[.bool false,lC,lD,vs1] 170:=((Cl.lY _ _ _).alloc _).alloc _;have K2:Cl (((w.alloc (.cells #[.bool false,lC,lD,vs1] 170)).alloc (.cells #[.bool true,nI,nJ,vs2] 170)).alloc (.cells #[.bool false,.slice none 0 0,.slice none 0 0,.slice none 0 0] 170)) (w.heap.size+1) #[.bool true,nI,nJ,vs2] 170:=(Cl.pU _ _ _ _).alloc _;have K3:Cl (((w.alloc (.cells #[.bool false,lC,lD,vs1] 170)).alloc (.cells #[.bool true,nI,nJ,vs2] 170)).alloc (.cells #[.bool false,.slice none 0 0,.slice none 0 0,.slice none 0 0] 170)) (w.heap.size+1+1) #[.bool false,.slice none 0 0,.slice none 0 0,.slice none 0 0] 170:=Cl.Bv _ _ _ _ _;have C:Hid _:=iW a lC lD vs1 (((w.alloc (.cells #[.bool false,lC,lD,vs1] 170)).alloc (.cells #[.bool true,nI,nJ,vs2] 170)).alloc (.cells #[.bool false,.slice none 0 0,.slice none 0 0,.slice none 0 0] 170)) (h1.below BW.out) hm1;rw[hlf]at C;rw[hlf,Hb];obtain⟨ae,ce,rfl,_⟩:=aG h1.e;obtain⟨ak,ck,rfl,_⟩:=aG h1.k;obtain⟨az,cz,rfl,_⟩:=aG h1.s;have HL:Hid (a.leaf=false):=hlf;clear h1 hlf Hb;go_enter Tryz.func189,Tryz.ntmps189
 go_upto_region 1 with fail
 generalize World.alloc _ _=W at*;obtain⟨p,hp⟩:∃p,w.heap.size=p:=⟨_,rfl⟩;rw[hp]at K1 K2 K3 BW⊢;obtain⟨c0,c1,c2,c3⟩:=K1.four;obtain⟨d0,_,_,_⟩:=K2.four;have l1:=K3.lt;clear K1 K2
 go_wp2_with fail
 refine Calls.mono C.out ?_;rintro e w1 ⟨AX,AY,vs',rfl,O1,B1⟩;obtain⟨av,cv,rfl⟩:=bL O1.e;obtain⟨bv,dv,rfl⟩:=bL O1.k;obtain⟨gv,hv,rfl⟩:=bL O1.s;have K4:Cl w1 (p+1+1) #[.bool false,.slice none 0 0,.slice none 0 0,.slice none 0 0] 170:=K3.on B1;obtain⟨f0,f1,f2,f3⟩:=K4.four;obtain⟨g0,g1,g2,g3⟩:=K4.thaw;have KF:Cl ((((w1.setCell ⟨p+1+1,0,none⟩ (.bool false)).setCell ⟨p+1+1,1,none⟩ (.slice av a.es.length cv)).setCell ⟨p+1+1,2,none⟩ (.slice bv a.ks.length dv)).setCell ⟨p+1+1,3,none⟩ (.slice gv a.ss.length hv)) (p+1+1) #[.bool false,.slice av a.es.length cv,.slice bv a.ks.length dv,.slice gv a.ss.length hv] 170:=K4.fk _ _ _ _;have BF:Hid (Below p w ((((w1.setCell ⟨p+1+1,0,none⟩ (.bool false)).setCell ⟨p+1+1,1,none⟩ (.slice av a.es.length cv)).setCell ⟨p+1+1,2,none⟩ (.slice bv a.ks.length dv)).setCell ⟨p+1+1,3,none⟩ (.slice gv a.ss.length hv))):=dg (BW.out.trans (B1.mono (by omega))) (by omega);have OF:Hid (kT p ((((w1.setCell ⟨p+1+1,0,none⟩ (.bool false)).setCell ⟨p+1+1,1,none⟩ (.slice av a.es.length cv)).setCell ⟨p+1+1,2,none⟩ (.slice bv a.ks.length dv)).setCell ⟨p+1+1,3,none⟩ (.slice gv a.ss.length hv)) (.slice av a.es.length cv) (.slice bv a.ks.length dv) (.slice gv a.ss.length hv) a):=⟨aH (bF O1.e l1) (by omega),aH (bF O1.k l1) (by omega),aH (bF O1.s l1) (by omega)⟩;clear C B1 O1 K3 K4 c0 c1 c2 c3 d0;go_wp2
 (try simp only[Exit.inBlock,Exit.then])
 generalize World.setCell _ _ _=X at*;obtain⟨k0,k1,k2,k3⟩:=KF.four;refine bodyPost_ret (v:=.agg #[.bool false,.slice av a.es.length cv,.slice bv a.ks.length dv,.slice gv a.ss.length hv]) ?_ rfl ⟨_,_,_,by rw[HL.out],by rw[hp];exact OF.out,by rw[hp];exact BF.out⟩;rw[bC rfl];go_simp
theorem Jr {a b:Nd}{key:ByteArray}(h:a.leaf=b.leaf):jo a key b=⟨a.leaf,a.es++b.es,a.ks++b.ks,a.ss++(if a.leaf=true then []else [key])++b.ss⟩:=by unfold jo;rw[if_pos h]
theorem SR {a b:Nd}{key:ByteArray}(h:¬a.leaf=b.leaf):jo a key b=a:=by unfold jo;rw[if_neg h]
theorem FU (key:ByteArray)(a b:Nd)(lC lD vs1 nI nJ vs2:Value)(w:World)(h1:iw w lC lD vs1 a)(h2:iw w nI nJ vs2 b)(hm1:yz a)(hm2:yz b):
  Calls Tryz.prog 189 #[.agg #[.bool a.leaf,lC,lD,vs1],.string key,.agg #[.bool b.leaf,nI,nJ,vs2]] w (FT w (jo a key b)):=by
 by_cases c:a.leaf=b.leaf
 ·rw[Jr c];obtain⟨lf,es1,iK,fS⟩:=a;obtain⟨lg,es2,iZ,iL⟩:=b;simp only at c⊢;subst c;cases lf
  ·exact(vO.2 key es1 es2 iK iZ fS iL lC lD vs1 nI nJ vs2 w h1 h2 hm1 hm2).mono fun e w' h=>h
  ·exact(vO.1 key es1 es2 iK iZ fS iL lC lD vs1 nI nJ vs2 w h1 h2 hm1 hm2).mono fun e w' h=>h
 ·rw[SR c];cases ha:a.leaf<;>cases hb:b.leaf
  ·rw[ha,hb]at c;exact absurd rfl c
  ·rw[<-ha,<-hb];exact xF key a b lC lD vs1 nI nJ vs2 w h1 hm1 ha hb
  ·rw[<-ha,<-hb];exact zR key a b lC lD vs1 nI nJ vs2 w h1 hm1 ha hb
  ·rw[ha,hb]at c;exact absurd rfl c
def V4 (w0:World)(ao gR wZ:Option Addr)(n c n2 c2 p q ff tt:Nat)(x o y:List Int){y4 y5 y6 y7:Value}(C:List Bool->Act->Prop)(w:World):Prop:=∀{f0 f1 f2 f3 f4 f5 f6 f7 f8 f9 f10 f11 f12 f13 f14 f15:Bool}{x9 oK uo qI uq uE G9 DM uF zS uL x20 kn mg lz:Value},f15=false->Below w0.heap.size w0 w->Hid (f0=true->x9=.slice ao n c)->Hid (f1=true->oK=.int .i64 ff)->Hid (f2=true->uo=.slice ao n c)->Hid (f3=true->qI=.int .i64 n)->Hid (f4=true->uq=.int .i64 p)->Hid (f5=true->uE=.slice ao p c)->Hid (f6=true->G9=.slice gR n2 c2)->Hid (f7=true->DM=.slice ao n c)->Hid (f8=true->uF=.int .i64 tt)->Hid (f9=true->zS=.slice ao n c)->Hid (f10=true->uL=.int .i64 n)->Hid (f11=true->x20=.int .i64 q)->Hid (f12=true->kn=.slice wZ (n-q) (c-q))->Hid (f13=true->∃qq,mg=.slice (some ⟨qq,0,none⟩) 3 3∧Cl w qq #[.slice ao p c,.slice gR n2 c2,.slice wZ (n-q) (c-q)] 85)->Hid (f14=true->∃ao n c,lz=.slice ao n c∧dB w0.heap.size w lz (x++o++y))->C [f0,f1,f2,f3,f4,f5,f6,f7,f8,f9,f10,f11,f12,f13,f14,f15] {tmps:=#[.slice ao n c,.int .i64 ff,.int .i64 tt,.slice gR n2 c2,y4,y5,y6,y7,.slice none 0 0,x9,oK,uo,qI,uq,uE,G9,DM,uF,zS,uL,x20,kn,mg,lz],defers:=[]}
def V5 (w0:World)(ao gR wZ:Option Addr)(n c n2 c2 p q ff tt:Nat)(x o y:List ByteArray){y4 y5 y6 y7:Value}(C:List Bool->Act->Prop)(w:World):Prop:=∀{f0 f1 f2 f3 f4 f5 f6 f7 f8 f9 f10 f11 f12 f13 f14 f15:Bool}{x9 oK uo qI uq uE G9 DM uF zS uL x20 kn mg lz:Value},f15=false->Below w0.heap.size w0 w->Hid (f0=true->x9=.slice ao n c)->Hid (f1=true->oK=.int .i64 ff)->Hid (f2=true->uo=.slice ao n c)->Hid (f3=true->qI=.int .i64 n)->Hid (f4=true->uq=.int .i64 p)->Hid (f5=true->uE=.slice ao p c)->Hid (f6=true->G9=.slice gR n2 c2)->Hid (f7=true->DM=.slice ao n c)->Hid (f8=true->uF=.int .i64 tt)->Hid (f9=true->zS=.slice ao n c)->Hid (f10=true->uL=.int .i64 n)->Hid (f11=true->x20=.int .i64 q)->Hid (f12=true->kn=.slice wZ (n-q) (c-q))->Hid (f13=true->∃qq,mg=.slice (some ⟨qq,0,none⟩) 3 3∧Cl w qq #[.slice ao p c,.slice gR n2 c2,.slice wZ (n-q) (c-q)] 48)->Hid (f14=true->∃ao n c,lz=.slice ao n c∧cI w0.heap.size w lz (x++o++y))->C [f0,f1,f2,f3,f4,f5,f6,f7,f8,f9,f10,f11,f12,f13,f14,f15] {tmps:=#[.slice ao n c,.int .i64 ff,.int .i64 tt,.slice gR n2 c2,y4,y5,y6,y7,.slice none 0 0,x9,oK,uo,qI,uq,uE,G9,DM,uF,zS,uL,x20,kn,mg,lz],defers:=[]}
theorem kV:(∀(v vo:Value) (l o:List Int) (fr tr:Nat) (w:World) (h:Row encI 1 w v l) (ho:Row encI 1 w vo o) (hl:l.length<=10000) (hlo:o.length<=10000) (hf:fr<=100000) (ht:tr<=100000),Calls Tryz.prog 154 #[v,.int .i64 fr,.int .i64 tr,vo] w fun e w'=>∃ao n c,e=.returned (.slice ao n c)∧dB w.heap.size w' (.slice ao n c) (iJ l fr tr o)∧Below w.heap.size w w')∧
  (∀(v vo:Value) (l o:List ByteArray) (fr tr:Nat) (w:World) (h:Row encS 1 w v l) (ho:Row encS 1 w vo o) (hl:l.length<=10000) (hlo:o.length<=10000) (hf:fr<=100000) (ht:tr<=100000),Calls Tryz.prog 155 #[v,.int .i64 fr,.int .i64 tr,vo] w fun e w'=>∃ao n c,e=.returned (.slice ao n c)∧cI w.heap.size w' (.slice ao n c) (iJ l fr tr o)∧Below w.heap.size w w'):=by
 and_intros
 have jq:=trivial
 rotate_left
 have fC:=trivial
 rotate_left
 all_goals
  intro v vo l o fr tr w h ho hl hlo hf ht;obtain⟨ao,c,rfl,hc⟩:=aG h;obtain⟨gR,c2,rfl,hc2⟩:=aG ho
  first
   |have zz:=jq
    have P1:Aside (Row encI 1 w (.slice ao (min fr l.length) c) (l.take (min fr l.length))):=sI (by decide) h _ (by omega);have P2:Aside (Row encI 1 w (.slice gR o.length c2) o):=ho;have P3:Aside (Row encI 1 w _ (l.drop (min tr l.length))):=sJ (by decide) h (min tr l.length) (by omega);have e1:=zF ao l.length c (min fr l.length) (by omega);have e2:=zG ao l.length c (min tr l.length) (by omega)
   |have P1:Aside (Row encS 1 w (.slice ao (min fr l.length) c) (l.take (min fr l.length))):=sI (by decide) h _ (by omega)
    have P2:Aside (Row encS 1 w (.slice gR o.length c2) o):=ho;have P3:Aside (Row encS 1 w _ (l.drop (min tr l.length))):=sJ (by decide) h (min tr l.length) (by omega);have e1:=zH ao l.length c (min fr l.length) (by omega);have e2:=zI ao l.length c (min tr l.length) (by omega)
  generalize(if c=min tr l.length then ao else ao.map (·.add (min tr l.length*1)))=wZ at e2 P3;have t1:l.take (min fr l.length)=l.take fr:=by
   rcases Nat.le_total fr l.length with d|d
   ·rw[Nat.min_eq_left d]
   ·rw[Nat.min_eq_right d,List.take_length,List.take_of_length_le d]
  have t3:l.drop (min tr l.length)=l.drop tr:=by
   rcases Nat.le_total tr l.length with d|d
   ·rw[Nat.min_eq_left d]
   ·rw[Nat.min_eq_right d,List.drop_length,List.drop_of_length_le d]
  rw[t1]at P1;rw[t3]at P3;obtain⟨p,hp⟩:∃p,min fr l.length=p:=⟨_,rfl⟩;obtain⟨q,hq⟩:∃q,min tr l.length=q:=⟨_,rfl⟩;have hpz:min (fr:Int) (l.length:Int)=(p:Int):=by omega
  have hqz:min (tr:Int) (l.length:Int)=(q:Int):=by omega
  rw[hp]at P1 e1;rw[hq]at P3 e2;have YO:Hid (iJ l fr tr o=l.take fr++o++l.drop tr):=rfl;have lx:(l.take fr).length<=10000:=by rw[List.length_take];omega
  have ly:(l.drop tr).length<=10000:=by rw[List.length_drop];omega
  generalize l.take fr=x at*;generalize l.drop tr=y at*;generalize iJ l fr tr o=out at*;generalize l.length=n at*;clear t1 t3 h ho hp hq
  first
   |have zz:=jq
    go_enter Tryz.func154,Tryz.ntmps154
   |go_enter Tryz.func155,Tryz.ntmps155
  go_wp2_with fail
  first
   |have zz:=jq
    refine bc 15 (V4 w ao gR wZ n c o.length c2 p q fr tr x o y) (by kernel_rfl) (by kernel_rfl) (by kernel_rfl) (fun _ k=>k rfl ((Below.refl _ w).drew) ar ar ar ar ar ar ar ar ar ar ar ar ar ar ar) ?_ ?_ ?_
   |refine bc 15 (V5 w ao gR wZ n c o.length c2 p q fr tr x o y) (by kernel_rfl) (by kernel_rfl) (by kernel_rfl) (fun _ k=>k rfl ((Below.refl _ w).drew) ar ar ar ar ar ar ar ar ar ar ar ar ar ar ar) ?_ ?_ ?_
  ·intro i w' hne f0 f1 f2 f3 f4 f5 f6 f7 f8 f9 f10 f11 f12 f13 f14 f15 x9 oK uo qI uq uE G9 DM uF zS uL x20 kn mg lz e15 hB h0 h1 h2 h3 h4 h5 h6 h7 h8 h9 h10 h11 h12 dN fP hi;obtain⟨hlt,hun,_⟩:=aP hi;have hlt':i<16:=hlt;clear hlt;rcases(by omega:i=0∨i=1∨i=2∨i=3∨i=4∨i=5∨i=6∨i=7∨i=8∨i=9∨i=10∨i=11∨i=12∨i=13∨i=14)with rfl|rfl|rfl|rfl|rfl|rfl|rfl|rfl|rfl|rfl|rfl|rfl|rfl|rfl|rfl
   refine ai rfl fun K HK=>?_;go_simp
   rotate_left
   refine ai rfl fun K HK=>?_;go_simp
   rotate_left
   refine ai rfl fun K HK=>?_;go_simp
   rotate_left
   cases h2 (ah 2 hi (by kernel_rfl));refine ai rfl fun K HK=>?_;go_simp
   rotate_left
   cases h1 (ah 1 hi (by kernel_rfl));cases h3 (ah 3 hi (by kernel_rfl));refine ai rfl fun K HK=>?_;go_simp
   rotate_left
   cases h0 (ah 0 hi (by kernel_rfl));cases h4 (ah 4 hi (by kernel_rfl));refine ai rfl fun K HK=>?_;go_simp
   rotate_left
   refine ai rfl fun K HK=>?_;go_simp
   rotate_left
   refine ai rfl fun K HK=>?_;go_simp
   rotate_left
   refine ai rfl fun K HK=>?_;go_simp
   rotate_left
   refine ai rfl fun K HK=>?_;go_simp
   rotate_left
   cases h9 (ah 9 hi (by kernel_rfl));refine ai rfl fun K HK=>?_;go_simp
   rotate_left
   cases h8 (ah 8 hi (by kernel_rfl));cases h10 (ah 10 hi (by kernel_rfl));refine ai rfl fun K HK=>?_;go_simp
   rotate_left
   cases h7 (ah 7 hi (by kernel_rfl));cases h11 (ah 11 hi (by kernel_rfl));refine ai rfl fun K HK=>?_;go_simp
   rotate_left
   ·cases h5 (ah 5 hi (by kernel_rfl));cases h6 (ah 6 hi (by kernel_rfl));cases h12 (ah 12 hi (by kernel_rfl));refine ai rfl fun K HK=>?_;go_simp;exact HK.out _ _ fun _ k=>k e15 (aq _ hB) h0 h1 h2 h3 h4 h5 h6 h7 h8 h9 h10 h11 h12 (fun _=>⟨_,rfl,Cl.new _ _ _⟩) (fun d=>let⟨ao,n,c,e,o⟩:=fP.out d;⟨ao,n,c,e,ownsRow_below o (aq _ (Below.refl _ _))⟩)
   ·obtain⟨gM,rfl,c13⟩:=dN.out (ah 13 hi (by kernel_rfl));refine ai rfl fun K HK=>?_;go_simp
    first
     |have zz:=jq
      refine Calls.mono (Jd gM 85 (.slice ao p c) (.slice gR o.length c2) (.slice wZ (n-q) (c-q)) x o y w' c13 (P1.out.below hB) (P2.out.below hB) (P3.out.below hB) (by omega)) ?_
     |refine Calls.mono (sN gM 48 (.slice ao p c) (.slice gR o.length c2) (.slice wZ (n-q) (c-q)) x o y w' c13 (P1.out.below hB) (P2.out.below hB) (P3.out.below hB) (by omega)) ?_
    rintro e w1 ⟨ao,nn,cc,rfl,ow,b1⟩;exact HK.out _ _ fun _ k=>k e15 (jH b1 hB) h0 h1 h2 h3 h4 h5 h6 h7 h8 h9 h10 h11 h12 (fun d=>let⟨q,e,c⟩:=dN.out d;⟨q,e,Cl.on c (b1)⟩) (fun _=>⟨ao,nn,cc,rfl,aH ow hB.size⟩)
   all_goals exact HK.out _ _ fun _ k=>by apply k<;>first|assumption|exact hidR|(repeat' first|apply Exists.intro|assumption|rfl|apply And.intro|exact fun _=>rfl)
  ·intro w' f0 f1 f2 f3 f4 f5 f6 f7 f8 f9 f10 f11 f12 f13 f14 f15 x9 oK uo qI uq uE G9 DM uF zS uL x20 kn mg lz e15 hB h0 h1 h2 h3 h4 h5 h6 h7 h8 h9 h10 h11 h12 dN fP hi;have d14:f14=true:=ah 14 hi (by kernel_rfl);obtain⟨a14,n14,m14,rfl,o14⟩:=fP.out d14;clear hi;refine ai rfl fun K HK=>?_;go_simp;refine HK.out _ _ ?_;clear h0 h1 h2 h3 h4 h5 h6 h7 h8 h9 h10 h11 h12 dN fP;go_wp2;go_ret;exact⟨_,_,_,rfl,by rw[YO.out];exact o14,hB⟩
  ·intro _ _;intros;assumption
end
end N
end Go.Proofs.YtcenfooehjcddaaGreatDoor
