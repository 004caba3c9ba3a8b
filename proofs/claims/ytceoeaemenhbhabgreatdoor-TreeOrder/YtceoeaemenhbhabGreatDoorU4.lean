/- Walks of the package cowtree and of what it stands on: lemmas, made short. -/
import Derived.Test.YtceoeaemenhbhabGreatDoorU3
import Derived.Test.YtceoeaemenhbhabGreatDoorU1
import Derived.Orders
import Derived.Deep.RegionHeld3
import Derived.Deep.DrawnRows
set_option maxHeartbeats 16000000
set_option maxRecDepth 100000
set_option linter.unusedVariables false
set_option linter.unusedSimpArgs false
namespace Go.Proofs.YtceoeaemenhbhabGreatDoor
open Go.Shelf Go.RowKit Go.Lib Go.Sort
namespace N
section
structure Nd where
 leaf:Bool
 es:List En
 ks:List Int
 ss:List ByteArray
def nd0:Nd:=⟨false,[],[],[]⟩
def mV (k:Int):Bool:=decide (2<=k∧k<=4294967295)
theorem mv {k:Int}:mV k=true↔2<=k∧k<=4294967295:=by simp[mV]
def kE (s:ByteArray):En:=(s,⟨#[]⟩)
def uu (ss:List ByteArray):Bool:=gi (ss.map kE)
theorem BN {α β:Type}[Inhabited α][Inhabited β]{f:α->β}{l:List α}{i:Nat}(h:i<l.length):(l.map f)[i]! =f l[i]! :=by
 rw[getElem!_pos (l.map f) i (by simpa using h),getElem!_pos l i h];simp
def Fi (ss:List ByteArray)(i:Nat):Bool:=cF ss[i]! ⟨#[]⟩&&(i==0||bh ss[i-1]! ss[i]!)
theorem BO {ss:List ByteArray}{i:Nat}(h:i<ss.length):xG (ss.map kE) i=Fi ss i:=by
 unfold xG Fi;rw[BN h,BN (show i-1<ss.length by omega)];rfl
theorem BP {ss:List ByteArray}(h:∀j,j<ss.length->Fi ss j=true):uu ss=true:=
 pF fun j hj=>by
  have hj':j<ss.length:=by simpa using hj
  rw[BO hj'];exact h j hj'
theorem vD {ss:List ByteArray}(j:Nat)(hj:j<ss.length)(h:Fi ss j=false):uu ss=false:=
 rB j (by simpa using hj) (by rw[BO hj];exact h)
theorem jR {ss:List ByteArray}{i:Nat}{b c:Bool}(h1:cF ss[i]! ⟨#[]⟩=b)(h2:(i==0||bh ss[i-1]! ss[i]!)=c):Fi ss i=(b&&c):=by
 unfold Fi;rw[h1,h2]
theorem vE {ss:List ByteArray}(h:uu ss=true){s:ByteArray}(hs:s∈ss):1<=s.size∧s.size<=16:=by
 have:=cj.1 ((rg_of h).may (kE s) (List.mem_map_of_mem hs));exact⟨this.1,this.2.1⟩
def Ec (ks:List Int):Bool:=ks.all mV
theorem vF {ks:List Int}(h:∀k∈ks,mV k=true):Ec ks=true:=List.all_eq_true.2 h
theorem vG {ks:List Int}{k:Int}(h:k∈ks)(hk:mV k=false):Ec ks=false:=by
 cases e:Ec ks
 ·rfl
 ·rw[List.all_eq_true.1 e k h]at hk;cases hk
theorem vH {ks:List Int}(h:Ec ks=true){k:Int}(hk:k∈ks):mV k=true:=List.all_eq_true.1 h k hk
def cI (n:Nd):Bool:=
 if n.leaf=true then decide (n.ks.length=0)&&(decide (n.ss.length=0)&&gi n.es)
 else decide (n.es.length=0)&&(decide (0<n.ks.length)&&(decide (n.ss.length+1=n.ks.length)&&(Ec n.ks&&uu n.ss)))
theorem fE {n:Nd}(h:n.leaf=true):cI n=true↔n.ks=[]∧n.ss=[]∧Rg n.es:=by
 unfold cI;rw[if_pos h];simp only[Bool.and_eq_true,decide_eq_true_eq,List.length_eq_zero_iff,L4]
theorem ft {n:Nd}(h:n.leaf=false):cI n=true↔n.es=[]∧0<n.ks.length∧n.ss.length+1=n.ks.length∧Ec n.ks=true∧uu n.ss=true:=by
 unfold cI;rw[if_neg (by rw[h];simp)];simp only[Bool.and_eq_true,decide_eq_true_eq,List.length_eq_zero_iff]
def bO:List ByteArray->Nat
 |[]=>0
 |s::l=>5+s.size+bO l
theorem dD (l m:List ByteArray):bO (l++m)=bO l+bO m:=by
 induction l with
 |nil=>simp[bO]
 |cons x l ih=>simp[bO,ih];omega
theorem xW {l:List ByteArray}{i:Nat}(h:i<l.length):bO (l.take (i+1))=bO (l.take i)+(5+l[i]!.size):=by
 rw[List.take_add_one,List.getElem?_eq_getElem h,dD,getElem!_pos l i h];simp[bO]
theorem jS (l:List ByteArray)(i:Nat):bO (l.take i)<=bO l:=by
 have:=dD (l.take i) (l.drop i);rw[List.take_append_drop]at this;omega
theorem uv {l:List ByteArray}{b:Nat}(h:∀x∈l,x.size<=b):bO l<=l.length*(5+b):=by
 induction l with
 |nil=>simp[bO]
 |cons x l ih=>
  have h1:=h x (List.mem_cons_self ..);have h2:=ih fun y hy=>h y (List.mem_cons_of_mem _ hy);simp only[bO,List.length_cons,Nat.add_mul,Nat.one_mul];omega
def dG (n:Nd):Nat:=if n.leaf=true then cA n.es else 4+bO n.ss
def cE (n:Nd):Bool:=cI n&&decide (dG n<=240)
abbrev Pk:=ByteArray×Int
def b4 (k:Int):List UInt8:=beBytes 4 k.toNat
theorem fu (k:Int):(b4 k).length=4:=beBytes_length 4 _
def xX:List Pk->List UInt8
 |[]=>[]
 |p::l=>lM p.1++b4 p.2++xX l
theorem rL (l:List Pk):(xX l).length=bO (l.map (·.1)):=by
 induction l with
 |nil=>rfl
 |cons x l ih=>
  simp only[xX,bO,List.length_append,List.map_cons,ih,kY,fu];omega
def my (k:Int)(ps:List Pk):Nd:=⟨false,[],k::ps.map (·.2),ps.map (·.1)⟩
theorem uw:∀ {ss:List ByteArray} {ks:List Int},ss.length=ks.length->(ss.zip ks).map (·.1)=ss∧(ss.zip ks).map (·.2)=ks
 |[],[],_=>⟨rfl,rfl⟩
 |s::ss,k::ks,h=>by
  have ih:=uw (ss:=ss) (ks:=ks) (by simpa using h);simp[ih.1,ih.2]
theorem nJ {n:Nd}(h:cI n=true)(hl:n.leaf=false):∃k ps,n=my k ps∧mV k=true∧(∀p∈ps,mV p.2=true)∧uu (ps.map (·.1))=true:=by
 obtain⟨h1,h2,h3,h4,h5⟩:=(ft hl).1 h;obtain⟨lf,es,ks,ss⟩:=n;simp only at hl h1 h2 h3 h4 h5;subst hl h1;cases ks with
 |nil=>simp at h2
 |cons k ks=>
  obtain⟨z1,z2⟩:=uw (ss:=ss) (ks:=ks) (by simpa using h3);refine⟨k,ss.zip ks,?_,vH h4 (List.mem_cons_self ..),fun p hp=>?_,by rw[z1];exact h5⟩
  ·unfold my;rw[z1,z2]
  ·refine vH h4 (List.mem_cons_of_mem _ ?_);have:=List.mem_map_of_mem (f:=(·.2)) hp;rw[z2]at this;exact this
def wX (n:Nd):List UInt8:=if n.leaf=true then xK n.es else b4 (n.ks.headD 0)++xX (n.ss.zip n.ks.tail)
theorem vI (k:Int)(ps:List Pk):wX (my k ps)=b4 k++xX ps:=by
 have:∀l:List Pk,(l.map (·.1)).zip (l.map (·.2))=l:=by
  intro l
  induction l with
  |nil=>rfl
  |cons x l ih=>simp[ih]
 unfold wX my;simp[this]
theorem mz {n:Nd}(h:n.leaf=true):wX n=xK n.es:=by unfold wX;rw[if_pos h]
theorem gU {n:Nd}(h:cI n=true):(wX n).length=dG n:=by
 cases hl:n.leaf
 ·obtain⟨k,ps,rfl,_⟩:=nJ h hl;rw[vI,List.length_append,fu,rL];rfl
 ·rw[mz hl,rG];unfold dG;rw[if_pos hl]
def wY (n:Nd):Int:=if n.leaf=true then 1 else 2
theorem G4 {k:Int}(h:mV k=true):((beNat (b4 k):Nat):Int)=k:=by
 have:=mv.1 h;unfold b4;rw[jC 4 _ (by omega)];omega
theorem O0 {l:List UInt8}(h:l.length=4):b4 ((beNat l:Nat):Int)=l:=by
 unfold b4;rw[Int.toNat_natCast];exact xl 4 l h
def jx:List UInt8->Option (Pk×List UInt8)
 |[]=>none
 |c::r=>if r.length<c.toNat+4 then none else some ((⟨(r.take c.toNat).toArray⟩,((beNat ((r.drop c.toNat).take 4):Nat):Int)),r.drop (c.toNat+4))
theorem BQ (c:UInt8)(a b r:List UInt8)(h1:c.toNat=a.length)(h2:b.length=4):jx (c::(a++(b++r)))=some ((⟨a.toArray⟩,((beNat b:Nat):Int)),r):=by
 simp only[jx];have e1:¬(a++(b++r)).length<c.toNat+4:=by rw[List.length_append,List.length_append];omega
 have e2:(a++(b++r)).drop c.toNat=b++r:=by rw[h1];simp
 have e3:(a++(b++r)).take c.toNat=a:=by rw[h1];simp
 have e4:(b++r).take 4=b:=by rw[<-h2];simp
 have e5:(a++(b++r)).drop (c.toNat+4)=r:=by rw[<-List.drop_drop,e2,<-h2];simp
 rw[if_neg e1,e2,e3,e4,e5]
theorem G5 {p:Pk}(r:List UInt8)(h1:p.1.size<=255)(h2:mV p.2=true):jx (lM p.1++b4 p.2++r)=some (p,r):=by
 have s1:=Lib.size_eq p.1;have:=BQ (UInt8.ofNat p.1.size) p.1.data.toList (b4 p.2) r (by rw[ofNat_size h1];exact s1) (fu _);rw[G4 h2]at this;have e:lM p.1++b4 p.2++r=UInt8.ofNat p.1.size::(p.1.data.toList++(b4 p.2++r)):=by simp[lM]
 rw[e,this]
theorem xY {s r:List UInt8}{p:Pk}(h:jx s=some (p,r)):s=lM p.1++b4 p.2++r:=by
 cases s with
 |nil=>simp[jx]at h
 |cons c t=>
  simp only[jx]at h;by_cases h1:t.length<c.toNat+4
  ·rw[if_pos h1]at h;cases h
  ·rw[if_neg h1]at h;cases h;have l1:c.toNat=(t.take c.toNat).length:=by simp;omega
   have l2:((t.drop c.toNat).take 4).length=4:=by simp;omega
   simp only;rw[O0 l2,List.append_assoc,Ah l1,<-List.drop_drop,List.take_append_drop,List.take_append_drop]
theorem nK {s r:List UInt8}{p:Pk}(h:jx s=some (p,r)):r.length<s.length:=by
 rw[xY h,List.length_append,List.length_append,fu];omega
def QI:Nat->List UInt8->Option (List Pk)
 |0,s=>if s.isEmpty then some []else none
 |n+1,s=>if s.isEmpty then some []else
  match jx s with
  |none=>none
  |some (x,r)=>(QI n r).map (x:: ·)
def Ed (s:List UInt8):Option (List Pk):=QI s.length s
theorem BR:∀(n m:Nat) (s:List UInt8),s.length<=n->s.length<=m->QI n s=QI m s
 |0,m,s,h,_=>by
  obtain rfl:s=[]:=List.length_eq_zero_iff.1 (by omega);cases m<;>rfl
 |n+1,0,s,_,h=>by
  obtain rfl:s=[]:=List.length_eq_zero_iff.1 (by omega);rfl
 |n+1,m+1,s,h1,h2=>by
  unfold QI;cases hs:s.isEmpty
  ·cases ht:jx s with
   |none=>rfl
   |some p=>
    obtain⟨x,r⟩:=p;have:=nK ht;simp only;rw[BR n m r (by omega) (by omega)]
  ·rfl
theorem BS:Ed []=some []:=rfl
theorem xZ {s:List UInt8}(hs:s≠[])(h:jx s=none):Ed s=none:=by
 cases s with
 |nil=>exact absurd rfl hs
 |cons c t=>unfold Ed;simp only[List.length_cons,QI,h];rfl
theorem rM {s r:List UInt8}{x:Pk}(h:jx s=some (x,r)):Ed s=(Ed r).map (x:: ·):=by
 have hl:=nK h;cases s with
 |nil=>simp[jx]at h
 |cons c t=>
  unfold Ed;simp only[List.length_cons,QI,h];rw[BR t.length r.length r (by simpa using Nat.lt_succ_iff.1 hl) (Nat.le_refl _)];rfl
theorem Mk {l:List Pk}(h:∀p∈l,p.1.size<=255∧mV p.2=true):Ed (xX l)=some l:=by
 induction l with
 |nil=>rfl
 |cons x l ih=>
  have h1:=h x (List.mem_cons_self ..);unfold xX;rw[rM (G5 (xX l) h1.1 h1.2),ih fun y hy=>h y (List.mem_cons_of_mem _ hy)];rfl
theorem BU:∀(n:Nat) (s:List UInt8) (l:List Pk),s.length<=n->Ed s=some l->xX l=s
 |n,[],l,_,h=>by rw[BS]at h;cases h;rfl
 |0,c::t,l,hn,_=>by simp at hn
 |n+1,c::t,l,hn,h=>by
  cases hs:jx (c::t)with
  |none=>rw[xZ (by simp) hs]at h;cases h
  |some p=>
   obtain⟨x,r⟩:=p;have hl:=nK hs;rw[rM hs]at h;cases hd:Ed r with
   |none=>rw[hd]at h;cases h
   |some m=>
    rw[hd]at h;cases h;rw[xX,BU n r m (by simp at hn hl⊢;omega) hd,<-xY hs]
def BV (s:List UInt8):Option Nd:=if s.length<4 then none else(Ed (s.drop 4)).map (my ((beNat (s.take 4):Nat):Int))
def ux (kind:Int)(s:List UInt8):Option Nd:=
 if 240<s.length then none
 else if kind=1 then(if D6 s=true then some ⟨true,xN s,[],[]⟩else none)
 else if kind=2 then(match BV s with|none=>none|some n=>if cI n=true then some n else none)
 else none
theorem Ml {s:List UInt8}{n:Nd}(h:BV s=some n):∃k ps,n=my k ps∧wX n=s:=by
 unfold BV at h;by_cases c:s.length<4
 ·rw[if_pos c]at h;cases h
 ·rw[if_neg c]at h;cases hd:Ed (s.drop 4)with
  |none=>rw[hd]at h;cases h
  |some ps=>
   rw[hd]at h;cases h;refine⟨_,ps,rfl,?_⟩;rw[vI,BU _ _ _ (Nat.le_refl _) hd,O0 (by simp;omega),List.take_append_drop]
theorem G6 {k:Int}{ps:List Pk}(hk:mV k=true)(h:∀p∈ps,p.1.size<=255∧mV p.2=true):BV (wX (my k ps))=some (my k ps):=by
 rw[vI];unfold BV;have e1:(b4 k++xX ps).drop 4=xX ps:=by rw[<-fu k];simp
 have e2:(b4 k++xX ps).take 4=b4 k:=by rw[<-fu k];simp
 rw[if_neg (by rw[List.length_append,fu];omega),e1,e2,Mk h,G4 hk];rfl
theorem yc {n:Nd}(h:cI n=true)(hs:dG n<=240):ux (wY n) (wX n)=some n:=by
 unfold ux;rw[if_neg (by rw[gU h];omega)];cases hl:n.leaf
 ·have ek:wY n=2:=by unfold wY;rw[hl];rfl
  rw[ek,if_neg (by decide),if_pos rfl];obtain⟨k,ps,rfl,h1,h2,h3⟩:=nJ h hl;rw[G6 h1 fun p hp=>⟨by have:=vE h3 (List.mem_map_of_mem (f:=(·.1)) hp);omega,h2 p hp⟩];simp only;rw[if_pos h]
 ·have ek:wY n=1:=by unfold wY;rw[hl];rfl
  obtain⟨a,b,c⟩:=(fE hl).1 h;obtain⟨d1,d2⟩:=Mc c;rw[ek,if_pos rfl,mz hl,d2,if_pos rfl,d1];obtain⟨lf,es,ks,ss⟩:=n;simp only at hl a b;subst hl a b;rfl
theorem G7 {kind:Int}{s:List UInt8}{n:Nd}(h:ux kind s=some n):cI n=true∧dG n<=240∧wX n=s∧wY n=kind:=by
 unfold ux at h;by_cases c:240<s.length
 ·rw[if_pos c]at h;cases h
 ·rw[if_neg c]at h;by_cases c1:kind=1
  ·rw[if_pos c1]at h;cases hb:D6 s
   ·rw[hb,if_neg (by simp)]at h;cases h
   ·rw[hb,if_pos rfl]at h;cases h;obtain⟨d1,d2⟩:=D7 hb;have r:cI ⟨true,xN s,[],[]⟩=true:=(fE rfl).2 ⟨rfl,rfl,d1⟩;have e:wX ⟨true,xN s,[],[]⟩=s:=by rw[mz rfl];exact d2
    refine⟨r,?_,e,by rw[c1];rfl⟩;rw[<-gU r,e];omega
  ·rw[if_neg c1]at h;by_cases c2:kind=2
   ·rw[if_pos c2]at h;cases hd:BV s with
    |none=>rw[hd]at h;cases h
    |some m=>
     rw[hd]at h;simp only at h;cases hr:cI m
     ·rw[hr,if_neg (by simp)]at h;cases h
     ·rw[hr,if_pos rfl]at h;cases h;obtain⟨k,ps,e1,e2⟩:=Ml hd;refine⟨hr,by rw[<-gU hr,e2];omega,e2,?_⟩;rw[c2,e1];rfl
   ·rw[if_neg c2]at h;cases h
def tE (kind:Int)(s:List UInt8):Nd:=(ux kind s).getD nd0
def uy (kind:Int)(s:List UInt8):Bool:=(ux kind s).isSome
end
section
def dA (ss:List ByteArray)(k:ByteArray):Nat:=ss.countP fun s=>!bh k s
def vJ (n:Nd):Bool:=cI n&&(decide (2<=n.es.length)||decide (2<=n.ks.length))
def G8 (n:Nd):Nat:=if n.leaf=true then ei n.es else n.ks.length/2
def VV (n:Nd):Nd:=if n.leaf=true then⟨true,n.es.take (G8 n),[],[]⟩else⟨false,[],n.ks.take (G8 n),n.ss.take (G8 n-1)⟩
def W5 (n:Nd):Nd:=if n.leaf=true then⟨true,n.es.drop (G8 n),[],[]⟩else⟨false,[],n.ks.drop (G8 n),n.ss.drop (G8 n)⟩
def W6 (n:Nd):ByteArray:=if n.leaf=true then n.es[G8 n]!.1 else n.ss[G8 n-1]!
def je (a:Nd)(k:ByteArray)(b:Nd):Nd:=if a.leaf=b.leaf then⟨a.leaf,a.es++b.es,a.ks++b.ks,a.ss++(if a.leaf=true then []else [k])++b.ss⟩else a
def iy {α:Type}(l:List α)(f t:Nat)(o:List α):List α:=l.take f++o++l.drop t
def swB (n:Nd)(f t:Int)(ks:List Int)(ss:List ByteArray):Bool:=
 decide (0<=f)&&(decide (t<=n.ks.length)&&(decide (f<t)&&(decide ((ss.length:Int)=max ((ks.length:Int)-1) 0)&& !n.leaf)))
def uz (f:Nat)(ks:List Int):Nat:=if 0<ks.length then f else f-1
def uA (f t:Nat)(ks:List Int):Nat:=if 0<ks.length then t-1 else if 0<f then t-1 else t
def fT (n:Nd)(f t:Int)(ks:List Int)(ss:List ByteArray):Nd:=
 if swB n f t ks ss=true then⟨false,n.es,iy n.ks f.toNat t.toNat ks,iy n.ss (uz f.toNat ks) (uA f.toNat t.toNat ks) ss⟩else n
theorem ye {n:Nd}(h:vJ n=true)(hl:n.leaf=true):n.ks=[]∧n.ss=[]∧Rg n.es∧2<=n.es.length:=by
 unfold vJ at h;rw[Bool.and_eq_true]at h;obtain⟨h1,h2⟩:=h;obtain⟨a,b,c⟩:=(fE hl).1 h1;refine⟨a,b,c,?_⟩;rw[a]at h2;simpa using h2
theorem uB {n:Nd}(h:vJ n=true)(hl:n.leaf=false):n.es=[]∧2<=n.ks.length∧n.ss.length+1=n.ks.length∧Ec n.ks=true∧uu n.ss=true:=by
 unfold vJ at h;rw[Bool.and_eq_true]at h;obtain⟨h1,h2⟩:=h;obtain⟨a,_,b,c,d⟩:=(ft hl).1 h1;refine⟨a,?_,b,c,d⟩;rw[a]at h2;simpa using h2
end
section
section
variable {P:Program}{ops:Array Oper}{Q:Exit->Act->World->Prop}{md:Region.Mode}
theorem aM {listed:Array Bool}{i:Nat}(h:i∈Region.ready md ops listed):
  i<ops.size∧listed.getD i true=false∧∀o,ops[i]? =some o->(o.after.all fun e=>!Region.binds md e||listed.getD e.on false)=true:=by
 unfold Region.ready at h;rw[List.mem_filter,List.mem_range]at h;obtain⟨h1,h2⟩:=h;rw[Bool.and_eq_true]at h2;refine⟨h1,by simpa using h2.1,fun o ho=>?_⟩;have:=h2.2;rw[ho]at this;simpa using this
def waits (md:Region.Mode)(ops:Array Oper)(i j:Nat):Bool:=match ops[i]? with
 |some o=>o.after.any fun e=>e.on==j&&Region.binds md e
 |none=>false
theorem ah {listed:Array Bool}{i:Nat}(j:Nat)(h:i∈Region.ready md ops listed)(hj:waits md ops i j=true):listed.getD j false=true:=by
 obtain⟨h1,_,h3⟩:=aM h;have Uj:ops[i]? =some ops[i]:=Array.getElem?_eq_getElem h1;have h4:=h3 _ Uj;unfold waits at hj;rw[Uj]at hj;simp only at hj;rw[Array.any_eq_true]at hj;obtain⟨k,hk,hx⟩:=hj;rw[Bool.and_eq_true,beq_iff_eq]at hx;rw[Array.all_eq_true]at h4;have h5:=h4 k hk;rw[hx.2,hx.1]at h5;simpa using h5
def ahead (md:Region.Mode)(ops:Array Oper):Bool:=(List.range ops.size).all fun i=>match ops[i]? with
 |some o=>o.after.all fun e=>!Region.binds md e||decide (e.on<i)
 |none=>true
theorem G9 {listed:Array Bool}(hs:listed.size=ops.size)(ho:ahead md ops=true):∀i,i<ops.size->listed.getD i true=false->Region.ready md ops listed≠[]:=by
 intro i
 induction i using Nat.strongRecOn with
 |ind i ih=>
  intro hi hu;by_cases c:∃j,j<i∧listed.getD j true=false
  ·obtain⟨j,hj,hju⟩:=c;exact ih j hj (by omega) hju
  ·have hm:i∈Region.ready md ops listed:=by
    unfold Region.ready;rw[List.mem_filter,List.mem_range];refine⟨hi,?_⟩;have hoi:ops[i]? =some ops[i]:=Array.getElem?_eq_getElem hi;rw[hu,hoi];have ha:=List.all_eq_true.1 ho i (List.mem_range.2 hi);rw[hoi]at ha;simp only[Option.map_some,Option.getD_some,Bool.not_false,Bool.true_and];rw[Array.all_eq_true]at ha⊢;intro k hk;have hb:=ha k hk;cases hbd:Region.binds md ops[i].after[k]
    ·rfl
    rw[hbd]at hb;have:=of_decide_eq_true (by simpa using hb:decide (ops[i].after[k].on<i)=true);have e:listed.getD ops[i].after[k].on true=true:=by
     cases e:listed.getD ops[i].after[k].on true
     ·exact absurd ⟨_,this,e⟩ c
     ·rfl
    have hlt:ops[i].after[k].on<listed.size:=by omega
    have e2:listed.getD ops[i].after[k].on false=true:=by
     simp only[Array.getD,hlt,dif_pos]at e⊢;exact e
    rw[e2];rfl
   intro e;rw[e]at hm;cases hm
theorem count_set {f:List Bool}{i n:Nat}(hi:i<f.length)(hf:f[i]=false)(hc:f.count false=n+1):(f.set i true).count false=n:=by
 rw[List.count_set hi,hf,hc];simp
theorem uC (ho:ahead md ops=true)(J:List Bool->Act->World->Prop)
  (hstep:∀i f a w,f.length=ops.size->J f a w->i∈Region.ready md ops f.toArray->wpOp P ops Q i (fun a' w'=>J (f.set i true) a' w') a w)
  (hdone:∀a w,J (List.replicate ops.size true) a w->Q .normal a w):
  ∀n f a w,f.length=ops.size->f.count false=n->J f a w->wpAny P md ops Q n f.toArray a w:=by
 intro n
 induction n with
 |zero=>
  intro f a w hl hc hJ;have hall:f=List.replicate ops.size true:=by
   rw[List.eq_replicate_iff];refine⟨hl,fun b hb=>?_⟩;cases b
   ·exact absurd hb (List.count_eq_zero.1 hc)
   ·rfl
  refine⟨?_,hdone a w (hall▸hJ)⟩;rw[List.eq_nil_iff_forall_not_mem];intro i hi;obtain⟨h1,h2,_⟩:=aM hi;rw[hall]at h2;simp[Array.getD]at h2
 |succ n ih=>
  intro f a w hl hc hJ;refine⟨fun e=>?_,fun i hi=>?_⟩
  ·exfalso;have hm:false∈f:=List.count_pos_iff.1 (by omega);obtain⟨i,hi,he⟩:=List.getElem_of_mem hm;refine G9 (md:=md) (listed:=f.toArray) (by simpa using hl) ho i (by omega) ?_ e;simp[Array.getD,hi,he]
  ·obtain⟨h1,h2,_⟩:=aM hi;have hif:i<f.length:=by omega
   have hfi:f[i]=false:=by simpa[Array.getD,hif]using h2
   refine wpOp_mono (fun a' w' h'=>?_) (hstep i f a w hl hJ hi);have:=ih (f.set i true) a' w' (by simpa using hl) (count_set hif hfi hc) h';simpa using this
def Aq (md:Region.Mode)(ops:Array Oper)(L:Nat):Bool:=(List.range ops.size).all fun i=>i==L||match ops[L]? with
 |some o=>o.after.any fun e=>e.on==i&&Region.binds md e
 |none=>false
theorem Hc {f:List Bool}{L:Nat}(hl:f.length=ops.size)(hL:Aq md ops L=true)(h:L∈Region.ready md ops f.toArray):f.set L true=List.replicate ops.size true:=by
 obtain⟨h1,h2,h3⟩:=aM h;have Uj:ops[L]? =some ops[L]:=Array.getElem?_eq_getElem h1;have h4:=h3 _ Uj;refine List.eq_replicate_iff.2 ⟨by simpa using hl,fun b hb=>?_⟩;obtain⟨i,hi,rfl⟩:=List.getElem_of_mem hb;rw[List.getElem_set];by_cases c:L=i
 ·rw[if_pos c]
 ·rw[if_neg c];have hi':i<f.length:=by simpa using hi
  have hx:=List.all_eq_true.1 hL i (List.mem_range.2 (by omega));rw[Uj]at hx;simp only[Bool.or_eq_true,beq_iff_eq]at hx;rcases hx with hx|hx
  ·exact absurd hx.symm c
  ·rw[Array.any_eq_true]at hx;obtain⟨k,hk,hx⟩:=hx;rw[Bool.and_eq_true,beq_iff_eq]at hx;rw[Array.all_eq_true]at h4;have h5:=h4 k hk;rw[hx.2,hx.1]at h5;simpa[Array.getD,hi']using h5
theorem Ar {id:Nat}{a:Act}{w:World}(L:Nat)(J:List Bool->Act->World->Prop)(hm:P.follows .mixedOrders=true)(ho:ahead .any ops=true)(hL:Aq .any ops L=true)
  (h0:J (List.replicate ops.size false) a w.drew)
  (hstep:∀i f a w,i≠L->f.length=ops.size->J f a w->i∈Region.ready .any ops f.toArray->wpOp P ops Q i (fun a' w'=>J (f.set i true) a' w') a w)
  (hlast:∀f a w,f.length=ops.size->J f a w->L∈Region.ready .any ops f.toArray->wpOp P ops Q L (fun a' w'=>Q .normal a' w') a w)
  (hJ:∀f a w,J f a w->f.getD L true=false):(Code.region id ops true).wp P Q a w:=by
 refine wp_region_any hm ?_;have key:=uC (P:=P) (Q:=Q) (md:=.any) ho (fun f a w=>J f a w∨(f=List.replicate ops.size true∧Q .normal a w)) (fun i f a w hl hj hi=>?_) (fun a w hj=>?_) ops.size (List.replicate ops.size false) a w.drew (by simp) (by simp) (Or.inl h0)
 ·simpa using key
 ·rcases hj with hj| ⟨rfl,_⟩
  ·by_cases c:i=L
   ·subst c;exact wpOp_mono (fun a' w' h'=>Or.inr ⟨Hc hl hL hi,h'⟩) (hlast f a w hl hj hi)
   ·exact wpOp_mono (fun a' w' h'=>Or.inl h') (hstep i f a w c hl hj hi)
  ·exfalso;obtain⟨h1,h2,_⟩:=aM hi;simp[Array.getD]at h2
 ·rcases hj with hj| ⟨_,hj⟩
  ·exfalso;have:=hJ _ _ _ hj;rw[List.getD_eq_getElem?_getD,List.getElem?_replicate]at this;split at this<;>simp at this
  ·exact hj
section
def Ch (K:(List Bool->Act->Prop)->World->Prop)(f:List Bool)(a:Act)(w:World):Prop:=∀C,K C w->C f a
theorem hidR {α:Sort _}{a:α}{p:Prop}:Hid (p->a=a):=fun _=>rfl
theorem ar {p:Prop}:Hid (false=true->p):=fun h=>by cases h
theorem aj {P:Program}{ops:Array Oper}{Q:Exit->Act->World->Prop}{i:Nat}{o:Oper}{K:Act->World->Prop}{a:Act}{w:World}(ho:ops[i]? =some o)(h:∀K':Act->World->Prop,Shut (∀a w,K a w->K' a w)->if Region.wanted o (yielded ops a.tmps)=true then Oper.wp P o a w K' Q else K' (a.put o.dst undef) w):wpOp P ops Q i K a w:=wpOp_step ho h
theorem aT {P:Program}{ops:Array Oper}{Q:Exit->Act->World->Prop}{id:Nat}{a:Act}{w:World}(L:Nat)(K:(List Bool->Act->Prop)->World->Prop)(hm:P.follows .mixedOrders=true)(ho:ahead .any ops=true)(hL:Aq .any ops L=true)(h0:Ch K (List.replicate ops.size false) a w.drew)
  (hstep:∀i w,i≠L->K (fun f a=>i∈Region.ready .any ops f.toArray->wpOp P ops Q i (fun a' w'=>Ch K (f.set i true) a' w') a w) w)
  (hlast:∀w,K (fun f a=>L∈Region.ready .any ops f.toArray->wpOp P ops Q L (fun a' w'=>Q .normal a' w') a w) w)
  (hJ:∀w,K (fun f _=>f.getD L true=false) w):(Code.region id ops true).wp P Q a w:=
 Ar L (Ch K) hm ho hL h0 (fun i _ _ w hne _ hj=>hj _ (hstep i w hne)) (fun _ _ w _ hj=>hj _ (hlast w)) (fun _ _ w hj=>hj _ (hJ w))
end
end
end
section
def encI (n:Int):List Value:=[.int .i64 n]
theorem iM (n:Int):(encI n).length=1:=rfl
theorem yf (n:Int):∀v∈encI n,v.oneCell'=true:=fun v hv=>by simp[encI]at hv;subst hv;rfl
theorem pB:(Tryz.prog.info? 3).map (fun i=>(i.zero,i.size,i.bytes))=some (some (.int .i64 0),1,8):=by kernel_rfl
abbrev dO (base:Nat)(W:World)(v:Value)(l:List Int):Prop:=W.ownsRow base 3 1 v l.length (flatK encI 1 l.toArray).toList
section
variable {α:Type}[Inhabited α]{enc:α->List Value}{k:Nat}{w w':World}{v:Value}{l:List α}
theorem ax (h:Row enc k w v l):∃ao c,v=.slice ao l.length c∧l.length<=c:=by
 obtain⟨ao,cap,rfl,h1,_⟩:=h;exact⟨ao,cap,rfl,h1⟩
theorem Au:Row enc k w (.slice none 0 0) ([]:List α):=(Own.nil (base:=0)).row
theorem BZ (hk0:0<k){ao:Option Addr}{n c:Nat}(h:Row enc k w (.slice ao n c) l)(i j m:Nat)(hm:j=i+m)(hj:j<=l.length)(cW:Option Addr)(hao:∀b off,ao=some ⟨b,off,none⟩->m≠0->cW=some ⟨b,off+i*k,none⟩)(c':Nat)(hc:m<=c')(hz:cW=none->c'=0):
  Row enc k w (.slice cW m c') ((l.drop i).take m):=by
 obtain⟨sY,cap,e,h1,h2,h3⟩:=h;cases e;have hlen:((l.drop i).take m).length=m:=by simp;omega
 refine⟨cW,c',by rw[hlen],by rw[hlen];exact hc,hz,fun hne=>?_⟩;have hm0:m≠0:=by intro e;subst e;simp at hne
 obtain⟨b,off,e,hlt,hcell⟩:=h3 (by intro e;subst e;simp at hj;omega);refine⟨b,off+i*k,hao b off e hm0,hlt,fun t ht=>?_⟩;rw[hlen]at ht;have hlk:i*k+t<l.length*k:=by
  have h5:i*k+m*k=j*k:=by rw[hm,Nat.add_mul]
  have h6:j*k<=l.length*k:=Nat.mul_le_mul_right k hj;omega
 have htk:t/k<m:=(Nat.div_lt_iff_lt_mul hk0).2 ht;rw[Nat.add_assoc,hcell (i*k+t) hlk,get_flatK _ _ _ _ (by simpa using hlk),get_flatK _ _ _ _ (by rw[List.size_toArray,hlen];exact ht)];have e1:(i*k+t)/k=i+t/k:=by rw[Nat.mul_comm,Nat.mul_add_div hk0]
 have e2:(i*k+t)%k=t%k:=by rw[Nat.mul_comm,Nat.mul_add_mod]
 rw[e1,e2,getElem!_pos l.toArray (i+t/k) (by simp;omega),getElem!_pos ((l.drop i).take m).toArray (t/k) (by simp;omega)];simp
theorem rN (hk0:0<k){ao:Option Addr}{n c:Nat}(h:Row enc k w (.slice ao n c) l)(i:Nat)(hi:i<=l.length):Row enc k w (.slice ao i c) (l.take i):=by
 have e:=h;obtain⟨sY,cap,e1,h1,h2,h3⟩:=e;cases e1;have:=BZ hk0 h 0 i i (by omega) hi ao (fun b off e _=>by rw[e];simp) c (by omega) h2;simpa using this
theorem rO (hk0:0<k){ao:Option Addr}{n c:Nat}(h:Row enc k w (.slice ao n c) l)(i:Nat)(hi:i<=l.length):Row enc k w (.slice (if c=i then ao else ao.map (·.add (i*k))) (n-i) (c-i)) (l.drop i):=by
 have e:=h;obtain⟨sY,cap,e1,h1,h2,h3⟩:=e;cases e1;have:=BZ hk0 h i l.length (l.length-i) (by omega) (Nat.le_refl _) (if c=i then ao else ao.map (·.add (i*k))) (fun b off e hm=>by
  rw[if_neg (by omega),e]
  show some (Addr.add ⟨b,off,none⟩ (i*k))=_
  rw[Go.WideShapes.add_plain]) (c-i) (by omega) (fun e=>by
  by_cases c1:c=i
  ·omega
  ·rw[if_neg c1]at e
   have:ao=none:=by cases ao with
    |none=>rfl
    |some a=>simp at e
   have:=h2 this
   omega)
 rwa [List.take_of_length_le (by simp)]at this
end
theorem pH {w wr:World}{ao:Option Addr}{l:List Int}(h3:l≠[]->∃b off,ao=some ⟨b,off,none⟩∧b<w.heap.size∧bJ encI 1 w b off l)(i:Nat)(hi:i<l.length)(hb:Below w.heap.size w wr):
  ∃b off,ao=some ⟨b,off,none⟩∧b<w.heap.size∧wr.cell? ⟨b,off+i,none⟩=some (.int .i64 l[i]!):=by
 obtain⟨b,off,e,hlt,hc⟩:=h3 (by intro h;rw[h]at hi;simp at hi);refine⟨b,off,e,hlt,?_⟩;rw[hb.cell (p:=⟨b,off+i,none⟩) hlt,hc i (by omega),get_flatK _ _ _ _ (by simp;omega),show i/1=i by omega,show i%1=0 by omega];simp[encI]
theorem gB {w wr:World}{ao:Option Addr}{l:List ByteArray}(h3:l≠[]->∃b off,ao=some ⟨b,off,none⟩∧b<w.heap.size∧bJ encS 1 w b off l)(i:Nat)(hi:i<l.length)(hb:Below w.heap.size w wr):
  ∃b off,ao=some ⟨b,off,none⟩∧b<w.heap.size∧wr.cell? ⟨b,off+i,none⟩=some (.string l[i]!):=by
 obtain⟨b,off,e,hlt,hc⟩:=h3 (by intro h;rw[h]at hi;simp at hi);refine⟨b,off,e,hlt,?_⟩;rw[hb.cell (p:=⟨b,off+i,none⟩) hlt,hc i (by omega),get_flatK _ _ _ _ (by simp;omega),show i/1=i by omega,show i%1=0 by omega];simp[encS]
theorem bM {base:Nat}{w:World}{e:TypeId}{k:Nat}{v:Value}{n:Nat}{xs:List Value}(h:w.ownsRow base e k v n xs):∃ao c,v=.slice ao n c:=by
 rcases h.2 with⟨h,h2⟩| ⟨g,cap,cur,h,_⟩
 ·rw[h2];exact⟨_,_,h⟩
 ·exact⟨_,_,h⟩
theorem aH {base base':Nat}{w:World}{e:TypeId}{k:Nat}{v:Value}{n:Nat}{xs:List Value}(h:w.ownsRow base e k v n xs)(hb:base'<=base):w.ownsRow base' e k v n xs:=by
 refine⟨h.1,?_⟩;rcases h.2 with h2| ⟨g,cap,cur,hv,hg,r⟩
 ·exact Or.inl h2
 ·exact Or.inr ⟨g,cap,cur,hv,Nat.le_trans hb hg,r⟩
theorem jT {base:Nat}{W:World}{e:TypeId}{k:Nat}{v:Value}{n:Nat}{xs:List Value}(h:W.ownsRow base e k v n xs):∀r,v.ownBlock=some r->base<=r:=by
 intro r hk;rcases fp h with hr| ⟨r,hr,hle⟩
 ·rw[hr]at hk;cases hk
 ·rw[hr]at hk;cases hk;exact hle
theorem Hd {base:Nat}{w:World}{v u:Value}{l m:List En}(ty:TypeId)(h:bj base w v l)(hu:Row aG 2 w u m)(hl:l.length+m.length<1000000)(hbase:base<=w.heap.size):
  ∃ao n c w',(Builtin.append_ #[32,32] ty #[v,u]).run Tryz.prog w=.ok (.slice ao n c) w'∧bj base w' (.slice ao n c) (l++m)∧(∀w0,Below base w0 w->Below base w0 w'):=by
 obtain⟨i0,hi,hz0,hz1,hz2⟩:=info_parts eG;have ht:=Tryz.underlying32;obtain⟨ao,cap,rfl,h1,h2,h3⟩:=hu;cases ao with
 |none=>
  have hm:m=[]:=by
   rcases List.eq_nil_or_concat m with e1| ⟨m',y,e1⟩
   ·exact e1
   ·obtain⟨b,off,e2,_⟩:=h3 (by rw[e1];simp);cases e2
  subst hm;have hc0:=h2 rfl;subst hc0;obtain⟨av,cv,rfl⟩:=bM h;exact⟨_,_,_,w,run_append_owned_none (P:=Tryz.prog) w base _ ty _ i0 2 ht hi _ _ _ h,by rw[List.append_nil];exact h,fun _ hb=>hb⟩
 |some ad=>
  obtain⟨v',w',hr,g1,g2,_⟩:=run_append_own (P:=Tryz.prog) w base 32 ty 38 i0 _ 2 32 ht hi hz0 hz1 hz2 rfl (by decide) v _ _ h ad m.length cap (flatK aG 2 m.toArray).toList (by simp) (fun j u hj=>by
   obtain⟨hj1,hj2⟩:=List.getElem?_eq_some_iff.1 hj
   have kI:j<m.length*2:=by simpa using hj1
   obtain⟨b,off,e2,_,hc⟩:=h3 (by intro e;rw[e]at kI;simp at kI)
   cases e2
   rw[Go.WideShapes.add_plain,hc j kI,getElem!_pos _ j (by simpa using kI),<-hj2]
   simp) (cM ew cP) (by unfold maxLen;omega) (by omega) hbase
  obtain⟨av,cv,rfl⟩:=bM g1;refine⟨_,_,_,w',hr,?_,fun w0 hb=>hb.grown g2 hbase fun k hk=>jT h k hk⟩;show w'.ownsRow base 38 2 _ (l++m).length (flatK aG 2 (l++m).toArray).toList;rw[List.length_append,bG aG 2 cP];exact g1
theorem W7 {ops:Array Oper}{rest:List Oper}{o:Oper}{a:Act}{Q:Exit->Act->World->Prop}{w:World}(hgd:o.guard=.none)(s x:Operand)
  (ho:o.op=.call {callee:=.builtin .append,args:=#[s,x],argTypes:=#[32,32]})(base:Nat)(v:Value)(l:List En)(hs:a.eval s=v)(hown:bj base w v l)
  (u:Value)(m:List En)(hx:a.eval x=u)(hu:Row aG 2 w u m)(hl:l.length+m.length<1000000)(hbase:base<=w.heap.size)(lm:List En)(hlm:l++m=lm)
  (h:∀ao n c w',bj base w' (.slice ao n c) lm->(∀w0,Below base w0 w->Below base w0 w')->wpList Tryz.prog ops Q rest (a.put o.dst (.slice ao n c)) w'):wpList Tryz.prog ops Q (o::rest) a w:=by
 subst hlm;refine wpList_plain hgd fun K hK'=>?_;obtain⟨ao,n,c,w',hrun,h1,h2⟩:=Hd o.type hown hu hl hbase;unfold Oper.wp;simp[execOp,ho,resolve,invoke,builtin,hs,hx,hrun,Result.andThen];exact hK' _ _ (h ao n c w' h1 h2)
theorem W8:Tryz.prog.underlying 32=some (.slice (Tryz.prog.elem 32)):=by kernel_rfl
theorem W9 (u:World):(sizeOf (Tryz.prog.elem 32)).run Tryz.prog u=.ok 2 u:=by kernel_rfl
theorem Uk (ao:Option Addr)(n c k:Nat)(hk:k<=c)(u:World):(Instr.slice 32 (.slice ao n c) none (some (.int .i64 (k:Int))) none).run Tryz.prog u=.ok (.slice ao k c) u:=by
 rw[run_slice_h u 32 ao n c W8 .i64 k (by omega) (by omega),W9];simp only[Result.andThen,sliced,Int.toNat_natCast];cases ao<;>simp[add0]
theorem He {base:Nat}{w:World}{v u:Value}{l m:List Int}(ty:TypeId)(h:dO base w v l)(hu:Row encI 1 w u m)(hl:l.length+m.length<1000000)(hbase:base<=w.heap.size):
  ∃ao n c w',(Builtin.append_ #[51,51] ty #[v,u]).run Tryz.prog w=.ok (.slice ao n c) w'∧dO base w' (.slice ao n c) (l++m)∧(∀w0,Below base w0 w->Below base w0 w'):=by
 obtain⟨i0,hi,hz0,hz1,hz2⟩:=info_parts pB;have ht:=Tryz.underlying51;obtain⟨ao,cap,rfl,h1,h2,h3⟩:=hu;cases ao with
 |none=>
  have hm:m=[]:=by
   rcases List.eq_nil_or_concat m with e1| ⟨m',y,e1⟩
   ·exact e1
   ·obtain⟨b,off,e2,_⟩:=h3 (by rw[e1];simp);cases e2
  subst hm;have hc0:=h2 rfl;subst hc0;obtain⟨av,cv,rfl⟩:=bM h;exact⟨_,_,_,w,run_append_owned_none (P:=Tryz.prog) w base _ ty _ i0 1 ht hi _ _ _ h,by rw[List.append_nil];exact h,fun _ hb=>hb⟩
 |some ad=>
  obtain⟨v',w',hr,g1,g2,_⟩:=run_append_own (P:=Tryz.prog) w base 51 ty 3 i0 _ 1 8 ht hi hz0 hz1 hz2 rfl (by decide) v _ _ h ad m.length cap (flatK encI 1 m.toArray).toList (by simp) (fun j u hj=>by
   obtain⟨hj1,hj2⟩:=List.getElem?_eq_some_iff.1 hj
   have kI:j<m.length*1:=by simpa using hj1
   obtain⟨b,off,e2,_,hc⟩:=h3 (by intro e;rw[e]at kI;simp at kI)
   cases e2
   rw[Go.WideShapes.add_plain,hc j kI,getElem!_pos _ j (by simpa using kI),<-hj2]
   simp) (cM yf iM) (by unfold maxLen;omega) (by omega) hbase
  obtain⟨av,cv,rfl⟩:=bM g1;refine⟨_,_,_,w',hr,?_,fun w0 hb=>hb.grown g2 hbase fun k hk=>jT h k hk⟩;show w'.ownsRow base 3 1 _ (l++m).length (flatK encI 1 (l++m).toArray).toList;rw[List.length_append,bG encI 1 iM];exact g1
theorem Xc {ops:Array Oper}{rest:List Oper}{o:Oper}{a:Act}{Q:Exit->Act->World->Prop}{w:World}(hgd:o.guard=.none)(s x:Operand)
  (ho:o.op=.call {callee:=.builtin .append,args:=#[s,x],argTypes:=#[51,51]})(base:Nat)(v:Value)(l:List Int)(hs:a.eval s=v)(hown:dO base w v l)
  (u:Value)(m:List Int)(hx:a.eval x=u)(hu:Row encI 1 w u m)(hl:l.length+m.length<1000000)(hbase:base<=w.heap.size)(lm:List Int)(hlm:l++m=lm)
  (h:∀ao n c w',dO base w' (.slice ao n c) lm->(∀w0,Below base w0 w->Below base w0 w')->wpList Tryz.prog ops Q rest (a.put o.dst (.slice ao n c)) w'):wpList Tryz.prog ops Q (o::rest) a w:=by
 subst hlm;refine wpList_plain hgd fun K hK'=>?_;obtain⟨ao,n,c,w',hrun,h1,h2⟩:=He o.type hown hu hl hbase;unfold Oper.wp;simp[execOp,ho,resolve,invoke,builtin,hs,hx,hrun,Result.andThen];exact hK' _ _ (h ao n c w' h1 h2)
theorem Ul:Tryz.prog.underlying 51=some (.slice (Tryz.prog.elem 51)):=by kernel_rfl
theorem Um (u:World):(sizeOf (Tryz.prog.elem 51)).run Tryz.prog u=.ok 1 u:=by kernel_rfl
theorem yg (ao:Option Addr)(n c k:Nat)(hk:k<=c)(u:World):(Instr.slice 51 (.slice ao n c) none (some (.int .i64 (k:Int))) none).run Tryz.prog u=.ok (.slice ao k c) u:=by
 rw[run_slice_h u 51 ao n c Ul .i64 k (by omega) (by omega),Um];simp only[Result.andThen,sliced,Int.toNat_natCast];cases ao<;>simp[add0]
theorem yh (ao:Option Addr)(n c k:Nat)(hk:k<=n)(u:World):(Instr.slice 51 (.slice ao n c) (some (.int .i64 (k:Int))) none none).run Tryz.prog u=.ok (.slice (if c=k then ao else ao.map (·.add (k*1))) (n-k) (c-k)) u:=by
 rw[run_slice_l u 51 ao n c Ul .i64 k (by omega) (by omega),Um];simp[Result.andThen,sliced]
theorem Hf {base:Nat}{w:World}{v u:Value}{l m:List ByteArray}(ty:TypeId)(h:cH base w v l)(hu:Row encS 1 w u m)(hl:l.length+m.length<1000000)(hbase:base<=w.heap.size):
  ∃ao n c w',(Builtin.append_ #[52,52] ty #[v,u]).run Tryz.prog w=.ok (.slice ao n c) w'∧cH base w' (.slice ao n c) (l++m)∧(∀w0,Below base w0 w->Below base w0 w'):=by
 obtain⟨i0,hi,hz0,hz1,hz2⟩:=info_parts mh;have ht:=Tryz.underlying52;obtain⟨ao,cap,rfl,h1,h2,h3⟩:=hu;cases ao with
 |none=>
  have hm:m=[]:=by
   rcases List.eq_nil_or_concat m with e1| ⟨m',y,e1⟩
   ·exact e1
   ·obtain⟨b,off,e2,_⟩:=h3 (by rw[e1];simp);cases e2
  subst hm;have hc0:=h2 rfl;subst hc0;obtain⟨av,cv,rfl⟩:=bM h;exact⟨_,_,_,w,run_append_owned_none (P:=Tryz.prog) w base _ ty _ i0 1 ht hi _ _ _ h,by rw[List.append_nil];exact h,fun _ hb=>hb⟩
 |some ad=>
  obtain⟨v',w',hr,g1,g2,_⟩:=run_append_own (P:=Tryz.prog) w base 52 ty 9 i0 _ 1 16 ht hi hz0 hz1 hz2 rfl (by decide) v _ _ h ad m.length cap (flatK encS 1 m.toArray).toList (by simp) (fun j u hj=>by
   obtain⟨hj1,hj2⟩:=List.getElem?_eq_some_iff.1 hj
   have kI:j<m.length*1:=by simpa using hj1
   obtain⟨b,off,e2,_,hc⟩:=h3 (by intro e;rw[e]at kI;simp at kI)
   cases e2
   rw[Go.WideShapes.add_plain,hc j kI,getElem!_pos _ j (by simpa using kI),<-hj2]
   simp) (cM xT eU) (by unfold maxLen;omega) (by omega) hbase
  obtain⟨av,cv,rfl⟩:=bM g1;refine⟨_,_,_,w',hr,?_,fun w0 hb=>hb.grown g2 hbase fun k hk=>jT h k hk⟩;show w'.ownsRow base 9 1 _ (l++m).length (flatK encS 1 (l++m).toArray).toList;rw[List.length_append,bG encS 1 eU];exact g1
theorem Xd {ops:Array Oper}{rest:List Oper}{o:Oper}{a:Act}{Q:Exit->Act->World->Prop}{w:World}(hgd:o.guard=.none)(s x:Operand)
  (ho:o.op=.call {callee:=.builtin .append,args:=#[s,x],argTypes:=#[52,52]})(base:Nat)(v:Value)(l:List ByteArray)(hs:a.eval s=v)(hown:cH base w v l)
  (u:Value)(m:List ByteArray)(hx:a.eval x=u)(hu:Row encS 1 w u m)(hl:l.length+m.length<1000000)(hbase:base<=w.heap.size)(lm:List ByteArray)(hlm:l++m=lm)
  (h:∀ao n c w',cH base w' (.slice ao n c) lm->(∀w0,Below base w0 w->Below base w0 w')->wpList Tryz.prog ops Q rest (a.put o.dst (.slice ao n c)) w'):wpList Tryz.prog ops Q (o::rest) a w:=by
 subst hlm;refine wpList_plain hgd fun K hK'=>?_;obtain⟨ao,n,c,w',hrun,h1,h2⟩:=Hf o.type hown hu hl hbase;unfold Oper.wp;simp[execOp,ho,resolve,invoke,builtin,hs,hx,hrun,Result.andThen];exact hK' _ _ (h ao n c w' h1 h2)
theorem Un:Tryz.prog.underlying 52=some (.slice (Tryz.prog.elem 52)):=by kernel_rfl
theorem Uo (u:World):(sizeOf (Tryz.prog.elem 52)).run Tryz.prog u=.ok 1 u:=by kernel_rfl
theorem yi (ao:Option Addr)(n c k:Nat)(hk:k<=c)(u:World):(Instr.slice 52 (.slice ao n c) none (some (.int .i64 (k:Int))) none).run Tryz.prog u=.ok (.slice ao k c) u:=by
 rw[run_slice_h u 52 ao n c Un .i64 k (by omega) (by omega),Uo];simp only[Result.andThen,sliced,Int.toNat_natCast];cases ao<;>simp[add0]
theorem yj (ao:Option Addr)(n c k:Nat)(hk:k<=n)(u:World):(Instr.slice 52 (.slice ao n c) (some (.int .i64 (k:Int))) none none).run Tryz.prog u=.ok (.slice (if c=k then ao else ao.map (·.add (k*1))) (n-k) (c-k)) u:=by
 rw[run_slice_l u 52 ao n c Un .i64 k (by omega) (by omega),Uo];simp[Result.andThen,sliced]
structure gY (w:World)(ve vk vs:Value)(n:Nd):Prop where
 e:Row aG 2 w ve n.es
 k:Row encI 1 w vk n.ks
 s:Row encS 1 w vs n.ss
theorem gY.below {w w':World}{ve vk vs:Value}{n:Nd}(h:gY w ve vk vs n)(hb:Below w.heap.size w w'):gY w' ve vk vs n:=⟨h.e.below hb,h.k.below hb,h.s.below hb⟩
structure kj (base:Nat)(w:World)(ve vk vs:Value)(n:Nd):Prop where
 e:bj base w ve n.es
 k:dO base w vk n.ks
 s:cH base w vs n.ss
theorem kj.r {base:Nat}{w:World}{ve vk vs:Value}{n:Nd}(h:kj base w ve vk vs n):gY w ve vk vs n:=⟨(cf (by decide) h.e).row,(cf (by decide) h.k).row,(cf (by decide) h.s).row⟩
theorem kj.mono {base base':Nat}{w:World}{ve vk vs:Value}{n:Nd}(h:kj base w ve vk vs n)(hb:base'<=base):kj base' w ve vk vs n:=⟨aH h.e hb,aH h.k hb,aH h.s hb⟩
theorem dO.empty (base:Nat)(W:World):dO base W (.slice none 0 0) []:=by unfold dO;simpa[flatK]using World.ownsRow_nil W base 3 1
theorem kj.zero (base:Nat)(w:World):kj base w (.slice none 0 0) (.slice none 0 0) (.slice none 0 0) nd0:=⟨bj.empty _ _,dO.empty _ _,cH.empty _ _⟩
structure Sm (n:Nd):Prop where
 e:n.es.length<=1000
 k:n.ks.length<=1000
 s:n.ss.length<=1000
 ez:cA n.es<=1000000
 sz:bO n.ss<=1000000
structure zF (n:Nd):Prop where
 e:n.es.length<=1000
 k:n.ks.length<=1000
 s:n.ss.length<=1000
theorem Sm.l {n:Nd}(h:Sm n):zF n:=⟨h.e,h.k,h.s⟩
end
section
theorem uD {α:Type}[Inhabited α]{ls:List (List α)}{i:Nat}(h:i<ls.length):(ls.take (i+1)).flatten=(ls.take i).flatten++ls[i]! :=by
 rw[cR h];simp
theorem Mm {α:Type}[Inhabited α]{ls:List (List α)}{i:Nat}(h:i<ls.length):(ls.take i).flatten.length+ls[i]!.length<=ls.flatten.length:=by
 rw[<-List.length_append,<-uD h];have:=congrArg (fun l=>l.flatten.length) (List.take_append_drop (i+1) ls);simp only[List.flatten_append,List.length_append]at this;omega
theorem jt:(∀(q:Nat) (t:TypeId) (vs:List Value) (ls:List (List En)) (m:Nat) (w:World) (hq:Cl w q vs.toArray t) (hv:vs.length=m) (hvl:ls.length=m) (hr:∀i,i<m->Row aG 2 w vs[i]! ls[i]!) (hN:ls.flatten.length<1000000) (hm:m<=1000) (out:List En) (hout:ls.flatten=out),Calls Tryz.prog 129 #[.slice (some ⟨q,0,none⟩) m m] w fun e w'=>∃ao n c,e=.returned (.slice ao n c)∧bj w.heap.size w' (.slice ao n c) out∧Below w.heap.size w w')∧
  (∀(q:Nat) (t:TypeId) (vs:List Value) (ls:List (List Int)) (m:Nat) (w:World) (hq:Cl w q vs.toArray t) (hv:vs.length=m) (hvl:ls.length=m) (hr:∀i,i<m->Row encI 1 w vs[i]! ls[i]!) (hN:ls.flatten.length<1000000) (hm:m<=1000) (out:List Int) (hout:ls.flatten=out),Calls Tryz.prog 161 #[.slice (some ⟨q,0,none⟩) m m] w fun e w'=>∃ao n c,e=.returned (.slice ao n c)∧dO w.heap.size w' (.slice ao n c) out∧Below w.heap.size w w')∧
  (∀(q:Nat) (t:TypeId) (vs:List Value) (ls:List (List ByteArray)) (m:Nat) (w:World) (hq:Cl w q vs.toArray t) (hv:vs.length=m) (hvl:ls.length=m) (hr:∀i,i<m->Row encS 1 w vs[i]! ls[i]!) (hN:ls.flatten.length<1000000) (hm:m<=1000) (out:List ByteArray) (hout:ls.flatten=out),Calls Tryz.prog 162 #[.slice (some ⟨q,0,none⟩) m m] w fun e w'=>∃ao n c,e=.returned (.slice ao n c)∧cH w.heap.size w' (.slice ao n c) out∧Below w.heap.size w w'):=by
 and_intros
 have jf:=trivial
 rotate_left
 have fe:=trivial
 rotate_left
 have QJ:=trivial
 rotate_left
 all_goals
  intro q t vs ls m w hq hv hvl hr hN hm out hout;subst hout;have HQ:Aside (Cl w q vs.toArray t):=hq
  first
   |have zz:=jf
    have HR:Aside (∀i,i<m->Row aG 2 w vs[i]! ls[i]!):=hr
   |have zz:=fe
    have HR:Aside (∀i,i<m->Row encI 1 w vs[i]! ls[i]!):=hr
   |have HR:Aside (∀i,i<m->Row encS 1 w vs[i]! ls[i]!):=hr
  have HV:Hid (vs.length=m):=hv;have HL:Hid (ls.length=m):=hvl;have Xe:=hq.lt;clear hq hr hv hvl
  first
   |have zz:=jf
    go_enter Tryz.func129,Tryz.ntmps129
   |have zz:=fe
    go_enter Tryz.func161,Tryz.ntmps161
   |go_enter Tryz.func162,Tryz.ntmps162
  go_wp2
  first
   |have zz:=QJ
    go_loopg [3,8] m (fun kx s3 s8 wr=>∃(i:Nat) (cW:Option Addr) (n' c':Nat) (out:List ByteArray),s3=.slice cW n' c'∧s8=.int .i64 i∧i<=m∧m-i<=kx∧Hid ((ls.take i).flatten=out)∧Aside (cH w.heap.size wr (.slice cW n' c') out)∧Hid (Below w.heap.size w wr))
    case atStart=>exact⟨0,none,0,0,[],rfl,rfl,Nat.zero_le _,Nat.le_refl _,rfl,cH.empty _ _,Below.refl _ _⟩
   |have zz:=fe
    go_loopg [3,8] m (fun kx s3 s8 wr=>∃(i:Nat) (cW:Option Addr) (n' c':Nat) (out:List Int),s3=.slice cW n' c'∧s8=.int .i64 i∧i<=m∧m-i<=kx∧Hid ((ls.take i).flatten=out)∧Aside (dO w.heap.size wr (.slice cW n' c') out)∧Hid (Below w.heap.size w wr))
    case atStart=>exact⟨0,none,0,0,[],rfl,rfl,Nat.zero_le _,Nat.le_refl _,rfl,dO.empty _ _,Below.refl _ _⟩
   |go_loopg [3,8] m (fun kx s3 s8 wr=>∃(i:Nat) (cW:Option Addr) (n' c':Nat) (out:List En),s3=.slice cW n' c'∧s8=.int .i64 i∧i<=m∧m-i<=kx∧Hid ((ls.take i).flatten=out)∧Aside (bj w.heap.size wr (.slice cW n' c') out)∧Hid (Below w.heap.size w wr))
    case atStart=>exact⟨0,none,0,0,[],rfl,rfl,Nat.zero_le _,Nat.le_refl _,rfl,bj.empty _ _,Below.refl _ _⟩
  case round=>
   obtain⟨i,cW,n',c',out,rfl,rfl,hi,hki,HD,HO,HB⟩:=hrel;by_cases hil:i<m
   ·have dB:(i:Int)< (m:Int):=by omega
    have D9:i<ls.length:=by rw[HL.out];exact hil
    have T:Hid _:=uD D9;have hle:=Mm D9;rw[HD.out]at T hle;have R0:=(HR.out i hil).below HB.out;have c0:wr.cell? ⟨q,i,none⟩=some vs[i]! :=by
     rw[HB.out.cell (p:=⟨q,i,none⟩) Xe,HQ.out.cell i,List.getElem?_toArray,List.getElem?_eq_getElem (by rw[HV.out];exact hil),getElem!_pos vs i (by rw[HV.out];exact hil)]
    generalize vs[i]! =u at*;generalize ls[i]! =x at*
    first
     |have zz:=jf
      have RX:Aside (Row aG 2 wr u x):=R0
     |have zz:=fe
      have RX:Aside (Row encI 1 wr u x):=R0
     |have RX:Aside (Row encS 1 wr u x):=R0
    obtain⟨au,cu,rfl,_⟩:=ax R0;obtain⟨o2,ho2⟩:∃o2,out++x=o2:=⟨_,rfl⟩;have E2:Hid (out++x=o2):=ho2;rw[ho2]at T;have hsz:=HB.out.size;clear ho2 R0
    first
     |have zz:=jf
      go_wp2_with (at_builtin;refine W7 rfl _ _ rfl w.heap.size _ out rfl HO.out _ x rfl RX.out (by omega) hsz o2 E2.out ?_)
     |have zz:=fe
      go_wp2_with (at_builtin;refine Xc rfl _ _ rfl w.heap.size _ out rfl HO.out _ x rfl RX.out (by omega) hsz o2 E2.out ?_)
     |go_wp2_with (at_builtin;refine Xd rfl _ _ rfl w.heap.size _ out rfl HO.out _ x rfl RX.out (by omega) hsz o2 E2.out ?_)
    intro a6 n6 c6 w6 P6 Q6
    first
     |have zz:=jf
      have O7:Aside (bj w.heap.size w6 (.slice a6 n6 c6) o2):=P6
     |have zz:=fe
      have O7:Aside (dO w.heap.size w6 (.slice a6 n6 c6) o2):=P6
     |have O7:Aside (cH w.heap.size w6 (.slice a6 n6 c6) o2):=P6
    have B7:Hid (Below w.heap.size w w6):=Q6 _ HB.out;clear P6 Q6 HO HB RX E2 hsz hle;go_wp2
    go_roundg (m- (i+1))
    case measure=>omega
    case rel=>exact⟨i+1,a6,n6,c6,o2,rfl,by go_num,by omega,Nat.le_refl _,T,O7,B7⟩
   ·have dB:¬(i:Int)< (m:Int):=by omega
    obtain rfl:i=m:=by omega
    have E:(ls.take i).flatten=ls.flatten:=by rw[List.take_of_length_le (by rw[HL.out];exact Nat.le_refl _)]
    have E2:Hid (ls.flatten=out):=E.symm.trans HD.out;clear E;go_wp2;go_ret;exact⟨_,_,_,rfl,by rw[E2.out];exact HO.out,HB.out⟩
theorem mE (q:Nat)(t:TypeId)(v:Value)(l:List En)(w:World)(hq:Cl w q #[v] t)(h:Row aG 2 w v l)(hN:l.length<1000000):
  Calls Tryz.prog 129 #[.slice (some ⟨q,0,none⟩) 1 1] w fun e w'=>∃ao n c,e=.returned (.slice ao n c)∧bj w.heap.size w' (.slice ao n c) l∧Below w.heap.size w w':=
 jt.1 q t [v] [l] 1 w hq rfl rfl (fun i hi=>by
  rcases(by omega:i=0)with rfl
  exact h) (by simpa using hN) (by decide) l (by simp)
theorem Hg (q:Nat)(t:TypeId)(v u:Value)(l m:List En)(w:World)(hq:Cl w q #[v,u] t)(h:Row aG 2 w v l)(h2:Row aG 2 w u m)(hN:l.length+m.length<1000000):
  Calls Tryz.prog 129 #[.slice (some ⟨q,0,none⟩) 2 2] w fun e w'=>∃ao n c,e=.returned (.slice ao n c)∧bj w.heap.size w' (.slice ao n c) (l++m)∧Below w.heap.size w w':=
 jt.1 q t [v,u] [l,m] 2 w hq rfl rfl (fun i hi=>by
  rcases(by omega:i=0∨i=1)with rfl|rfl
  ·exact h
  ·exact h2) (by simpa using hN) (by decide) (l++m) (by simp)
theorem rP (q:Nat)(t:TypeId)(v:Value)(l:List Int)(w:World)(hq:Cl w q #[v] t)(h:Row encI 1 w v l)(hN:l.length<1000000):
  Calls Tryz.prog 161 #[.slice (some ⟨q,0,none⟩) 1 1] w fun e w'=>∃ao n c,e=.returned (.slice ao n c)∧dO w.heap.size w' (.slice ao n c) l∧Below w.heap.size w w':=
 jt.2.1 q t [v] [l] 1 w hq rfl rfl (fun i hi=>by
  rcases(by omega:i=0)with rfl
  exact h) (by simpa using hN) (by decide) l (by simp)
theorem Hh (q:Nat)(t:TypeId)(v u:Value)(l m:List Int)(w:World)(hq:Cl w q #[v,u] t)(h:Row encI 1 w v l)(h2:Row encI 1 w u m)(hN:l.length+m.length<1000000):
  Calls Tryz.prog 161 #[.slice (some ⟨q,0,none⟩) 2 2] w fun e w'=>∃ao n c,e=.returned (.slice ao n c)∧dO w.heap.size w' (.slice ao n c) (l++m)∧Below w.heap.size w w':=
 jt.2.1 q t [v,u] [l,m] 2 w hq rfl rfl (fun i hi=>by
  rcases(by omega:i=0∨i=1)with rfl|rfl
  ·exact h
  ·exact h2) (by simpa using hN) (by decide) (l++m) (by simp)
theorem Hi (q:Nat)(t:TypeId)(v u z:Value)(l m n:List Int)(w:World)(hq:Cl w q #[v,u,z] t)(h:Row encI 1 w v l)(h2:Row encI 1 w u m)(h3:Row encI 1 w z n)(hN:l.length+m.length+n.length<1000000):
  Calls Tryz.prog 161 #[.slice (some ⟨q,0,none⟩) 3 3] w fun e w'=>∃ao n' c,e=.returned (.slice ao n' c)∧dO w.heap.size w' (.slice ao n' c) (l++m++n)∧Below w.heap.size w w':=
 jt.2.1 q t [v,u,z] [l,m,n] 3 w hq rfl rfl (fun i hi=>by
  rcases(by omega:i=0∨i=1∨i=2)with rfl|rfl|rfl
  ·exact h
  ·exact h2
  ·exact h3) (by simp;omega) (by decide) (l++m++n) (by simp)
theorem rQ (q:Nat)(t:TypeId)(v:Value)(l:List ByteArray)(w:World)(hq:Cl w q #[v] t)(h:Row encS 1 w v l)(hN:l.length<1000000):
  Calls Tryz.prog 162 #[.slice (some ⟨q,0,none⟩) 1 1] w fun e w'=>∃ao n c,e=.returned (.slice ao n c)∧cH w.heap.size w' (.slice ao n c) l∧Below w.heap.size w w':=
 jt.2.2 q t [v] [l] 1 w hq rfl rfl (fun i hi=>by
  rcases(by omega:i=0)with rfl
  exact h) (by simpa using hN) (by decide) l (by simp)
theorem rR (q:Nat)(t:TypeId)(v u z:Value)(l m n:List ByteArray)(w:World)(hq:Cl w q #[v,u,z] t)(h:Row encS 1 w v l)(h2:Row encS 1 w u m)(h3:Row encS 1 w z n)(hN:l.length+m.length+n.length<1000000):
  Calls Tryz.prog 162 #[.slice (some ⟨q,0,none⟩) 3 3] w fun e w'=>∃ao n' c,e=.returned (.slice ao n' c)∧cH w.heap.size w' (.slice ao n' c) (l++m++n)∧Below w.heap.size w w':=
 jt.2.2 q t [v,u,z] [l,m,n] 3 w hq rfl rfl (fun i hi=>by
  rcases(by omega:i=0∨i=1∨i=2)with rfl|rfl|rfl
  ·exact h
  ·exact h2
  ·exact h3) (by simp;omega) (by decide) (l++m++n) (by simp)
end
section
theorem ju {W X Y:World}(h2:Below X.heap.size X Y)(h1:Below W.heap.size W X):Below W.heap.size W Y:=h1.trans (h2.mono h1.size)
theorem aq {W X:World}(o:Obj)(h1:Below W.heap.size W X):Below W.heap.size W (X.alloc o):=h1.alloc h1.size _
theorem Cl.lh (w:World)(cs:Array Value)(t:TypeId):Cl (w.alloc (.cells cs t)) w.heap.size cs t:=Cl.new w cs t
theorem Cl.oT (w:World)(cs:Array Value)(t:TypeId)(o:Obj):Cl ((w.alloc o).alloc (.cells cs t)) (w.heap.size+1) cs t:=by
 have:=Cl.new (w.alloc o) cs t
 rwa [show(w.alloc o).heap.size=w.heap.size+1 by simp]at this
theorem Cl.Av (w:World)(cs:Array Value)(t:TypeId)(o o':Obj):Cl (((w.alloc o).alloc o').alloc (.cells cs t)) (w.heap.size+2) cs t:=by
 have:=Cl.new ((w.alloc o).alloc o') cs t
 rwa [show((w.alloc o).alloc o').heap.size=w.heap.size+2 by simp]at this
theorem Cl.dr {w:World}{q:Nat}{cs:Array Value}{t:TypeId}(h:Cl w q cs t):Cl w.drew q cs t:=h
theorem Cl.set {w:World}{q:Nat}{cs:Array Value}{t:TypeId}(h:Cl w q cs t)(i:Nat)(v:Value):Cl (w.setCell ⟨q,i,none⟩ v) q (cs.setIfInBounds i v) t:=by
 unfold Cl at h⊢;simp[World.setCell,Array.getElem?_modify,h]
theorem Cl.four {w:World}{q:Nat}{t:TypeId}{a b c d:Value}(h:Cl w q #[a,b,c,d] t):w.cell? ⟨q,0,none⟩=some a∧w.cell? ⟨q,1,none⟩=some b∧w.cell? ⟨q,2,none⟩=some c∧w.cell? ⟨q,3,none⟩=some d:=⟨h.cell 0,h.cell 1,h.cell 2,h.cell 3⟩
theorem Cl.thaw {w:World}{q:Nat}{t:TypeId}{cs:Array Value}(h:Cl w q cs t):w.frozen? ⟨q,0,none⟩=false∧w.frozen? ⟨q,1,none⟩=false∧w.frozen? ⟨q,2,none⟩=false∧w.frozen? ⟨q,3,none⟩=false:=by
 unfold Cl at h;simp[World.frozen?,h]
def RB (W:World)(r:Nat)(t:TypeId)(X:World):Prop:=Below r W X∧∃a b c d,Cl X r #[a,b,c,d] t
theorem RB.lt {W X:World}{r:Nat}{t:TypeId}(h:RB W r t X):r+1<=X.heap.size:=by
 obtain⟨_,a,b,c,d,k⟩:=h;exact k.lt
theorem RB.alloc {W X:World}{r:Nat}{t:TypeId}(h:RB W r t X)(o:Obj):RB W r t (X.alloc o):=by
 have:=h.lt;obtain⟨h1,a,b,c,d,k⟩:=h;exact⟨h1.alloc (by omega) _,a,b,c,d,k.alloc _⟩
theorem RB.call {W X Y:World}{r:Nat}{t:TypeId}(h:RB W r t X)(hb:Below X.heap.size X Y):RB W r t Y:=by
 have:=h.lt;obtain⟨h1,a,b,c,d,k⟩:=h;exact⟨h1.trans (hb.mono (by omega)),a,b,c,d,k.on hb⟩
theorem RB.four {W X:World}{r:Nat}{t:TypeId}(h:RB W r t X):(∃a,X.cell? ⟨r,0,none⟩=some a)∧(∃a,X.cell? ⟨r,1,none⟩=some a)∧(∃a,X.cell? ⟨r,2,none⟩=some a)∧(∃a,X.cell? ⟨r,3,none⟩=some a)∧X.frozen? ⟨r,0,none⟩=false∧X.frozen? ⟨r,1,none⟩=false∧X.frozen? ⟨r,2,none⟩=false∧X.frozen? ⟨r,3,none⟩=false:=by
 obtain⟨_,a,b,c,d,k⟩:=h;refine⟨⟨a,k.cell 0⟩,⟨b,k.cell 1⟩,⟨c,k.cell 2⟩,⟨d,k.cell 3⟩,?_⟩;unfold Cl at k;simp[World.frozen?,k]
def eW (w:World)(q:Nat)(a b c d:Value):World:=(((w.setCell ⟨q,0,none⟩ a).setCell ⟨q,1,none⟩ b).setCell ⟨q,2,none⟩ c).setCell ⟨q,3,none⟩ d
theorem Cl.eW {w:World}{q:Nat}{t:TypeId}{a b c d:Value}(h:Cl w q #[a,b,c,d] t)(a' b' c' d':Value):Cl (eW w q a' b' c' d') q #[a',b',c',d'] t:=(((h.set 0 a').set 1 b').set 2 c').set 3 d'
theorem bF {fn:Func}{p:Tmp}{ty:TypeId}(h:fn.results=#[.cell p ty])(tmps:Array Value)(P:Program)(w:World):
  (results fn tmps).run P w=((asAddr (tmps.getD p undef)).run P w).andThen fun a w₁=>(loadVar ty a).run P w₁:=by
 simp only[results,h];simp[Sem.run_bind,Result.andThen]
theorem bC {base q:Nat}{w:World}{e:TypeId}{k:Nat}{v a b c d:Value}{n:Nat}{xs:List Value}(h:w.ownsRow base e k v n xs)(hq:q<base):(eW w q a b c d).ownsRow base e k v n xs:=
 ownsRow_setCell_below (ownsRow_setCell_below (ownsRow_setCell_below (ownsRow_setCell_below h (a:=⟨q,0,none⟩) hq a) (a:=⟨q,1,none⟩) hq b) (a:=⟨q,2,none⟩) hq c) (a:=⟨q,3,none⟩) hq d
theorem df {B q:Nat}{w0 w:World}{a b c d:Value}(h:Below B w0 w)(hq:B<=q):Below B w0 (eW w q a b c d):=
 (((h.setCell (p:=⟨q,0,none⟩) hq a).setCell (p:=⟨q,1,none⟩) hq b).setCell (p:=⟨q,2,none⟩) hq c).setCell (p:=⟨q,3,none⟩) hq d
end
section
attribute [local go_sem ↓] Go.wp_at_zero Go.wp_at_succ
def QK (W:World)(p:Nat)(lf:Bool)(ae ak az:Option Addr)(ce ck cz:Nat)(es:List En)(ks:List Int)(ss:List ByteArray)(C:List Bool->Act->Prop)(w:World):Prop:=∀{f0 f1 f2 f3 f4 f5 f6 f7 f8 f9 f10 f11 f12 f13 f14 f15:Bool}{x3 x4 x5 x6 x7 x8 x9 sZ yl vK ym tF Fj Cc tG:Value},f15=false->RB W (p+1) 54 w->Hid (f0=true->x3=.pointer (some ⟨p,0,none⟩))->Hid (f1=true->x4=.bool lf)->Hid (f2=true->x5=.pointer (some ⟨p,1,none⟩))->Hid (f3=true->x6=.slice ae es.length ce)->Hid (f4=true->∃qq,x7=.slice (some ⟨qq,0,none⟩) 1 1∧Cl w qq #[.slice ae es.length ce] 32)->Hid (f5=true->∃ao n c,x8=.slice ao n c∧bj (p+2) w x8 (es))->Hid (f6=true->x9=.pointer (some ⟨p,2,none⟩))->Hid (f7=true->sZ=.slice ak ks.length ck)->Hid (f8=true->∃qq,yl=.slice (some ⟨qq,0,none⟩) 1 1∧Cl w qq #[.slice ak ks.length ck] 51)->Hid (f9=true->∃ao n c,vK=.slice ao n c∧dO (p+2) w vK (ks))->Hid (f10=true->ym=.pointer (some ⟨p,3,none⟩))->Hid (f11=true->tF=.slice az ss.length cz)->Hid (f12=true->∃qq,Fj=.slice (some ⟨qq,0,none⟩) 1 1∧Cl w qq #[.slice az ss.length cz] 52)->Hid (f13=true->∃ao n c,Cc=.slice ao n c∧cH (p+2) w Cc (ss))->Hid (f14=true->f5=true∧f9=true∧f13=true∧tG=.agg #[.bool lf,x8,vK,Cc])->C [f0,f1,f2,f3,f4,f5,f6,f7,f8,f9,f10,f11,f12,f13,f14,f15] {tmps:=#[.agg #[.bool lf,.slice ae es.length ce,.slice ak ks.length ck,.slice az ss.length cz],.pointer (some ⟨p,0,none⟩),.pointer (some ⟨p+1,0,none⟩),x3,x4,x5,x6,x7,x8,x9,sZ,yl,vK,ym,tF,Fj,Cc,tG],defers:=[]}
theorem iN (n:Nd)(ve vk vs:Value)(w:World)(h:gY w ve vk vs n)(hs:zF n):
  Calls Tryz.prog 128 #[.agg #[.bool n.leaf,ve,vk,vs]] w fun e w'=>∃zG zH vs',e=.returned (.agg #[.bool n.leaf,zG,zH,vs'])∧kj w.heap.size w' zG zH vs' n∧Below w.heap.size w w':=by
 obtain⟨lf,es,ks,ss⟩:=n;obtain⟨he,hk,hss⟩:=h;obtain⟨s1,s2,s3⟩:=hs;simp only at he hk hss s1 s2 s3;obtain⟨ae,ce,rfl,_⟩:=ax he;obtain⟨ak,ck,rfl,_⟩:=ax hk;obtain⟨az,cz,rfl,_⟩:=ax hss;have K1:Cl ((w.alloc (.cells #[.bool lf,.slice ae es.length ce,.slice ak ks.length ck,.slice az ss.length cz] 54)).alloc (.cells #[.bool false,.slice none 0 0,.slice none 0 0,.slice none 0 0] 54)) w.heap.size #[.bool lf,.slice ae es.length ce,.slice ak ks.length ck,.slice az ss.length cz] 54:=(Cl.lh _ _ _).alloc _;have K2:Cl ((w.alloc (.cells #[.bool lf,.slice ae es.length ce,.slice ak ks.length ck,.slice az ss.length cz] 54)).alloc (.cells #[.bool false,.slice none 0 0,.slice none 0 0,.slice none 0 0] 54)) (w.heap.size+1) #[.bool false,.slice none 0 0,.slice none 0 0,.slice none 0 0] 54:=Cl.oT _ _ _ _;have BW:Hid (Below w.heap.size w ((w.alloc (.cells #[.bool lf,.slice ae es.length ce,.slice ak ks.length ck,.slice az ss.length cz] 54)).alloc (.cells #[.bool false,.slice none 0 0,.slice none 0 0,.slice none 0 0] 54))):=aq _ (aq _ (Below.refl _ _));go_enter Tryz.func128,Tryz.ntmps128
 go_wp2_with fail
 generalize World.alloc _ _=W at*;obtain⟨p,hp⟩:∃p,w.heap.size=p:=⟨_,rfl⟩;rw[hp]at K1 K2 BW⊢;have R0:Hid (RB W (p+1) 54 W.drew):=⟨(Below.refl _ W).drew,_,_,_,_,K2⟩;have BX:∀X,RB W (p+1) 54 X->Below p w X:=fun X hX=>BW.out.trans (hX.1.mono (Nat.le_succ p));have RE:Hid (∀X,RB W (p+1) 54 X->Row aG 2 X (.slice ae es.length ce) es):=fun X hX=>he.below (by rw[hp];exact BX X hX);have RK:Hid (∀X,RB W (p+1) 54 X->Row encI 1 X (.slice ak ks.length ck) ks):=fun X hX=>hk.below (by rw[hp];exact BX X hX);have RS:Hid (∀X,RB W (p+1) 54 X->Row encS 1 X (.slice az ss.length cz) ss):=fun X hX=>hss.below (by rw[hp];exact BX X hX);have MK:Hid (∀X,RB W (p+1) 54 X->X.cell? ⟨p,0,none⟩=some (.bool lf)∧X.cell? ⟨p,1,none⟩=some (.slice ae es.length ce)∧X.cell? ⟨p,2,none⟩=some (.slice ak ks.length ck)∧X.cell? ⟨p,3,none⟩=some (.slice az ss.length cz)):=fun X hX=>(K1.below hX.1 (Nat.lt_succ_self p)).four;have Tq:Hid (∀X,RB W (p+1) 54 X->Below p w X):=BX;clear he hk hss K1 K2 BW BX;refine aT 15 (QK W p lf ae ak az ce ck cz es ks ss) (by kernel_rfl) (by kernel_rfl) (by kernel_rfl) (fun _ k=>k rfl R0.out ar ar ar ar ar ar ar ar ar ar ar ar ar ar ar) ?_ ?_ ?_
 ·intro i w' hne f0 f1 f2 f3 f4 f5 f6 f7 f8 f9 f10 f11 f12 f13 f14 f15 x3 x4 x5 x6 x7 x8 x9 sZ yl vK ym tF Fj Cc tG e15 hB h0 h1 h2 h3 h4 h5 h6 h7 h8 h9 h10 h11 h12 dH fw hi;obtain⟨hlt,hun,_⟩:=aM hi;have hlt':i<16:=hlt;clear hlt;rcases(by omega:i=0∨i=1∨i=2∨i=3∨i=4∨i=5∨i=6∨i=7∨i=8∨i=9∨i=10∨i=11∨i=12∨i=13∨i=14)with rfl|rfl|rfl|rfl|rfl|rfl|rfl|rfl|rfl|rfl|rfl|rfl|rfl|rfl|rfl
  ·refine aj rfl fun K HK=>?_;go_simp;exact HK.out _ _ fun _ k=>by apply k<;>first|assumption|exact hidR|(repeat' first|apply Exists.intro|assumption|rfl|apply And.intro|exact fun _=>rfl)
  ·cases h0 (ah 0 hi (by kernel_rfl));have cell:=(MK.out _ hB).1;refine aj rfl fun K HK=>?_;go_simp;exact HK.out _ _ fun _ k=>by apply k<;>first|assumption|exact hidR|(repeat' first|apply Exists.intro|assumption|rfl|apply And.intro|exact fun _=>rfl)
  ·refine aj rfl fun K HK=>?_;go_simp;exact HK.out _ _ fun _ k=>by apply k<;>first|assumption|exact hidR|(repeat' first|apply Exists.intro|assumption|rfl|apply And.intro|exact fun _=>rfl)
  ·cases h2 (ah 2 hi (by kernel_rfl));have cell:=(MK.out _ hB).2.1;refine aj rfl fun K HK=>?_;go_simp;exact HK.out _ _ fun _ k=>by apply k<;>first|assumption|exact hidR|(repeat' first|apply Exists.intro|assumption|rfl|apply And.intro|exact fun _=>rfl)
  ·cases h3 (ah 3 hi (by kernel_rfl));refine aj rfl fun K HK=>?_;go_simp;exact HK.out _ _ fun _ k=>k e15 (RB.alloc hB _) h0 h1 h2 h3 (fun _=>⟨_,rfl,Cl.new _ _ _⟩) (fun d=>let⟨ao,n,c,e,o⟩:=h5.out d;⟨ao,n,c,e,ownsRow_below o (aq _ (Below.refl _ _))⟩) h6 h7 (fun d=>let⟨q,e,c⟩:=h8.out d;⟨q,e,Cl.on c (aq _ (Below.refl _ _))⟩) (fun d=>let⟨ao,n,c,e,o⟩:=h9.out d;⟨ao,n,c,e,ownsRow_below o (aq _ (Below.refl _ _))⟩) h10 h11 (fun d=>let⟨q,e,c⟩:=h12.out d;⟨q,e,Cl.on c (aq _ (Below.refl _ _))⟩) (fun d=>let⟨ao,n,c,e,o⟩:=dH.out d;⟨ao,n,c,e,ownsRow_below o (aq _ (Below.refl _ _))⟩) fw
  ·have un:f5=false:=hun;obtain⟨q4,rfl,c4⟩:=h4.out (ah 4 hi (by kernel_rfl));refine aj rfl fun K HK=>?_;go_simp;refine Calls.mono (mE q4 32 (.slice ae es.length ce) es w' c4 (RE.out _ hB) (by omega)) ?_;rintro e w1 ⟨ao,nn,cc,rfl,ow,b1⟩;exact HK.out _ _ fun _ k=>k e15 (RB.call hB b1) h0 h1 h2 h3 (fun d=>let⟨q,e,c⟩:=h4.out d;⟨q,e,Cl.on c (b1)⟩) (fun _=>⟨ao,nn,cc,rfl,aH ow (RB.lt hB)⟩) h6 h7 (fun d=>let⟨q,e,c⟩:=h8.out d;⟨q,e,Cl.on c (b1)⟩) (fun d=>let⟨ao,n,c,e,o⟩:=h9.out d;⟨ao,n,c,e,ownsRow_below o (b1)⟩) h10 h11 (fun d=>let⟨q,e,c⟩:=h12.out d;⟨q,e,Cl.on c (b1)⟩) (fun d=>let⟨ao,n,c,e,o⟩:=dH.out d;⟨ao,n,c,e,ownsRow_below o (b1)⟩) (fun d=>by have e:=(fw.out d).1;rw[un]at e;cases e)
  ·refine aj rfl fun K HK=>?_;go_simp;exact HK.out _ _ fun _ k=>by apply k<;>first|assumption|exact hidR|(repeat' first|apply Exists.intro|assumption|rfl|apply And.intro|exact fun _=>rfl)
  ·cases h6 (ah 6 hi (by kernel_rfl));have cell:=(MK.out _ hB).2.2.1;refine aj rfl fun K HK=>?_;go_simp;exact HK.out _ _ fun _ k=>by apply k<;>first|assumption|exact hidR|(repeat' first|apply Exists.intro|assumption|rfl|apply And.intro|exact fun _=>rfl)
  ·cases h7 (ah 7 hi (by kernel_rfl));refine aj rfl fun K HK=>?_;go_simp;exact HK.out _ _ fun _ k=>k e15 (RB.alloc hB _) h0 h1 h2 h3 (fun d=>let⟨q,e,c⟩:=h4.out d;⟨q,e,Cl.on c (aq _ (Below.refl _ _))⟩) (fun d=>let⟨ao,n,c,e,o⟩:=h5.out d;⟨ao,n,c,e,ownsRow_below o (aq _ (Below.refl _ _))⟩) h6 h7 (fun _=>⟨_,rfl,Cl.new _ _ _⟩) (fun d=>let⟨ao,n,c,e,o⟩:=h9.out d;⟨ao,n,c,e,ownsRow_below o (aq _ (Below.refl _ _))⟩) h10 h11 (fun d=>let⟨q,e,c⟩:=h12.out d;⟨q,e,Cl.on c (aq _ (Below.refl _ _))⟩) (fun d=>let⟨ao,n,c,e,o⟩:=dH.out d;⟨ao,n,c,e,ownsRow_below o (aq _ (Below.refl _ _))⟩) fw
  ·have un:f9=false:=hun;obtain⟨q8,rfl,c8⟩:=h8.out (ah 8 hi (by kernel_rfl));refine aj rfl fun K HK=>?_;go_simp;refine Calls.mono (rP q8 51 (.slice ak ks.length ck) ks w' c8 (RK.out _ hB) (by omega)) ?_;rintro e w1 ⟨ao,nn,cc,rfl,ow,b1⟩;exact HK.out _ _ fun _ k=>k e15 (RB.call hB b1) h0 h1 h2 h3 (fun d=>let⟨q,e,c⟩:=h4.out d;⟨q,e,Cl.on c (b1)⟩) (fun d=>let⟨ao,n,c,e,o⟩:=h5.out d;⟨ao,n,c,e,ownsRow_below o (b1)⟩) h6 h7 (fun d=>let⟨q,e,c⟩:=h8.out d;⟨q,e,Cl.on c (b1)⟩) (fun _=>⟨ao,nn,cc,rfl,aH ow (RB.lt hB)⟩) h10 h11 (fun d=>let⟨q,e,c⟩:=h12.out d;⟨q,e,Cl.on c (b1)⟩) (fun d=>let⟨ao,n,c,e,o⟩:=dH.out d;⟨ao,n,c,e,ownsRow_below o (b1)⟩) (fun d=>by have e:=(fw.out d).2.1;rw[un]at e;cases e)
  ·refine aj rfl fun K HK=>?_;go_simp;exact HK.out _ _ fun _ k=>by apply k<;>first|assumption|exact hidR|(repeat' first|apply Exists.intro|assumption|rfl|apply And.intro|exact fun _=>rfl)
  ·cases h10 (ah 10 hi (by kernel_rfl));have cell:=(MK.out _ hB).2.2.2;refine aj rfl fun K HK=>?_;go_simp;exact HK.out _ _ fun _ k=>by apply k<;>first|assumption|exact hidR|(repeat' first|apply Exists.intro|assumption|rfl|apply And.intro|exact fun _=>rfl)
  ·cases h11 (ah 11 hi (by kernel_rfl));refine aj rfl fun K HK=>?_;go_simp;exact HK.out _ _ fun _ k=>k e15 (RB.alloc hB _) h0 h1 h2 h3 (fun d=>let⟨q,e,c⟩:=h4.out d;⟨q,e,Cl.on c (aq _ (Below.refl _ _))⟩) (fun d=>let⟨ao,n,c,e,o⟩:=h5.out d;⟨ao,n,c,e,ownsRow_below o (aq _ (Below.refl _ _))⟩) h6 h7 (fun d=>let⟨q,e,c⟩:=h8.out d;⟨q,e,Cl.on c (aq _ (Below.refl _ _))⟩) (fun d=>let⟨ao,n,c,e,o⟩:=h9.out d;⟨ao,n,c,e,ownsRow_below o (aq _ (Below.refl _ _))⟩) h10 h11 (fun _=>⟨_,rfl,Cl.new _ _ _⟩) (fun d=>let⟨ao,n,c,e,o⟩:=dH.out d;⟨ao,n,c,e,ownsRow_below o (aq _ (Below.refl _ _))⟩) fw
  ·have un:f13=false:=hun;obtain⟨Ce,rfl,c12⟩:=h12.out (ah 12 hi (by kernel_rfl));refine aj rfl fun K HK=>?_;go_simp;refine Calls.mono (rQ Ce 52 (.slice az ss.length cz) ss w' c12 (RS.out _ hB) (by omega)) ?_;rintro e w1 ⟨ao,nn,cc,rfl,ow,b1⟩;exact HK.out _ _ fun _ k=>k e15 (RB.call hB b1) h0 h1 h2 h3 (fun d=>let⟨q,e,c⟩:=h4.out d;⟨q,e,Cl.on c (b1)⟩) (fun d=>let⟨ao,n,c,e,o⟩:=h5.out d;⟨ao,n,c,e,ownsRow_below o (b1)⟩) h6 h7 (fun d=>let⟨q,e,c⟩:=h8.out d;⟨q,e,Cl.on c (b1)⟩) (fun d=>let⟨ao,n,c,e,o⟩:=h9.out d;⟨ao,n,c,e,ownsRow_below o (b1)⟩) h10 h11 (fun d=>let⟨q,e,c⟩:=h12.out d;⟨q,e,Cl.on c (b1)⟩) (fun _=>⟨ao,nn,cc,rfl,aH ow (RB.lt hB)⟩) (fun d=>by have e:=(fw.out d).2.2.1;rw[un]at e;cases e)
  ·cases h1 (ah 1 hi (by kernel_rfl));have d5:f5=true:=ah 5 hi (by kernel_rfl);obtain⟨a5,n5,m5,rfl,o5⟩:=h5.out d5;have d9:f9=true:=ah 9 hi (by kernel_rfl);obtain⟨a9,n9,m9,rfl,o9⟩:=h9.out d9;have d13:f13=true:=ah 13 hi (by kernel_rfl);obtain⟨ij,n13,m13,rfl,Tr⟩:=dH.out d13;refine aj rfl fun K HK=>?_;go_simp;exact HK.out _ _ fun _ k=>k e15 hB h0 h1 h2 h3 h4 h5 h6 h7 h8 h9 h10 h11 h12 dH (fun _=>⟨d5,d9,d13,rfl⟩)
 ·intro w' f0 f1 f2 f3 f4 f5 f6 f7 f8 f9 f10 f11 f12 f13 f14 f15 x3 x4 x5 x6 x7 x8 x9 sZ yl vK ym tF Fj Cc tG e15 hB h0 h1 h2 h3 h4 h5 h6 h7 h8 h9 h10 h11 h12 dH fw hi;have d14:f14=true:=ah 14 hi (by kernel_rfl);obtain⟨_,_,_,rfl⟩:=fw.out d14;have d5:f5=true:=ah 5 hi (by kernel_rfl);obtain⟨a5,n5,m5,rfl,o5⟩:=h5.out d5;have d9:f9=true:=ah 9 hi (by kernel_rfl);obtain⟨a9,n9,m9,rfl,o9⟩:=h9.out d9;have d13:f13=true:=ah 13 hi (by kernel_rfl);obtain⟨ij,n13,m13,rfl,Tr⟩:=dH.out d13;clear hi;obtain⟨⟨z0,y0⟩,⟨z1,y1⟩,⟨z2,y2⟩,⟨z3,y3⟩,g0,g1,g2,g3⟩:=hB.four;refine aj rfl fun K HK=>?_;go_simp;refine HK.out _ _ ?_;have KF:Cl ((((w'.setCell ⟨p+1,0,none⟩ (.bool lf)).setCell ⟨p+1,1,none⟩ (.slice a5 n5 m5)).setCell ⟨p+1,2,none⟩ (.slice a9 n9 m9)).setCell ⟨p+1,3,none⟩ (.slice ij n13 m13)) (p+1) #[.bool lf,.slice a5 n5 m5,.slice a9 n9 m9,.slice ij n13 m13] 54:=by
   obtain⟨_,u0,u1,u2,u3,kc⟩:=hB;exact kc.eW _ _ _ _
  have BF:Hid (Below p w ((((w'.setCell ⟨p+1,0,none⟩ (.bool lf)).setCell ⟨p+1,1,none⟩ (.slice a5 n5 m5)).setCell ⟨p+1,2,none⟩ (.slice a9 n9 m9)).setCell ⟨p+1,3,none⟩ (.slice ij n13 m13))):=df (Tq.out _ hB) (Nat.le_succ p);have OF:Hid (kj p ((((w'.setCell ⟨p+1,0,none⟩ (.bool lf)).setCell ⟨p+1,1,none⟩ (.slice a5 n5 m5)).setCell ⟨p+1,2,none⟩ (.slice a9 n9 m9)).setCell ⟨p+1,3,none⟩ (.slice ij n13 m13)) (.slice a5 n5 m5) (.slice a9 n9 m9) (.slice ij n13 m13) ⟨lf,es,ks,ss⟩):=⟨aH (bC o5 (Nat.lt_succ_self _)) (by omega),aH (bC o9 (Nat.lt_succ_self _)) (by omega),aH (bC Tr (Nat.lt_succ_self _)) (by omega)⟩;generalize World.setCell _ _ _=X at*;obtain⟨k0,k1,k2,k3⟩:=KF.four;clear y0 y1 y2 y3 g0 g1 g2 g3 hB h0 h1 h2 h3 h4 h5 h6 h7 h8 h9 h10 h11 h12 dH fw;go_wp2;refine bodyPost_ret (v:=.agg #[.bool lf,.slice a5 n5 m5,.slice a9 n9 m9,.slice ij n13 m13]) ?_ rfl ⟨_,_,_,rfl,by rw[hp];exact OF.out,by rw[hp];exact BF.out⟩;rw[bF rfl];go_simp
 ·intro _ _;intros;assumption
end
end N
namespace N
section
attribute [local go_sem ↓] Go.wp_at_zero Go.wp_at_succ
theorem QL (s:ByteArray):#[Value.string s]=flatK encS 1 [s].toArray:=by
 apply Array.ext';have:=bR encS 1 eU [] s;rw[List.nil_append]at this;rw[this];simp[flatK,encS]
theorem Cl.Hj {w:World}{q:Nat}{s:ByteArray}{t:TypeId}(h:Cl w q #[.string s] t):Row encS 1 w (.slice (some ⟨q,0,none⟩) 1 1) [s]:=iI h (QL s) rfl
theorem QM (s:Int):#[Value.int .i64 s]=flatK encI 1 [s].toArray:=by
 apply Array.ext';have:=bR encI 1 iM [] s;rw[List.nil_append]at this;rw[this];simp[flatK,encI]
theorem Cl.Mo {w:World}{q:Nat}{s:Int}{t:TypeId}(h:Cl w q #[.int .i64 s] t):Row encI 1 w (.slice (some ⟨q,0,none⟩) 1 1) [s]:=iI h (QM s) rfl
theorem Cl.Xf (w:World)(cs:Array Value)(t:TypeId)(o o' o'':Obj):Cl ((((w.alloc o).alloc o').alloc o'').alloc (.cells cs t)) (w.heap.size+3) cs t:=by
 have:=Cl.new (((w.alloc o).alloc o').alloc o'') cs t
 rwa [show(((w.alloc o).alloc o').alloc o'').heap.size=w.heap.size+3 by simp]at this
def O8 (W:World)(p:Nat)(lf:Bool)(key:ByteArray)(vb:Value)(bt:List ByteArray)(pI oD lO:Option Addr)(pJ ck1 lQ:Nat)(es1:List En)(iz:List Int)(fx:List ByteArray)(pK pL oU:Option Addr)(pN ck2 oV:Nat)(es2:List En)(iO:List Int)(iA:List ByteArray){y4 y8 y9 tH oW oX y13 rS nL nM oY tI tJ:Value}(C:List Bool->Act->Prop)(w:World):Prop:=∀{f0 f1 f2 f3 f4 f5 f6 f7 f8 f9 f10 f11 f12 f13 f14 f15 f16 f17 f18 f19 f20 f21 f22:Bool}{x20 jU ll kL x24 x25 rT x27 x28 x29 x30 x31 x32 zI x34 Mp Mq Cf x38 x39 x40 x41:Value},f22=false->(RB W (p+2) 54 w∧Row encS 1 w vb bt)->Hid (f0=true->x20=.pointer (some ⟨p,0,none⟩))->Hid (f1=true->jU=.bool lf)->Hid (f2=true->ll=.pointer (some ⟨p,1,none⟩))->Hid (f3=true->kL=.slice pI es1.length pJ)->Hid (f4=true->x24=.pointer (some ⟨p+1,1,none⟩))->Hid (f5=true->x25=.slice pK es2.length pN)->Hid (f6=true->∃qq,rT=.slice (some ⟨qq,0,none⟩) 2 2∧Cl w qq #[.slice pI es1.length pJ,.slice pK es2.length pN] 32)->Hid (f7=true->∃ao n c,x27=.slice ao n c∧bj (p+3) w x27 (es1++es2))->Hid (f8=true->x28=.pointer (some ⟨p,2,none⟩))->Hid (f9=true->x29=.slice oD iz.length ck1)->Hid (f10=true->x30=.pointer (some ⟨p+1,2,none⟩))->Hid (f11=true->x31=.slice pL iO.length ck2)->Hid (f12=true->∃qq,x32=.slice (some ⟨qq,0,none⟩) 2 2∧Cl w qq #[.slice oD iz.length ck1,.slice pL iO.length ck2] 51)->Hid (f13=true->∃ao n c,zI=.slice ao n c∧dO (p+3) w zI (iz++iO))->Hid (f14=true->x34=.pointer (some ⟨p,3,none⟩))->Hid (f15=true->Mp=.slice lO fx.length lQ)->Hid (f16=true->Mq=vb)->Hid (f17=true->Cf=.pointer (some ⟨p+1,3,none⟩))->Hid (f18=true->x38=.slice oU iA.length oV)->Hid (f19=true->∃qq,x39=.slice (some ⟨qq,0,none⟩) 3 3∧Cl w qq #[.slice lO fx.length lQ,vb,.slice oU iA.length oV] 52)->Hid (f20=true->∃ao n c,x40=.slice ao n c∧cH (p+3) w x40 (fx++bt++iA))->Hid (f21=true->f7=true∧f13=true∧f20=true∧x41=.agg #[.bool lf,x27,zI,x40])->C [f0,f1,f2,f3,f4,f5,f6,f7,f8,f9,f10,f11,f12,f13,f14,f15,f16,f17,f18,f19,f20,f21,f22] {tmps:=#[.agg #[.bool lf,.slice pI es1.length pJ,.slice oD iz.length ck1,.slice lO fx.length lQ],.string key,.agg #[.bool lf,.slice pK es2.length pN,.slice pL iO.length ck2,.slice oU iA.length oV],.pointer (some ⟨p,0,none⟩),y4,.pointer (some ⟨p+1,0,none⟩),.pointer (some ⟨p+2,0,none⟩),vb,y8,y9,tH,oW,oX,y13,rS,nL,nM,oY,tI,tJ,x20,jU,ll,kL,x24,x25,rT,x27,x28,x29,x30,x31,x32,zI,x34,Mp,Mq,Cf,x38,x39,x40,x41],defers:=[]}
theorem uE:(∀(key:ByteArray) (es1 es2:List En) (iz iO:List Int) (fx iA:List ByteArray) (kM kN vs1 mF mG vs2:Value) (w:World) (h1:gY w kM kN vs1 ⟨true,es1,iz,fx⟩) (h2:gY w mF mG vs2 ⟨true,es2,iO,iA⟩) (hm1:zF ⟨true,es1,iz,fx⟩) (hm2:zF ⟨true,es2,iO,iA⟩),Calls Tryz.prog 173 #[.agg #[.bool true,kM,kN,vs1],.string key,.agg #[.bool true,mF,mG,vs2]] w fun e w'=>∃zG zH vs',e=.returned (.agg #[.bool true,zG,zH,vs'])∧kj w.heap.size w' zG zH vs' ⟨true,es1++es2,iz++iO,fx++[]++iA⟩∧Below w.heap.size w w')∧
  (∀(key:ByteArray) (es1 es2:List En) (iz iO:List Int) (fx iA:List ByteArray) (kM kN vs1 mF mG vs2:Value) (w:World) (h1:gY w kM kN vs1 ⟨false,es1,iz,fx⟩) (h2:gY w mF mG vs2 ⟨false,es2,iO,iA⟩) (hm1:zF ⟨false,es1,iz,fx⟩) (hm2:zF ⟨false,es2,iO,iA⟩),Calls Tryz.prog 173 #[.agg #[.bool false,kM,kN,vs1],.string key,.agg #[.bool false,mF,mG,vs2]] w fun e w'=>∃zG zH vs',e=.returned (.agg #[.bool false,zG,zH,vs'])∧kj w.heap.size w' zG zH vs' ⟨false,es1++es2,iz++iO,fx++[key]++iA⟩∧Below w.heap.size w w'):=by
 and_intros
 have jf:=trivial
 rotate_left
 have fe:=trivial
 rotate_left
 all_goals
  intro key es1 es2 iz iO fx iA kM kN vs1 mF mG vs2 w h1 h2 hm1 hm2;obtain⟨he1,hk1,hs1⟩:=h1;obtain⟨he2,hk2,hs2⟩:=h2;obtain⟨s1,s2,s3⟩:=hm1;obtain⟨r1,r2,r3⟩:=hm2;simp only at he1 hk1 hs1 he2 hk2 hs2 s1 s2 s3 r1 r2 r3;obtain⟨pI,pJ,rfl,_⟩:=ax he1;obtain⟨oD,ck1,rfl,_⟩:=ax hk1;obtain⟨lO,lQ,rfl,_⟩:=ax hs1;obtain⟨pK,pN,rfl,_⟩:=ax he2;obtain⟨pL,ck2,rfl,_⟩:=ax hk2;obtain⟨oU,oV,rfl,_⟩:=ax hs2
  first
   |have zz:=fe
    have K1:Cl ((((w.alloc (.cells #[.bool false,.slice pI es1.length pJ,.slice oD iz.length ck1,.slice lO fx.length lQ] 54)).alloc (.cells #[.bool false,.slice pK es2.length pN,.slice pL iO.length ck2,.slice oU iA.length oV] 54)).alloc (.cells #[.bool false,.slice none 0 0,.slice none 0 0,.slice none 0 0] 54)).alloc (.cells #[.string key] 9)) w.heap.size #[.bool false,.slice pI es1.length pJ,.slice oD iz.length ck1,.slice lO fx.length lQ] 54:=(((Cl.lh _ _ _).alloc _).alloc _).alloc _;have K2:Cl ((((w.alloc (.cells #[.bool false,.slice pI es1.length pJ,.slice oD iz.length ck1,.slice lO fx.length lQ] 54)).alloc (.cells #[.bool false,.slice pK es2.length pN,.slice pL iO.length ck2,.slice oU iA.length oV] 54)).alloc (.cells #[.bool false,.slice none 0 0,.slice none 0 0,.slice none 0 0] 54)).alloc (.cells #[.string key] 9)) (w.heap.size+1) #[.bool false,.slice pK es2.length pN,.slice pL iO.length ck2,.slice oU iA.length oV] 54:=((Cl.oT _ _ _ _).alloc _).alloc _;have K3:Cl ((((w.alloc (.cells #[.bool false,.slice pI es1.length pJ,.slice oD iz.length ck1,.slice lO fx.length lQ] 54)).alloc (.cells #[.bool false,.slice pK es2.length pN,.slice pL iO.length ck2,.slice oU iA.length oV] 54)).alloc (.cells #[.bool false,.slice none 0 0,.slice none 0 0,.slice none 0 0] 54)).alloc (.cells #[.string key] 9)) (w.heap.size+2) #[.bool false,.slice none 0 0,.slice none 0 0,.slice none 0 0] 54:=(Cl.Av _ _ _ _ _).alloc _;have BW:Hid (Below w.heap.size w ((((w.alloc (.cells #[.bool false,.slice pI es1.length pJ,.slice oD iz.length ck1,.slice lO fx.length lQ] 54)).alloc (.cells #[.bool false,.slice pK es2.length pN,.slice pL iO.length ck2,.slice oU iA.length oV] 54)).alloc (.cells #[.bool false,.slice none 0 0,.slice none 0 0,.slice none 0 0] 54)).alloc (.cells #[.string key] 9))):=aq _ (aq _ (aq _ (aq _ (Below.refl _ _))));have Uq:Row encS 1 ((((w.alloc (.cells #[.bool false,.slice pI es1.length pJ,.slice oD iz.length ck1,.slice lO fx.length lQ] 54)).alloc (.cells #[.bool false,.slice pK es2.length pN,.slice pL iO.length ck2,.slice oU iA.length oV] 54)).alloc (.cells #[.bool false,.slice none 0 0,.slice none 0 0,.slice none 0 0] 54)).alloc (.cells #[.string key] 9)) (.slice (some ⟨w.heap.size+3,0,none⟩) 1 1) [key]:=(Cl.Xf _ _ _ _ _ _).Hj
   |have K1:Cl (((w.alloc (.cells #[.bool true,.slice pI es1.length pJ,.slice oD iz.length ck1,.slice lO fx.length lQ] 54)).alloc (.cells #[.bool true,.slice pK es2.length pN,.slice pL iO.length ck2,.slice oU iA.length oV] 54)).alloc (.cells #[.bool false,.slice none 0 0,.slice none 0 0,.slice none 0 0] 54)) w.heap.size #[.bool true,.slice pI es1.length pJ,.slice oD iz.length ck1,.slice lO fx.length lQ] 54:=((Cl.lh _ _ _).alloc _).alloc _
    have K2:Cl (((w.alloc (.cells #[.bool true,.slice pI es1.length pJ,.slice oD iz.length ck1,.slice lO fx.length lQ] 54)).alloc (.cells #[.bool true,.slice pK es2.length pN,.slice pL iO.length ck2,.slice oU iA.length oV] 54)).alloc (.cells #[.bool false,.slice none 0 0,.slice none 0 0,.slice none 0 0] 54)) (w.heap.size+1) #[.bool true,.slice pK es2.length pN,.slice pL iO.length ck2,.slice oU iA.length oV] 54:=(Cl.oT _ _ _ _).alloc _;have K3:Cl (((w.alloc (.cells #[.bool true,.slice pI es1.length pJ,.slice oD iz.length ck1,.slice lO fx.length lQ] 54)).alloc (.cells #[.bool true,.slice pK es2.length pN,.slice pL iO.length ck2,.slice oU iA.length oV] 54)).alloc (.cells #[.bool false,.slice none 0 0,.slice none 0 0,.slice none 0 0] 54)) (w.heap.size+2) #[.bool false,.slice none 0 0,.slice none 0 0,.slice none 0 0] 54:=Cl.Av _ _ _ _ _;have BW:Hid (Below w.heap.size w (((w.alloc (.cells #[.bool true,.slice pI es1.length pJ,.slice oD iz.length ck1,.slice lO fx.length lQ] 54)).alloc (.cells #[.bool true,.slice pK es2.length pN,.slice pL iO.length ck2,.slice oU iA.length oV] 54)).alloc (.cells #[.bool false,.slice none 0 0,.slice none 0 0,.slice none 0 0] 54))):=(aq _ (aq _ (aq _ (Below.refl _ _))));have Uq:Row encS 1 (((w.alloc (.cells #[.bool true,.slice pI es1.length pJ,.slice oD iz.length ck1,.slice lO fx.length lQ] 54)).alloc (.cells #[.bool true,.slice pK es2.length pN,.slice pL iO.length ck2,.slice oU iA.length oV] 54)).alloc (.cells #[.bool false,.slice none 0 0,.slice none 0 0,.slice none 0 0] 54)) (.slice none 0 0) []:=Au
  go_enter Tryz.func173,Tryz.ntmps173
  go_wp2_with fail
  first
   |have zz:=fe
    generalize((((w.alloc (.cells #[.bool false,.slice pI es1.length pJ,.slice oD iz.length ck1,.slice lO fx.length lQ] 54)).alloc (.cells #[.bool false,.slice pK es2.length pN,.slice pL iO.length ck2,.slice oU iA.length oV] 54)).alloc (.cells #[.bool false,.slice none 0 0,.slice none 0 0,.slice none 0 0] 54)).alloc (.cells #[.string key] 9))=W at*
   |generalize(((w.alloc (.cells #[.bool true,.slice pI es1.length pJ,.slice oD iz.length ck1,.slice lO fx.length lQ] 54)).alloc (.cells #[.bool true,.slice pK es2.length pN,.slice pL iO.length ck2,.slice oU iA.length oV] 54)).alloc (.cells #[.bool false,.slice none 0 0,.slice none 0 0,.slice none 0 0] 54))=W at*
  obtain⟨p,hp⟩:∃p,w.heap.size=p:=⟨_,rfl⟩;rw[hp]at K1 K2 K3 BW⊢
  (try rw[hp]at Uq)
  first
   |have zz:=fe
    have RT:Hid (Row encS 1 W.drew (.slice (some ⟨p+3,0,none⟩) 1 1) [key]):=Uq.below (Below.refl _ W).drew
   |have RT:Hid (Row encS 1 W.drew (.slice none 0 0) []):=Uq.below (Below.refl _ W).drew
  have R0:Hid (RB W (p+2) 54 W.drew):=⟨(Below.refl _ W).drew,_,_,_,_,K3⟩;have BX:∀X,RB W (p+2) 54 X->Below p w X:=fun X hX=>BW.out.trans (hX.1.mono (by omega));have RE1:Hid (∀X,RB W (p+2) 54 X->Row aG 2 X (.slice pI es1.length pJ) es1):=fun X hX=>he1.below (by rw[hp];exact BX X hX);have VX:Hid (∀X,RB W (p+2) 54 X->Row encI 1 X (.slice oD iz.length ck1) iz):=fun X hX=>hk1.below (by rw[hp];exact BX X hX);have Ur:Hid (∀X,RB W (p+2) 54 X->Row encS 1 X (.slice lO fx.length lQ) fx):=fun X hX=>hs1.below (by rw[hp];exact BX X hX);have RE2:Hid (∀X,RB W (p+2) 54 X->Row aG 2 X (.slice pK es2.length pN) es2):=fun X hX=>he2.below (by rw[hp];exact BX X hX);have RK2:Hid (∀X,RB W (p+2) 54 X->Row encI 1 X (.slice pL iO.length ck2) iO):=fun X hX=>hk2.below (by rw[hp];exact BX X hX);have RS2:Hid (∀X,RB W (p+2) 54 X->Row encS 1 X (.slice oU iA.length oV) iA):=fun X hX=>hs2.below (by rw[hp];exact BX X hX)
  first
   |have zz:=fe
    have MA:Hid (∀X,RB W (p+2) 54 X->X.cell? ⟨p,0,none⟩=some (.bool false)∧X.cell? ⟨p,1,none⟩=some (.slice pI es1.length pJ)∧X.cell? ⟨p,2,none⟩=some (.slice oD iz.length ck1)∧X.cell? ⟨p,3,none⟩=some (.slice lO fx.length lQ)):=fun X hX=>(K1.below hX.1 (by omega)).four;have MB:Hid (∀X,RB W (p+2) 54 X->X.cell? ⟨p+1,0,none⟩=some (.bool false)∧X.cell? ⟨p+1,1,none⟩=some (.slice pK es2.length pN)∧X.cell? ⟨p+1,2,none⟩=some (.slice pL iO.length ck2)∧X.cell? ⟨p+1,3,none⟩=some (.slice oU iA.length oV)):=fun X hX=>(K2.below hX.1 (by omega)).four
   |have MA:Hid (∀X,RB W (p+2) 54 X->X.cell? ⟨p,0,none⟩=some (.bool true)∧X.cell? ⟨p,1,none⟩=some (.slice pI es1.length pJ)∧X.cell? ⟨p,2,none⟩=some (.slice oD iz.length ck1)∧X.cell? ⟨p,3,none⟩=some (.slice lO fx.length lQ)):=fun X hX=>(K1.below hX.1 (by omega)).four
    have MB:Hid (∀X,RB W (p+2) 54 X->X.cell? ⟨p+1,0,none⟩=some (.bool true)∧X.cell? ⟨p+1,1,none⟩=some (.slice pK es2.length pN)∧X.cell? ⟨p+1,2,none⟩=some (.slice pL iO.length ck2)∧X.cell? ⟨p+1,3,none⟩=some (.slice oU iA.length oV)):=fun X hX=>(K2.below hX.1 (by omega)).four
  have Tq:Hid (∀X,RB W (p+2) 54 X->Below p w X):=BX;clear he1 hk1 hs1 he2 hk2 hs2 K1 K2 K3 BW BX Uq
  first
   |have zz:=fe
    refine aT 22 (O8 W p false key (.slice (some ⟨p+3,0,none⟩) 1 1) [key] pI oD lO pJ ck1 lQ es1 iz fx pK pL oU pN ck2 oV es2 iO iA) (by kernel_rfl) (by kernel_rfl) (by kernel_rfl) (fun _ k=>k rfl ⟨R0.out,RT.out⟩ ar ar ar ar ar ar ar ar ar ar ar ar ar ar ar ar ar ar ar ar ar ar) ?_ ?_ ?_
   |refine aT 22 (O8 W p true key (.slice none 0 0) [] pI oD lO pJ ck1 lQ es1 iz fx pK pL oU pN ck2 oV es2 iO iA) (by kernel_rfl) (by kernel_rfl) (by kernel_rfl) (fun _ k=>k rfl ⟨R0.out,RT.out⟩ ar ar ar ar ar ar ar ar ar ar ar ar ar ar ar ar ar ar ar ar ar ar) ?_ ?_ ?_
  ·intro i w' hne f0 f1 f2 f3 f4 f5 f6 f7 f8 f9 f10 f11 f12 f13 f14 f15 f16 f17 f18 f19 f20 f21 f22 x20 jU ll kL x24 x25 rT x27 x28 x29 x30 x31 x32 zI x34 Mp Mq Cf x38 x39 x40 x41 e22 hB h0 h1 h2 h3 h4 h5 h6 h7 h8 h9 h10 h11 h12 dH fw pO h16 Aw h18 h19 h20 h21 hi;obtain⟨hlt,hun,_⟩:=aM hi;have hlt':i<23:=hlt;clear hlt;rcases(by omega:i=0∨i=1∨i=2∨i=3∨i=4∨i=5∨i=6∨i=7∨i=8∨i=9∨i=10∨i=11∨i=12∨i=13∨i=14∨i=15∨i=16∨i=17∨i=18∨i=19∨i=20∨i=21)with rfl|rfl|rfl|rfl|rfl|rfl|rfl|rfl|rfl|rfl|rfl|rfl|rfl|rfl|rfl|rfl|rfl|rfl|rfl|rfl|rfl|rfl
   ·refine aj rfl fun K HK=>?_;go_simp;exact HK.out _ _ fun _ k=>by apply k<;>first|assumption|exact hidR|(repeat' first|apply Exists.intro|assumption|rfl|apply And.intro|exact fun _=>rfl)
   ·cases h0 (ah 0 hi (by kernel_rfl));have cell:=(MA.out _ hB.1).1;refine aj rfl fun K HK=>?_;go_simp;exact HK.out _ _ fun _ k=>by apply k<;>first|assumption|exact hidR|(repeat' first|apply Exists.intro|assumption|rfl|apply And.intro|exact fun _=>rfl)
   ·refine aj rfl fun K HK=>?_;go_simp;exact HK.out _ _ fun _ k=>by apply k<;>first|assumption|exact hidR|(repeat' first|apply Exists.intro|assumption|rfl|apply And.intro|exact fun _=>rfl)
   ·cases h2 (ah 2 hi (by kernel_rfl));have cell:=(MA.out _ hB.1).2.1;refine aj rfl fun K HK=>?_;go_simp;exact HK.out _ _ fun _ k=>by apply k<;>first|assumption|exact hidR|(repeat' first|apply Exists.intro|assumption|rfl|apply And.intro|exact fun _=>rfl)
   ·refine aj rfl fun K HK=>?_;go_simp;exact HK.out _ _ fun _ k=>by apply k<;>first|assumption|exact hidR|(repeat' first|apply Exists.intro|assumption|rfl|apply And.intro|exact fun _=>rfl)
   ·cases h4 (ah 4 hi (by kernel_rfl));have cell:=(MB.out _ hB.1).2.1;refine aj rfl fun K HK=>?_;go_simp;exact HK.out _ _ fun _ k=>by apply k<;>first|assumption|exact hidR|(repeat' first|apply Exists.intro|assumption|rfl|apply And.intro|exact fun _=>rfl)
   ·cases h3 (ah 3 hi (by kernel_rfl));cases h5 (ah 5 hi (by kernel_rfl));refine aj rfl fun K HK=>?_;go_simp;exact HK.out _ _ fun _ k=>k e22 ⟨RB.alloc hB.1 _,hB.2.below (aq _ (Below.refl _ _))⟩ h0 h1 h2 h3 h4 h5 (fun _=>⟨_,rfl,Cl.new _ _ _⟩) (fun d=>let⟨ao,n,c,e,o⟩:=h7.out d;⟨ao,n,c,e,ownsRow_below o (aq _ (Below.refl _ _))⟩) h8 h9 h10 h11 (fun d=>let⟨q,e,c⟩:=h12.out d;⟨q,e,Cl.on c (aq _ (Below.refl _ _))⟩) (fun d=>let⟨ao,n,c,e,o⟩:=dH.out d;⟨ao,n,c,e,ownsRow_below o (aq _ (Below.refl _ _))⟩) fw pO h16 Aw h18 (fun d=>let⟨q,e,c⟩:=h19.out d;⟨q,e,Cl.on c (aq _ (Below.refl _ _))⟩) (fun d=>let⟨ao,n,c,e,o⟩:=h20.out d;⟨ao,n,c,e,ownsRow_below o (aq _ (Below.refl _ _))⟩) h21
   ·have un:f7=false:=hun;obtain⟨q6,rfl,c6⟩:=h6.out (ah 6 hi (by kernel_rfl));refine aj rfl fun K HK=>?_;go_simp;refine Calls.mono (Hg q6 32 (.slice pI es1.length pJ) (.slice pK es2.length pN) es1 es2 w' c6 (RE1.out _ hB.1) (RE2.out _ hB.1) (by omega)) ?_;rintro e w1 ⟨ao,nn,cc,rfl,ow,b1⟩;exact HK.out _ _ fun _ k=>k e22 ⟨RB.call hB.1 b1,hB.2.below b1⟩ h0 h1 h2 h3 h4 h5 (fun d=>let⟨q,e,c⟩:=h6.out d;⟨q,e,Cl.on c (b1)⟩) (fun _=>⟨ao,nn,cc,rfl,aH ow (RB.lt hB.1)⟩) h8 h9 h10 h11 (fun d=>let⟨q,e,c⟩:=h12.out d;⟨q,e,Cl.on c (b1)⟩) (fun d=>let⟨ao,n,c,e,o⟩:=dH.out d;⟨ao,n,c,e,ownsRow_below o (b1)⟩) fw pO h16 Aw h18 (fun d=>let⟨q,e,c⟩:=h19.out d;⟨q,e,Cl.on c (b1)⟩) (fun d=>let⟨ao,n,c,e,o⟩:=h20.out d;⟨ao,n,c,e,ownsRow_below o (b1)⟩) (fun d=>by have e:=(h21.out d).1;rw[un]at e;cases e)
   ·refine aj rfl fun K HK=>?_;go_simp;exact HK.out _ _ fun _ k=>by apply k<;>first|assumption|exact hidR|(repeat' first|apply Exists.intro|assumption|rfl|apply And.intro|exact fun _=>rfl)
   ·cases h8 (ah 8 hi (by kernel_rfl));have cell:=(MA.out _ hB.1).2.2.1;refine aj rfl fun K HK=>?_;go_simp;exact HK.out _ _ fun _ k=>by apply k<;>first|assumption|exact hidR|(repeat' first|apply Exists.intro|assumption|rfl|apply And.intro|exact fun _=>rfl)
   ·refine aj rfl fun K HK=>?_;go_simp;exact HK.out _ _ fun _ k=>by apply k<;>first|assumption|exact hidR|(repeat' first|apply Exists.intro|assumption|rfl|apply And.intro|exact fun _=>rfl)
   ·cases h10 (ah 10 hi (by kernel_rfl));have cell:=(MB.out _ hB.1).2.2.1;refine aj rfl fun K HK=>?_;go_simp;exact HK.out _ _ fun _ k=>by apply k<;>first|assumption|exact hidR|(repeat' first|apply Exists.intro|assumption|rfl|apply And.intro|exact fun _=>rfl)
   ·cases h9 (ah 9 hi (by kernel_rfl));cases h11 (ah 11 hi (by kernel_rfl));refine aj rfl fun K HK=>?_;go_simp;exact HK.out _ _ fun _ k=>k e22 ⟨RB.alloc hB.1 _,hB.2.below (aq _ (Below.refl _ _))⟩ h0 h1 h2 h3 h4 h5 (fun d=>let⟨q,e,c⟩:=h6.out d;⟨q,e,Cl.on c (aq _ (Below.refl _ _))⟩) (fun d=>let⟨ao,n,c,e,o⟩:=h7.out d;⟨ao,n,c,e,ownsRow_below o (aq _ (Below.refl _ _))⟩) h8 h9 h10 h11 (fun _=>⟨_,rfl,Cl.new _ _ _⟩) (fun d=>let⟨ao,n,c,e,o⟩:=dH.out d;⟨ao,n,c,e,ownsRow_below o (aq _ (Below.refl _ _))⟩) fw pO h16 Aw h18 (fun d=>let⟨q,e,c⟩:=h19.out d;⟨q,e,Cl.on c (aq _ (Below.refl _ _))⟩) (fun d=>let⟨ao,n,c,e,o⟩:=h20.out d;⟨ao,n,c,e,ownsRow_below o (aq _ (Below.refl _ _))⟩) h21
   ·have un:f13=false:=hun;obtain⟨Ce,rfl,c12⟩:=h12.out (ah 12 hi (by kernel_rfl));refine aj rfl fun K HK=>?_;go_simp;refine Calls.mono (Hh Ce 51 (.slice oD iz.length ck1) (.slice pL iO.length ck2) iz iO w' c12 (VX.out _ hB.1) (RK2.out _ hB.1) (by omega)) ?_;rintro e w1 ⟨ao,nn,cc,rfl,ow,b1⟩;exact HK.out _ _ fun _ k=>k e22 ⟨RB.call hB.1 b1,hB.2.below b1⟩ h0 h1 h2 h3 h4 h5 (fun d=>let⟨q,e,c⟩:=h6.out d;⟨q,e,Cl.on c (b1)⟩) (fun d=>let⟨ao,n,c,e,o⟩:=h7.out d;⟨ao,n,c,e,ownsRow_below o (b1)⟩) h8 h9 h10 h11 (fun d=>let⟨q,e,c⟩:=h12.out d;⟨q,e,Cl.on c (b1)⟩) (fun _=>⟨ao,nn,cc,rfl,aH ow (RB.lt hB.1)⟩) fw pO h16 Aw h18 (fun d=>let⟨q,e,c⟩:=h19.out d;⟨q,e,Cl.on c (b1)⟩) (fun d=>let⟨ao,n,c,e,o⟩:=h20.out d;⟨ao,n,c,e,ownsRow_below o (b1)⟩) (fun d=>by have e:=(h21.out d).2.1;rw[un]at e;cases e)
   ·refine aj rfl fun K HK=>?_;go_simp;exact HK.out _ _ fun _ k=>by apply k<;>first|assumption|exact hidR|(repeat' first|apply Exists.intro|assumption|rfl|apply And.intro|exact fun _=>rfl)
   ·cases fw (ah 14 hi (by kernel_rfl));have cell:=(MA.out _ hB.1).2.2.2;refine aj rfl fun K HK=>?_;go_simp;exact HK.out _ _ fun _ k=>by apply k<;>first|assumption|exact hidR|(repeat' first|apply Exists.intro|assumption|rfl|apply And.intro|exact fun _=>rfl)
   ·refine aj rfl fun K HK=>?_;go_simp;exact HK.out _ _ fun _ k=>by apply k<;>first|assumption|exact hidR|(repeat' first|apply Exists.intro|assumption|rfl|apply And.intro|exact fun _=>rfl)
   ·refine aj rfl fun K HK=>?_;go_simp;exact HK.out _ _ fun _ k=>by apply k<;>first|assumption|exact hidR|(repeat' first|apply Exists.intro|assumption|rfl|apply And.intro|exact fun _=>rfl)
   ·cases Aw (ah 17 hi (by kernel_rfl));have cell:=(MB.out _ hB.1).2.2.2;refine aj rfl fun K HK=>?_;go_simp;exact HK.out _ _ fun _ k=>by apply k<;>first|assumption|exact hidR|(repeat' first|apply Exists.intro|assumption|rfl|apply And.intro|exact fun _=>rfl)
   ·cases pO (ah 15 hi (by kernel_rfl));cases h16 (ah 16 hi (by kernel_rfl));cases h18 (ah 18 hi (by kernel_rfl));refine aj rfl fun K HK=>?_;go_simp;exact HK.out _ _ fun _ k=>k e22 ⟨RB.alloc hB.1 _,hB.2.below (aq _ (Below.refl _ _))⟩ h0 h1 h2 h3 h4 h5 (fun d=>let⟨q,e,c⟩:=h6.out d;⟨q,e,Cl.on c (aq _ (Below.refl _ _))⟩) (fun d=>let⟨ao,n,c,e,o⟩:=h7.out d;⟨ao,n,c,e,ownsRow_below o (aq _ (Below.refl _ _))⟩) h8 h9 h10 h11 (fun d=>let⟨q,e,c⟩:=h12.out d;⟨q,e,Cl.on c (aq _ (Below.refl _ _))⟩) (fun d=>let⟨ao,n,c,e,o⟩:=dH.out d;⟨ao,n,c,e,ownsRow_below o (aq _ (Below.refl _ _))⟩) fw pO h16 Aw h18 (fun _=>⟨_,rfl,Cl.new _ _ _⟩) (fun d=>let⟨ao,n,c,e,o⟩:=h20.out d;⟨ao,n,c,e,ownsRow_below o (aq _ (Below.refl _ _))⟩) h21
   ·have un:f20=false:=hun;obtain⟨Mr,rfl,c19⟩:=h19.out (ah 19 hi (by kernel_rfl));refine aj rfl fun K HK=>?_;go_simp
    first
     |have zz:=fe
      refine Calls.mono (rR Mr 52 (.slice lO fx.length lQ) (.slice (some ⟨p+3,0,none⟩) 1 1) (.slice oU iA.length oV) fx [key] iA w' c19 (Ur.out _ hB.1) hB.2 (RS2.out _ hB.1) (by simp only[List.length_singleton];omega)) ?_
     |refine Calls.mono (rR Mr 52 (.slice lO fx.length lQ) (.slice none 0 0) (.slice oU iA.length oV) fx [] iA w' c19 (Ur.out _ hB.1) hB.2 (RS2.out _ hB.1) (by simp only[List.length_nil];omega)) ?_
    rintro e w1 ⟨ao,nn,cc,rfl,ow,b1⟩;exact HK.out _ _ fun _ k=>k e22 ⟨RB.call hB.1 b1,hB.2.below b1⟩ h0 h1 h2 h3 h4 h5 (fun d=>let⟨q,e,c⟩:=h6.out d;⟨q,e,Cl.on c (b1)⟩) (fun d=>let⟨ao,n,c,e,o⟩:=h7.out d;⟨ao,n,c,e,ownsRow_below o (b1)⟩) h8 h9 h10 h11 (fun d=>let⟨q,e,c⟩:=h12.out d;⟨q,e,Cl.on c (b1)⟩) (fun d=>let⟨ao,n,c,e,o⟩:=dH.out d;⟨ao,n,c,e,ownsRow_below o (b1)⟩) fw pO h16 Aw h18 (fun d=>let⟨q,e,c⟩:=h19.out d;⟨q,e,Cl.on c (b1)⟩) (fun _=>⟨ao,nn,cc,rfl,aH ow (RB.lt hB.1)⟩) (fun d=>by have e:=(h21.out d).2.2.1;rw[un]at e;cases e)
   ·cases h1 (ah 1 hi (by kernel_rfl));have d7:f7=true:=ah 7 hi (by kernel_rfl);obtain⟨a7,n7,m7,rfl,o7⟩:=h7.out d7;have d13:f13=true:=ah 13 hi (by kernel_rfl);obtain⟨ij,n13,m13,rfl,Tr⟩:=dH.out d13;have d20:f20=true:=ah 20 hi (by kernel_rfl);obtain⟨a20,n20,m20,rfl,Xg⟩:=h20.out d20;refine aj rfl fun K HK=>?_;go_simp;exact HK.out _ _ fun _ k=>k e22 hB h0 h1 h2 h3 h4 h5 h6 h7 h8 h9 h10 h11 h12 dH fw pO h16 Aw h18 h19 h20 (fun _=>⟨d7,d13,d20,rfl⟩)
  ·intro w' f0 f1 f2 f3 f4 f5 f6 f7 f8 f9 f10 f11 f12 f13 f14 f15 f16 f17 f18 f19 f20 f21 f22 x20 jU ll kL x24 x25 rT x27 x28 x29 x30 x31 x32 zI x34 Mp Mq Cf x38 x39 x40 x41 e22 hB h0 h1 h2 h3 h4 h5 h6 h7 h8 h9 h10 h11 h12 dH fw pO h16 Aw h18 h19 h20 h21 hi;have d21:f21=true:=ah 21 hi (by kernel_rfl);obtain⟨_,_,_,rfl⟩:=h21.out d21;have d7:f7=true:=ah 7 hi (by kernel_rfl);obtain⟨a7,n7,m7,rfl,o7⟩:=h7.out d7;have d13:f13=true:=ah 13 hi (by kernel_rfl);obtain⟨ij,n13,m13,rfl,Tr⟩:=dH.out d13;have d20:f20=true:=ah 20 hi (by kernel_rfl);obtain⟨a20,n20,m20,rfl,Xg⟩:=h20.out d20;clear hi;obtain⟨⟨z0,y0⟩,⟨z1,y1⟩,⟨z2,y2⟩,⟨z3,y3⟩,g0,g1,g2,g3⟩:=hB.1.four;refine aj rfl fun K HK=>?_;go_simp;refine HK.out _ _ ?_
   first
    |have zz:=fe
     have KF:Cl ((((w'.setCell ⟨p+2,0,none⟩ (.bool false)).setCell ⟨p+2,1,none⟩ (.slice a7 n7 m7)).setCell ⟨p+2,2,none⟩ (.slice ij n13 m13)).setCell ⟨p+2,3,none⟩ (.slice a20 n20 m20)) (p+2) #[.bool false,.slice a7 n7 m7,.slice ij n13 m13,.slice a20 n20 m20] 54:=by
      obtain⟨⟨_,u0,u1,u2,u3,kc⟩,_⟩:=hB;exact kc.eW _ _ _ _
     have BF:Hid (Below p w ((((w'.setCell ⟨p+2,0,none⟩ (.bool false)).setCell ⟨p+2,1,none⟩ (.slice a7 n7 m7)).setCell ⟨p+2,2,none⟩ (.slice ij n13 m13)).setCell ⟨p+2,3,none⟩ (.slice a20 n20 m20))):=df (Tq.out _ hB.1) (by omega);have OF:Hid (kj p ((((w'.setCell ⟨p+2,0,none⟩ (.bool false)).setCell ⟨p+2,1,none⟩ (.slice a7 n7 m7)).setCell ⟨p+2,2,none⟩ (.slice ij n13 m13)).setCell ⟨p+2,3,none⟩ (.slice a20 n20 m20)) (.slice a7 n7 m7) (.slice ij n13 m13) (.slice a20 n20 m20) ⟨false,es1++es2,iz++iO,fx++[key]++iA⟩):=⟨aH (bC o7 (Nat.lt_succ_self _)) (by omega),aH (bC Tr (Nat.lt_succ_self _)) (by omega),aH (bC Xg (Nat.lt_succ_self _)) (by omega)⟩;generalize World.setCell _ _ _=X at*
    |have KF:Cl ((((w'.setCell ⟨p+2,0,none⟩ (.bool true)).setCell ⟨p+2,1,none⟩ (.slice a7 n7 m7)).setCell ⟨p+2,2,none⟩ (.slice ij n13 m13)).setCell ⟨p+2,3,none⟩ (.slice a20 n20 m20)) (p+2) #[.bool true,.slice a7 n7 m7,.slice ij n13 m13,.slice a20 n20 m20] 54:=by
      obtain⟨⟨_,u0,u1,u2,u3,kc⟩,_⟩:=hB;exact kc.eW _ _ _ _
     have BF:Hid (Below p w ((((w'.setCell ⟨p+2,0,none⟩ (.bool true)).setCell ⟨p+2,1,none⟩ (.slice a7 n7 m7)).setCell ⟨p+2,2,none⟩ (.slice ij n13 m13)).setCell ⟨p+2,3,none⟩ (.slice a20 n20 m20))):=df (Tq.out _ hB.1) (by omega);have OF:Hid (kj p ((((w'.setCell ⟨p+2,0,none⟩ (.bool true)).setCell ⟨p+2,1,none⟩ (.slice a7 n7 m7)).setCell ⟨p+2,2,none⟩ (.slice ij n13 m13)).setCell ⟨p+2,3,none⟩ (.slice a20 n20 m20)) (.slice a7 n7 m7) (.slice ij n13 m13) (.slice a20 n20 m20) ⟨true,es1++es2,iz++iO,fx++[]++iA⟩):=⟨aH (bC o7 (Nat.lt_succ_self _)) (by omega),aH (bC Tr (Nat.lt_succ_self _)) (by omega),aH (bC Xg (Nat.lt_succ_self _)) (by omega)⟩;generalize World.setCell _ _ _=X at*
   obtain⟨k0,k1,k2,k3⟩:=KF.four;clear y0 y1 y2 y3 g0 g1 g2 g3 hB h0 h1 h2 h3 h4 h5 h6 h7 h8 h9 h10 h11 h12 dH fw pO h16 Aw h18 h19 h20 h21;go_wp2
   first
    |have zz:=fe
     refine bodyPost_ret (v:=.agg #[.bool false,.slice a7 n7 m7,.slice ij n13 m13,.slice a20 n20 m20]) ?_ rfl ⟨_,_,_,rfl,by rw[hp];exact OF.out,by rw[hp];exact BF.out⟩
    |refine bodyPost_ret (v:=.agg #[.bool true,.slice a7 n7 m7,.slice ij n13 m13,.slice a20 n20 m20]) ?_ rfl ⟨_,_,_,rfl,by rw[hp];exact OF.out,by rw[hp];exact BF.out⟩
   rw[bF rfl];go_simp
  ·intro _ _;intros;assumption
end
section
attribute [local go_sem ↓] Go.wp_at_zero Go.wp_at_succ
theorem mH {base q:Nat}{w:World}{e t:TypeId}{k:Nat}{v a b c d:Value}{n:Nat}{xs:List Value}{cs:Array Value}(h:w.ownsRow base e k v n xs)(hc:Cl w q cs t)(hne:t≠e):(eW w q a b c d).ownsRow base e k v n xs:=by
 refine⟨h.1,?_⟩;rcases h.2 with h2| ⟨g,cap,cur,hv,hg,hh,r⟩
 ·exact Or.inl h2
 ·refine Or.inr ⟨g,cap,cur,hv,hg,?_,r⟩;have Ts:g≠q:=by
   intro e1;subst e1;unfold Cl at hc;rw[hc]at hh;injection hh with hh;injection hh with h1 h2;exact hne h2
  unfold eW;rw[Below.heap_setCell _ _ _ _ Ts,Below.heap_setCell _ _ _ _ Ts,Below.heap_setCell _ _ _ _ Ts,Below.heap_setCell _ _ _ _ Ts];exact hh
def Ee (w:World)(n:Nd)(e:Ending)(w':World):Prop:=∃ve vk vs,e=.returned (.agg #[.bool n.leaf,ve,vk,vs])∧kj w.heap.size w' ve vk vs n∧Below w.heap.size w w'
theorem yn (key:ByteArray)(a b:Nd)(kM kN vs1 mF mG vs2:Value)(w:World)(h1:gY w kM kN vs1 a)(hm1:zF a)(hlf:a.leaf=true)(Ut:b.leaf=false):
  Calls Tryz.prog 173 #[.agg #[.bool a.leaf,kM,kN,vs1],.string key,.agg #[.bool b.leaf,mF,mG,vs2]] w (Ee w a):=by
 have BW:Hid (Below w.heap.size w (((w.alloc (.cells #[.bool true,kM,kN,vs1] 54)).alloc (.cells #[.bool false,mF,mG,vs2] 54)).alloc (.cells #[.bool false,.slice none 0 0,.slice none 0 0,.slice none 0 0] 54))):=aq _ (aq _ (aq _ (Below.refl _ _)));have K1:Cl (((w.alloc (.cells #[.bool true,kM,kN,vs1] 54)).alloc (.cells #[.bool false,mF,mG,vs2] 54)).alloc (.cells #[.bool false,.slice none 0 0,.slice none 0 0,.slice none 0 0] 54)) w.heap.size #[.bool true,kM,kN,vs1] 54:=((Cl.lh _ _ _).alloc _).alloc _;have K2:Cl (((w.alloc (.cells #[.bool true,kM,kN,vs1] 54)).alloc (.cells #[.bool false,mF,mG,vs2] 54)).alloc (.cells #[.bool false,.slice none 0 0,.slice none 0 0,.slice none 0 0] 54)) (w.heap.size+1) #[.bool false,mF,mG,vs2] 54:=(Cl.oT _ _ _ _).alloc _;have K3:Cl (((w.alloc (.cells #[.bool true,kM,kN,vs1] 54)).alloc (.cells #[.bool false,mF,mG,vs2] 54)).alloc (.cells #[.bool false,.slice none 0 0,.slice none 0 0,.slice none 0 0] 54)) (w.heap.size+1+1) #[.bool false,.slice none 0 0,.slice none 0 0,.slice none 0 0] 54:=Cl.Av _ _ _ _ _;have C:Hid _:=iN a kM kN vs1 (((w.alloc (.cells #[.bool true,kM,kN,vs1] 54)).alloc (.cells #[.bool false,mF,mG,vs2] 54)).alloc (.cells #[.bool false,.slice none 0 0,.slice none 0 0,.slice none 0 0] 54)) (h1.below BW.out) hm1;rw[hlf]at C;rw[hlf,Ut];obtain⟨ae,ce,rfl,_⟩:=ax h1.e;obtain⟨ak,ck,rfl,_⟩:=ax h1.k;obtain⟨az,cz,rfl,_⟩:=ax h1.s;have HL:Hid (a.leaf=true):=hlf;clear h1 hlf Ut;go_enter Tryz.func173,Tryz.ntmps173
 go_upto_region 1 with fail
 generalize World.alloc _ _=W at*;obtain⟨p,hp⟩:∃p,w.heap.size=p:=⟨_,rfl⟩;rw[hp]at K1 K2 K3 BW⊢;obtain⟨c0,c1,c2,c3⟩:=K1.four;obtain⟨d0,_,_,_⟩:=K2.four;have l1:=K3.lt;clear K1 K2
 go_wp2_with fail
 refine Calls.mono C.out ?_;rintro e w1 ⟨zG,zH,vs',rfl,O1,B1⟩;obtain⟨av,cv,rfl⟩:=bM O1.e;obtain⟨bv,dv,rfl⟩:=bM O1.k;obtain⟨gv,hv,rfl⟩:=bM O1.s;have K4:Cl w1 (p+1+1) #[.bool false,.slice none 0 0,.slice none 0 0,.slice none 0 0] 54:=K3.on B1;obtain⟨f0,f1,f2,f3⟩:=K4.four;obtain⟨g0,g1,g2,g3⟩:=K4.thaw;have KF:Cl ((((w1.setCell ⟨p+1+1,0,none⟩ (.bool true)).setCell ⟨p+1+1,1,none⟩ (.slice av a.es.length cv)).setCell ⟨p+1+1,2,none⟩ (.slice bv a.ks.length dv)).setCell ⟨p+1+1,3,none⟩ (.slice gv a.ss.length hv)) (p+1+1) #[.bool true,.slice av a.es.length cv,.slice bv a.ks.length dv,.slice gv a.ss.length hv] 54:=K4.eW _ _ _ _;have BF:Hid (Below p w ((((w1.setCell ⟨p+1+1,0,none⟩ (.bool true)).setCell ⟨p+1+1,1,none⟩ (.slice av a.es.length cv)).setCell ⟨p+1+1,2,none⟩ (.slice bv a.ks.length dv)).setCell ⟨p+1+1,3,none⟩ (.slice gv a.ss.length hv))):=df (BW.out.trans (B1.mono (by omega))) (by omega);have OF:Hid (kj p ((((w1.setCell ⟨p+1+1,0,none⟩ (.bool true)).setCell ⟨p+1+1,1,none⟩ (.slice av a.es.length cv)).setCell ⟨p+1+1,2,none⟩ (.slice bv a.ks.length dv)).setCell ⟨p+1+1,3,none⟩ (.slice gv a.ss.length hv)) (.slice av a.es.length cv) (.slice bv a.ks.length dv) (.slice gv a.ss.length hv) a):=⟨aH (bC O1.e l1) (by omega),aH (bC O1.k l1) (by omega),aH (bC O1.s l1) (by omega)⟩;clear C B1 O1 K3 K4 c0 c1 c2 c3 d0;go_wp2
 (try simp only[Exit.inBlock,Exit.then])
 generalize World.setCell _ _ _=X at*;obtain⟨k0,k1,k2,k3⟩:=KF.four;refine bodyPost_ret (v:=.agg #[.bool true,.slice av a.es.length cv,.slice bv a.ks.length dv,.slice gv a.ss.length hv]) ?_ rfl ⟨_,_,_,by rw[HL.out],by rw[hp];exact OF.out,by rw[hp];exact BF.out⟩;rw[bF rfl];go_simp
theorem vM (key:ByteArray)(a b:Nd)(kM kN vs1 mF mG vs2:Value)(w:World)(h1:gY w kM kN vs1 a)(hm1:zF a)(hlf:a.leaf=false)(Ut:b.leaf=true):
  Calls Tryz.prog 173 #[.agg #[.bool a.leaf,kM,kN,vs1],.string key,.agg #[.bool b.leaf,mF,mG,vs2]] w (Ee w a):=by
 have BW:Hid (Below w.heap.size w (((w.alloc (.cells #[.bool false,kM,kN,vs1] 54)).alloc (.cells #[.bool true,mF,mG,vs2] 54)).alloc (.cells #[.bool false,.slice none 0 0,.slice none 0 0,.slice none 0 0] 54))):=aq _ (aq _ (aq _ (Below.refl _ _)));have K1:Cl (((w.alloc (.cells #[.bool false,kM,kN,vs1] 54)).alloc (.cells #[.bool true,mF,mG,vs2] 54)).alloc (.cells #[.bool false,.slice none 0 0,.slice none 0 0,.slice none 0 0] 54)) w.heap.size #[.bool false,kM,kN,vs1] 54:=((Cl.lh _ _ _).alloc _).alloc _;have K2:Cl (((w.alloc (.cells #[.bool false,kM,kN,vs1] 54)).alloc (.cells #[.bool true,mF,mG,vs2] 54)).alloc (.cells #[.bool false,.slice none 0 0,.slice none 0 0,.slice none 0 0] 54)) (w.heap.size+1) #[.bool true,mF,mG,vs2] 54:=(Cl.oT _ _ _ _).alloc _;have K3:Cl (((w.alloc (.cells #[.bool false,kM,kN,vs1] 54)).alloc (.cells #[.bool true,mF,mG,vs2] 54)).alloc (.cells #[.bool false,.slice none 0 0,.slice none 0 0,.slice none 0 0] 54)) (w.heap.size+1+1) #[.bool false,.slice none 0 0,.slice none 0 0,.slice none 0 0] 54:=Cl.Av _ _ _ _ _;have C:Hid _:=iN a kM kN vs1 (((w.alloc (.cells #[.bool false,kM,kN,vs1] 54)).alloc (.cells #[.bool true,mF,mG,vs2] 54)).alloc (.cells #[.bool false,.slice none 0 0,.slice none 0 0,.slice none 0 0] 54)) (h1.below BW.out) hm1;rw[hlf]at C;rw[hlf,Ut];obtain⟨ae,ce,rfl,_⟩:=ax h1.e;obtain⟨ak,ck,rfl,_⟩:=ax h1.k;obtain⟨az,cz,rfl,_⟩:=ax h1.s;have HL:Hid (a.leaf=false):=hlf;clear h1 hlf Ut;go_enter Tryz.func173,Tryz.ntmps173
 go_upto_region 1 with fail
 generalize World.alloc _ _=W at*;obtain⟨p,hp⟩:∃p,w.heap.size=p:=⟨_,rfl⟩;rw[hp]at K1 K2 K3 BW⊢;obtain⟨c0,c1,c2,c3⟩:=K1.four;obtain⟨d0,_,_,_⟩:=K2.four;have l1:=K3.lt;clear K1 K2
 go_wp2_with fail
 refine Calls.mono C.out ?_;rintro e w1 ⟨zG,zH,vs',rfl,O1,B1⟩;obtain⟨av,cv,rfl⟩:=bM O1.e;obtain⟨bv,dv,rfl⟩:=bM O1.k;obtain⟨gv,hv,rfl⟩:=bM O1.s;have K4:Cl w1 (p+1+1) #[.bool false,.slice none 0 0,.slice none 0 0,.slice none 0 0] 54:=K3.on B1;obtain⟨f0,f1,f2,f3⟩:=K4.four;obtain⟨g0,g1,g2,g3⟩:=K4.thaw;have KF:Cl ((((w1.setCell ⟨p+1+1,0,none⟩ (.bool false)).setCell ⟨p+1+1,1,none⟩ (.slice av a.es.length cv)).setCell ⟨p+1+1,2,none⟩ (.slice bv a.ks.length dv)).setCell ⟨p+1+1,3,none⟩ (.slice gv a.ss.length hv)) (p+1+1) #[.bool false,.slice av a.es.length cv,.slice bv a.ks.length dv,.slice gv a.ss.length hv] 54:=K4.eW _ _ _ _;have BF:Hid (Below p w ((((w1.setCell ⟨p+1+1,0,none⟩ (.bool false)).setCell ⟨p+1+1,1,none⟩ (.slice av a.es.length cv)).setCell ⟨p+1+1,2,none⟩ (.slice bv a.ks.length dv)).setCell ⟨p+1+1,3,none⟩ (.slice gv a.ss.length hv))):=df (BW.out.trans (B1.mono (by omega))) (by omega);have OF:Hid (kj p ((((w1.setCell ⟨p+1+1,0,none⟩ (.bool false)).setCell ⟨p+1+1,1,none⟩ (.slice av a.es.length cv)).setCell ⟨p+1+1,2,none⟩ (.slice bv a.ks.length dv)).setCell ⟨p+1+1,3,none⟩ (.slice gv a.ss.length hv)) (.slice av a.es.length cv) (.slice bv a.ks.length dv) (.slice gv a.ss.length hv) a):=⟨aH (bC O1.e l1) (by omega),aH (bC O1.k l1) (by omega),aH (bC O1.s l1) (by omega)⟩;clear C B1 O1 K3 K4 c0 c1 c2 c3 d0;go_wp2
 (try simp only[Exit.inBlock,Exit.then])
 generalize World.setCell _ _ _=X at*;obtain⟨k0,k1,k2,k3⟩:=KF.four;refine bodyPost_ret (v:=.agg #[.bool false,.slice av a.es.length cv,.slice bv a.ks.length dv,.slice gv a.ss.length hv]) ?_ rfl ⟨_,_,_,by rw[HL.out],by rw[hp];exact OF.out,by rw[hp];exact BF.out⟩;rw[bF rfl];go_simp
theorem Hk {a b:Nd}{key:ByteArray}(h:a.leaf=b.leaf):je a key b=⟨a.leaf,a.es++b.es,a.ks++b.ks,a.ss++(if a.leaf=true then []else [key])++b.ss⟩:=by unfold je;rw[if_pos h]
theorem QN {a b:Nd}{key:ByteArray}(h:¬a.leaf=b.leaf):je a key b=a:=by unfold je;rw[if_neg h]
theorem Ef (key:ByteArray)(a b:Nd)(kM kN vs1 mF mG vs2:Value)(w:World)(h1:gY w kM kN vs1 a)(h2:gY w mF mG vs2 b)(hm1:zF a)(hm2:zF b):
  Calls Tryz.prog 173 #[.agg #[.bool a.leaf,kM,kN,vs1],.string key,.agg #[.bool b.leaf,mF,mG,vs2]] w (Ee w (je a key b)):=by
 by_cases c:a.leaf=b.leaf
 ·rw[Hk c];obtain⟨lf,es1,iz,fx⟩:=a;obtain⟨lg,es2,iO,iA⟩:=b;simp only at c⊢;subst c;cases lf
  ·exact(uE.2 key es1 es2 iz iO fx iA kM kN vs1 mF mG vs2 w h1 h2 hm1 hm2).mono fun e w' h=>h
  ·exact(uE.1 key es1 es2 iz iO fx iA kM kN vs1 mF mG vs2 w h1 h2 hm1 hm2).mono fun e w' h=>h
 ·rw[QN c];cases ha:a.leaf<;>cases hb:b.leaf
  ·rw[ha,hb]at c;exact absurd rfl c
  ·rw[<-ha,<-hb];exact vM key a b kM kN vs1 mF mG vs2 w h1 hm1 ha hb
  ·rw[<-ha,<-hb];exact yn key a b kM kN vs1 mF mG vs2 w h1 hm1 ha hb
  ·rw[ha,hb]at c;exact absurd rfl c
def Uu (w0:World)(ao k6 lN:Option Addr)(n c n2 c2 p q ff tt:Nat)(x o y:List Int){y4 y5 y6 y7:Value}(C:List Bool->Act->Prop)(w:World):Prop:=∀{f0 f1 f2 f3 f4 f5 f6 f7 f8 f9 f10 f11 f12 f13 f14 f15:Bool}{x9 sZ yl vK ym tF Fj Cc tG yo tK x20 jU ll kL:Value},f15=false->Below w0.heap.size w0 w->Hid (f0=true->x9=.slice ao n c)->Hid (f1=true->sZ=.int .i64 ff)->Hid (f2=true->yl=.slice ao n c)->Hid (f3=true->vK=.int .i64 n)->Hid (f4=true->ym=.int .i64 p)->Hid (f5=true->tF=.slice ao p c)->Hid (f6=true->Fj=.slice k6 n2 c2)->Hid (f7=true->Cc=.slice ao n c)->Hid (f8=true->tG=.int .i64 tt)->Hid (f9=true->yo=.slice ao n c)->Hid (f10=true->tK=.int .i64 n)->Hid (f11=true->x20=.int .i64 q)->Hid (f12=true->jU=.slice lN (n-q) (c-q))->Hid (f13=true->∃qq,ll=.slice (some ⟨qq,0,none⟩) 3 3∧Cl w qq #[.slice ao p c,.slice k6 n2 c2,.slice lN (n-q) (c-q)] 51)->Hid (f14=true->∃ao n c,kL=.slice ao n c∧dO w0.heap.size w kL (x++o++y))->C [f0,f1,f2,f3,f4,f5,f6,f7,f8,f9,f10,f11,f12,f13,f14,f15] {tmps:=#[.slice ao n c,.int .i64 ff,.int .i64 tt,.slice k6 n2 c2,y4,y5,y6,y7,.slice none 0 0,x9,sZ,yl,vK,ym,tF,Fj,Cc,tG,yo,tK,x20,jU,ll,kL],defers:=[]}
def Uv (w0:World)(ao k6 lN:Option Addr)(n c n2 c2 p q ff tt:Nat)(x o y:List ByteArray){y4 y5 y6 y7:Value}(C:List Bool->Act->Prop)(w:World):Prop:=∀{f0 f1 f2 f3 f4 f5 f6 f7 f8 f9 f10 f11 f12 f13 f14 f15:Bool}{x9 sZ yl vK ym tF Fj Cc tG yo tK x20 jU ll kL:Value},f15=false->Below w0.heap.size w0 w->Hid (f0=true->x9=.slice ao n c)->Hid (f1=true->sZ=.int .i64 ff)->Hid (f2=true->yl=.slice ao n c)->Hid (f3=true->vK=.int .i64 n)->Hid (f4=true->ym=.int .i64 p)->Hid (f5=true->tF=.slice ao p c)->Hid (f6=true->Fj=.slice k6 n2 c2)->Hid (f7=true->Cc=.slice ao n c)->Hid (f8=true->tG=.int .i64 tt)->Hid (f9=true->yo=.slice ao n c)->Hid (f10=true->tK=.int .i64 n)->Hid (f11=true->x20=.int .i64 q)->Hid (f12=true->jU=.slice lN (n-q) (c-q))->Hid (f13=true->∃qq,ll=.slice (some ⟨qq,0,none⟩) 3 3∧Cl w qq #[.slice ao p c,.slice k6 n2 c2,.slice lN (n-q) (c-q)] 52)->Hid (f14=true->∃ao n c,kL=.slice ao n c∧cH w0.heap.size w kL (x++o++y))->C [f0,f1,f2,f3,f4,f5,f6,f7,f8,f9,f10,f11,f12,f13,f14,f15] {tmps:=#[.slice ao n c,.int .i64 ff,.int .i64 tt,.slice k6 n2 c2,y4,y5,y6,y7,.slice none 0 0,x9,sZ,yl,vK,ym,tF,Fj,Cc,tG,yo,tK,x20,jU,ll,kL],defers:=[]}
theorem km:(∀(v vo:Value) (l o:List Int) (fr tr:Nat) (w:World) (h:Row encI 1 w v l) (ho:Row encI 1 w vo o) (hl:l.length<=10000) (hlo:o.length<=10000) (hf:fr<=100000) (ht:tr<=100000),Calls Tryz.prog 130 #[v,.int .i64 fr,.int .i64 tr,vo] w fun e w'=>∃ao n c,e=.returned (.slice ao n c)∧dO w.heap.size w' (.slice ao n c) (iy l fr tr o)∧Below w.heap.size w w')∧
  (∀(v vo:Value) (l o:List ByteArray) (fr tr:Nat) (w:World) (h:Row encS 1 w v l) (ho:Row encS 1 w vo o) (hl:l.length<=10000) (hlo:o.length<=10000) (hf:fr<=100000) (ht:tr<=100000),Calls Tryz.prog 131 #[v,.int .i64 fr,.int .i64 tr,vo] w fun e w'=>∃ao n c,e=.returned (.slice ao n c)∧cH w.heap.size w' (.slice ao n c) (iy l fr tr o)∧Below w.heap.size w w'):=by
 and_intros
 have jf:=trivial
 rotate_left
 have fe:=trivial
 rotate_left
 all_goals
  intro v vo l o fr tr w h ho hl hlo hf ht;obtain⟨ao,c,rfl,hc⟩:=ax h;obtain⟨k6,c2,rfl,hc2⟩:=ax ho
  first
   |have zz:=jf
    have P1:Aside (Row encI 1 w (.slice ao (min fr l.length) c) (l.take (min fr l.length))):=rN (by decide) h _ (by omega);have P2:Aside (Row encI 1 w (.slice k6 o.length c2) o):=ho;have P3:Aside (Row encI 1 w _ (l.drop (min tr l.length))):=rO (by decide) h (min tr l.length) (by omega);have e1:=yg ao l.length c (min fr l.length) (by omega);have e2:=yh ao l.length c (min tr l.length) (by omega)
   |have P1:Aside (Row encS 1 w (.slice ao (min fr l.length) c) (l.take (min fr l.length))):=rN (by decide) h _ (by omega)
    have P2:Aside (Row encS 1 w (.slice k6 o.length c2) o):=ho;have P3:Aside (Row encS 1 w _ (l.drop (min tr l.length))):=rO (by decide) h (min tr l.length) (by omega);have e1:=yi ao l.length c (min fr l.length) (by omega);have e2:=yj ao l.length c (min tr l.length) (by omega)
  generalize(if c=min tr l.length then ao else ao.map (·.add (min tr l.length*1)))=lN at e2 P3;have t1:l.take (min fr l.length)=l.take fr:=by
   rcases Nat.le_total fr l.length with d|d
   ·rw[Nat.min_eq_left d]
   ·rw[Nat.min_eq_right d,List.take_length,List.take_of_length_le d]
  have t3:l.drop (min tr l.length)=l.drop tr:=by
   rcases Nat.le_total tr l.length with d|d
   ·rw[Nat.min_eq_left d]
   ·rw[Nat.min_eq_right d,List.drop_length,List.drop_of_length_le d]
  rw[t1]at P1;rw[t3]at P3;obtain⟨p,hp⟩:∃p,min fr l.length=p:=⟨_,rfl⟩;obtain⟨q,hq⟩:∃q,min tr l.length=q:=⟨_,rfl⟩;have hpz:min (fr:Int) (l.length:Int)=(p:Int):=by omega
  have hqz:min (tr:Int) (l.length:Int)=(q:Int):=by omega
  rw[hp]at P1 e1;rw[hq]at P3 e2;have WV:Hid (iy l fr tr o=l.take fr++o++l.drop tr):=rfl;have lx:(l.take fr).length<=10000:=by rw[List.length_take];omega
  have ly:(l.drop tr).length<=10000:=by rw[List.length_drop];omega
  generalize l.take fr=x at*;generalize l.drop tr=y at*;generalize iy l fr tr o=out at*;generalize l.length=n at*;clear t1 t3 h ho hp hq
  first
   |have zz:=jf
    go_enter Tryz.func130,Tryz.ntmps130
   |go_enter Tryz.func131,Tryz.ntmps131
  go_wp2_with fail
  first
   |have zz:=jf
    refine aT 15 (Uu w ao k6 lN n c o.length c2 p q fr tr x o y) (by kernel_rfl) (by kernel_rfl) (by kernel_rfl) (fun _ k=>k rfl ((Below.refl _ w).drew) ar ar ar ar ar ar ar ar ar ar ar ar ar ar ar) ?_ ?_ ?_
   |refine aT 15 (Uv w ao k6 lN n c o.length c2 p q fr tr x o y) (by kernel_rfl) (by kernel_rfl) (by kernel_rfl) (fun _ k=>k rfl ((Below.refl _ w).drew) ar ar ar ar ar ar ar ar ar ar ar ar ar ar ar) ?_ ?_ ?_
  ·intro i w' hne f0 f1 f2 f3 f4 f5 f6 f7 f8 f9 f10 f11 f12 f13 f14 f15 x9 sZ yl vK ym tF Fj Cc tG yo tK x20 jU ll kL e15 hB h0 h1 h2 h3 h4 h5 h6 h7 h8 h9 h10 h11 h12 dH fw hi;obtain⟨hlt,hun,_⟩:=aM hi;have hlt':i<16:=hlt;clear hlt;rcases(by omega:i=0∨i=1∨i=2∨i=3∨i=4∨i=5∨i=6∨i=7∨i=8∨i=9∨i=10∨i=11∨i=12∨i=13∨i=14)with rfl|rfl|rfl|rfl|rfl|rfl|rfl|rfl|rfl|rfl|rfl|rfl|rfl|rfl|rfl
   ·refine aj rfl fun K HK=>?_;go_simp;exact HK.out _ _ fun _ k=>by apply k<;>first|assumption|exact hidR|(repeat' first|apply Exists.intro|assumption|rfl|apply And.intro|exact fun _=>rfl)
   ·refine aj rfl fun K HK=>?_;go_simp;exact HK.out _ _ fun _ k=>by apply k<;>first|assumption|exact hidR|(repeat' first|apply Exists.intro|assumption|rfl|apply And.intro|exact fun _=>rfl)
   ·refine aj rfl fun K HK=>?_;go_simp;exact HK.out _ _ fun _ k=>by apply k<;>first|assumption|exact hidR|(repeat' first|apply Exists.intro|assumption|rfl|apply And.intro|exact fun _=>rfl)
   ·cases h2 (ah 2 hi (by kernel_rfl));refine aj rfl fun K HK=>?_;go_simp;exact HK.out _ _ fun _ k=>by apply k<;>first|assumption|exact hidR|(repeat' first|apply Exists.intro|assumption|rfl|apply And.intro|exact fun _=>rfl)
   ·cases h1 (ah 1 hi (by kernel_rfl));cases h3 (ah 3 hi (by kernel_rfl));refine aj rfl fun K HK=>?_;go_simp;exact HK.out _ _ fun _ k=>by apply k<;>first|assumption|exact hidR|(repeat' first|apply Exists.intro|assumption|rfl|apply And.intro|exact fun _=>rfl)
   ·cases h0 (ah 0 hi (by kernel_rfl));cases h4 (ah 4 hi (by kernel_rfl));refine aj rfl fun K HK=>?_;go_simp;exact HK.out _ _ fun _ k=>by apply k<;>first|assumption|exact hidR|(repeat' first|apply Exists.intro|assumption|rfl|apply And.intro|exact fun _=>rfl)
   ·refine aj rfl fun K HK=>?_;go_simp;exact HK.out _ _ fun _ k=>by apply k<;>first|assumption|exact hidR|(repeat' first|apply Exists.intro|assumption|rfl|apply And.intro|exact fun _=>rfl)
   ·refine aj rfl fun K HK=>?_;go_simp;exact HK.out _ _ fun _ k=>by apply k<;>first|assumption|exact hidR|(repeat' first|apply Exists.intro|assumption|rfl|apply And.intro|exact fun _=>rfl)
   ·refine aj rfl fun K HK=>?_;go_simp;exact HK.out _ _ fun _ k=>by apply k<;>first|assumption|exact hidR|(repeat' first|apply Exists.intro|assumption|rfl|apply And.intro|exact fun _=>rfl)
   ·refine aj rfl fun K HK=>?_;go_simp;exact HK.out _ _ fun _ k=>by apply k<;>first|assumption|exact hidR|(repeat' first|apply Exists.intro|assumption|rfl|apply And.intro|exact fun _=>rfl)
   ·cases h9 (ah 9 hi (by kernel_rfl));refine aj rfl fun K HK=>?_;go_simp;exact HK.out _ _ fun _ k=>by apply k<;>first|assumption|exact hidR|(repeat' first|apply Exists.intro|assumption|rfl|apply And.intro|exact fun _=>rfl)
   ·cases h8 (ah 8 hi (by kernel_rfl));cases h10 (ah 10 hi (by kernel_rfl));refine aj rfl fun K HK=>?_;go_simp;exact HK.out _ _ fun _ k=>by apply k<;>first|assumption|exact hidR|(repeat' first|apply Exists.intro|assumption|rfl|apply And.intro|exact fun _=>rfl)
   ·cases h7 (ah 7 hi (by kernel_rfl));cases h11 (ah 11 hi (by kernel_rfl));refine aj rfl fun K HK=>?_;go_simp;exact HK.out _ _ fun _ k=>by apply k<;>first|assumption|exact hidR|(repeat' first|apply Exists.intro|assumption|rfl|apply And.intro|exact fun _=>rfl)
   ·cases h5 (ah 5 hi (by kernel_rfl));cases h6 (ah 6 hi (by kernel_rfl));cases h12 (ah 12 hi (by kernel_rfl));refine aj rfl fun K HK=>?_;go_simp;exact HK.out _ _ fun _ k=>k e15 (aq _ hB) h0 h1 h2 h3 h4 h5 h6 h7 h8 h9 h10 h11 h12 (fun _=>⟨_,rfl,Cl.new _ _ _⟩) (fun d=>let⟨ao,n,c,e,o⟩:=fw.out d;⟨ao,n,c,e,ownsRow_below o (aq _ (Below.refl _ _))⟩)
   ·obtain⟨fZ,rfl,c13⟩:=dH.out (ah 13 hi (by kernel_rfl));refine aj rfl fun K HK=>?_;go_simp
    first
     |have zz:=jf
      refine Calls.mono (Hi fZ 51 (.slice ao p c) (.slice k6 o.length c2) (.slice lN (n-q) (c-q)) x o y w' c13 (P1.out.below hB) (P2.out.below hB) (P3.out.below hB) (by omega)) ?_
     |refine Calls.mono (rR fZ 52 (.slice ao p c) (.slice k6 o.length c2) (.slice lN (n-q) (c-q)) x o y w' c13 (P1.out.below hB) (P2.out.below hB) (P3.out.below hB) (by omega)) ?_
    rintro e w1 ⟨ao,nn,cc,rfl,ow,b1⟩;exact HK.out _ _ fun _ k=>k e15 (ju b1 hB) h0 h1 h2 h3 h4 h5 h6 h7 h8 h9 h10 h11 h12 (fun d=>let⟨q,e,c⟩:=dH.out d;⟨q,e,Cl.on c (b1)⟩) (fun _=>⟨ao,nn,cc,rfl,aH ow hB.size⟩)
  ·intro w' f0 f1 f2 f3 f4 f5 f6 f7 f8 f9 f10 f11 f12 f13 f14 f15 x9 sZ yl vK ym tF Fj Cc tG yo tK x20 jU ll kL e15 hB h0 h1 h2 h3 h4 h5 h6 h7 h8 h9 h10 h11 h12 dH fw hi;have d14:f14=true:=ah 14 hi (by kernel_rfl);obtain⟨a14,n14,m14,rfl,o14⟩:=fw.out d14;clear hi;refine aj rfl fun K HK=>?_;go_simp;refine HK.out _ _ ?_;clear h0 h1 h2 h3 h4 h5 h6 h7 h8 h9 h10 h11 h12 dH fw;go_wp2;go_ret;exact⟨_,_,_,rfl,by rw[WV.out];exact o14,hB⟩
  ·intro _ _;intros;assumption
end
end N
end Go.Proofs.YtceoeaemenhbhabGreatDoor
