/- Walks of the package cowtree and of what it stands on: lemmas, made short. -/
import Derived.Test.YtdcpfbidcpfboaaGreatDoorR2
import Derived.Test.YtdcpfbidcpfboaaGreatDoorR1
import Derived.Orders
import Derived.Deep.RegionHeld3
import Derived.Test.YtdcpfbidcpfboaaGreatDoorR4
import Derived.Deep.DrawnRows
set_option maxHeartbeats 16000000
set_option maxRecDepth 100000
set_option linter.unusedVariables false
set_option linter.unusedSimpArgs false
namespace Go.Proofs.YtdcpfbidcpfboaaGreatDoor
open Go.Shelf Go.RowKit Go.Lib Go.Sort
namespace N
section
structure Nd where
 leaf:Bool
 es:List En
 ks:List Int
 ss:List ByteArray
def nd0:Nd:=⟨false,[],[],[]⟩
def qi (k:Int):Bool:=decide (2<=k∧k<=4294967295)
theorem mR {k:Int}:qi k=true↔2<=k∧k<=4294967295:=by simp[qi]
def kE (s:ByteArray):En:=(s,⟨#[]⟩)
def Ay (ss:List ByteArray):Bool:=ia (ss.map kE)
theorem Cj {α β:Type}[Inhabited α][Inhabited β]{f:α->β}{l:List α}{i:Nat}(h:i<l.length):(l.map f)[i]! =f l[i]! :=by
 rw[getElem!_pos (l.map f) i (by simpa using h),getElem!_pos l i h];simp
def LY (ss:List ByteArray)(i:Nat):Bool:=cM ss[i]! ⟨#[]⟩&&(i==0||bp ss[i-1]! ss[i]!)
theorem Ck {ss:List ByteArray}{i:Nat}(h:i<ss.length):BN (ss.map kE) i=LY ss i:=by
 unfold BN LY;rw[Cj h,Cj (show i-1<ss.length by omega)];rfl
theorem LZ {ss:List ByteArray}(h:∀j,j<ss.length->LY ss j=true):Ay ss=true:=
 vD fun j hj=>by
  have hj':j<ss.length:=by simpa using hj
  rw[Ck hj'];exact h j hj'
theorem Hj {ss:List ByteArray}(j:Nat)(hj:j<ss.length)(h:LY ss j=false):Ay ss=false:=
 z8 j (by simpa using hj) (by rw[Ck hj];exact h)
theorem wz {ss:List ByteArray}{i:Nat}{b c:Bool}(h1:cM ss[i]! ⟨#[]⟩=b)(h2:(i==0||bp ss[i-1]! ss[i]!)=c):LY ss i=(b&&c):=by
 unfold LY;rw[h1,h2]
theorem wA {ss:List ByteArray}(h:Ay ss=true){s:ByteArray}(hs:s∈ss):1<=s.size∧s.size<=16:=by
 have:=aY.1 ((rg_of h).may (kE s) (List.mem_map_of_mem hs));exact⟨this.1,this.2.1⟩
def Fz (ks:List Int):Bool:=ks.all qi
theorem Cm {ks:List Int}(h:∀k∈ks,qi k=true):Fz ks=true:=List.all_eq_true.2 h
theorem Hk {ks:List Int}{k:Int}(h:k∈ks)(hk:qi k=false):Fz ks=false:=by
 cases e:Fz ks
 ·rfl
 ·rw[List.all_eq_true.1 e k h]at hk;cases hk
theorem wB {ks:List Int}(h:Fz ks=true){k:Int}(hk:k∈ks):qi k=true:=List.all_eq_true.1 h k hk
def dx (n:Nd):Bool:=
 if n.leaf=true then decide (n.ks.length=0)&&(decide (n.ss.length=0)&&ia n.es)
 else decide (n.es.length=0)&&(decide (0<n.ks.length)&&(decide (n.ss.length+1=n.ks.length)&&(Fz n.ks&&Ay n.ss)))
theorem fR {n:Nd}(h:n.leaf=true):dx n=true↔n.ks=[]∧n.ss=[]∧Rg n.es:=by
 unfold dx;rw[if_pos h];simp only[Bool.and_eq_true,decide_eq_true_eq,List.length_eq_zero_iff,Lk]
theorem fE {n:Nd}(h:n.leaf=false):dx n=true↔n.es=[]∧0<n.ks.length∧n.ss.length+1=n.ks.length∧Fz n.ks=true∧Ay n.ss=true:=by
 unfold dx;rw[if_neg (by rw[h];simp)];simp only[Bool.and_eq_true,decide_eq_true_eq,List.length_eq_zero_iff]
def bW:List ByteArray->Nat
 |[]=>0
 |s::l=>5+s.size+bW l
theorem dE (l m:List ByteArray):bW (l++m)=bW l+bW m:=by
 induction l with
 |nil=>simp[bW]
 |cons x l ih=>simp[bW,ih];omega
theorem Hl {l:List ByteArray}{i:Nat}(h:i<l.length):bW (l.take (i+1))=bW (l.take i)+(5+l[i]!.size):=by
 rw[List.take_add_one,List.getElem?_eq_getElem h,dE,getElem!_pos l i h];simp[bW]
theorem o0 (l:List ByteArray)(i:Nat):bW (l.take i)<=bW l:=by
 have:=dE (l.take i) (l.drop i);rw[List.take_append_drop]at this;omega
theorem uJ {l:List ByteArray}{b:Nat}(h:∀x∈l,x.size<=b):bW l<=l.length*(5+b):=by
 induction l with
 |nil=>simp[bW]
 |cons x l ih=>
  have h1:=h x (List.mem_cons_self ..);have h2:=ih fun y hy=>h y (List.mem_cons_of_mem _ hy);simp only[bW,List.length_cons,Nat.add_mul,Nat.one_mul];omega
def dZ (n:Nd):Nat:=if n.leaf=true then cP n.es else 4+bW n.ss
def cE (n:Nd):Bool:=dx n&&decide (dZ n<=240)
abbrev Pk:=ByteArray×Int
def b4 (k:Int):List UInt8:=beBytes 4 k.toNat
theorem fF (k:Int):(b4 k).length=4:=beBytes_length 4 _
def yt:List Pk->List UInt8
 |[]=>[]
 |p::l=>mg p.1++b4 p.2++yt l
theorem su (l:List Pk):(yt l).length=bW (l.map (·.1)):=by
 induction l with
 |nil=>rfl
 |cons x l ih=>
  simp only[yt,bW,List.length_append,List.map_cons,ih,lJ,fF];omega
def mS (k:Int)(ps:List Pk):Nd:=⟨false,[],k::ps.map (·.2),ps.map (·.1)⟩
theorem uK:∀ {ss:List ByteArray} {ks:List Int},ss.length=ks.length->(ss.zip ks).map (·.1)=ss∧(ss.zip ks).map (·.2)=ks
 |[],[],_=>⟨rfl,rfl⟩
 |s::ss,k::ks,h=>by
  have ih:=uK (ss:=ss) (ks:=ks) (by simpa using h);simp[ih.1,ih.2]
theorem ot {n:Nd}(h:dx n=true)(hl:n.leaf=false):∃k ps,n=mS k ps∧qi k=true∧(∀p∈ps,qi p.2=true)∧Ay (ps.map (·.1))=true:=by
 obtain⟨h1,h2,h3,h4,h5⟩:=(fE hl).1 h;obtain⟨lf,es,ks,ss⟩:=n;simp only at hl h1 h2 h3 h4 h5;subst hl h1;cases ks with
 |nil=>simp at h2
 |cons k ks=>
  obtain⟨z1,z2⟩:=uK (ss:=ss) (ks:=ks) (by simpa using h3);refine⟨k,ss.zip ks,?_,wB h4 (List.mem_cons_self ..),fun p hp=>?_,by rw[z1];exact h5⟩
  ·unfold mS;rw[z1,z2]
  ·refine wB h4 (List.mem_cons_of_mem _ ?_);have:=List.mem_map_of_mem (f:=(·.2)) hp;rw[z2]at this;exact this
def xC (n:Nd):List UInt8:=if n.leaf=true then xW n.es else b4 (n.ks.headD 0)++yt (n.ss.zip n.ks.tail)
theorem wC (k:Int)(ps:List Pk):xC (mS k ps)=b4 k++yt ps:=by
 have:∀l:List Pk,(l.map (·.1)).zip (l.map (·.2))=l:=by
  intro l
  induction l with
  |nil=>rfl
  |cons x l ih=>simp[ih]
 unfold xC mS;simp[this]
theorem mU {n:Nd}(h:n.leaf=true):xC n=xW n.es:=by unfold xC;rw[if_pos h]
theorem ij {n:Nd}(h:dx n=true):(xC n).length=dZ n:=by
 cases hl:n.leaf
 ·obtain⟨k,ps,rfl,_⟩:=ot h hl;rw[wC,List.length_append,fF,su];rfl
 ·rw[mU hl,rC];unfold dZ;rw[if_pos hl]
def xD (n:Nd):Int:=if n.leaf=true then 1 else 2
theorem Hm {k:Int}(h:qi k=true):((beNat (b4 k):Nat):Int)=k:=by
 have:=mR.1 h;unfold b4;rw[dB 4 _ (by omega)];omega
theorem OP {l:List UInt8}(h:l.length=4):b4 ((beNat l:Nat):Int)=l:=by
 unfold b4;rw[Int.toNat_natCast];exact jO 4 l h
def jI:List UInt8->Option (Pk×List UInt8)
 |[]=>none
 |c::r=>if r.length<c.toNat+4 then none else some ((⟨(r.take c.toNat).toArray⟩,((beNat ((r.drop c.toNat).take 4):Nat):Int)),r.drop (c.toNat+4))
theorem Co (c:UInt8)(a b r:List UInt8)(h1:c.toNat=a.length)(h2:b.length=4):jI (c::(a++(b++r)))=some ((⟨a.toArray⟩,((beNat b:Nat):Int)),r):=by
 simp only[jI];have e1:¬(a++(b++r)).length<c.toNat+4:=by rw[List.length_append,List.length_append];omega
 have e2:(a++(b++r)).drop c.toNat=b++r:=by rw[h1];simp
 have e3:(a++(b++r)).take c.toNat=a:=by rw[h1];simp
 have e4:(b++r).take 4=b:=by rw[<-h2];simp
 have e5:(a++(b++r)).drop (c.toNat+4)=r:=by rw[<-List.drop_drop,e2,<-h2];simp
 rw[if_neg e1,e2,e3,e4,e5]
theorem Hn {p:Pk}(r:List UInt8)(h1:p.1.size<=255)(h2:qi p.2=true):jI (mg p.1++b4 p.2++r)=some (p,r):=by
 have s1:=Lib.size_eq p.1;have:=Co (UInt8.ofNat p.1.size) p.1.data.toList (b4 p.2) r (by rw[ofNat_size h1];exact s1) (fF _);rw[Hm h2]at this;have e:mg p.1++b4 p.2++r=UInt8.ofNat p.1.size::(p.1.data.toList++(b4 p.2++r)):=by simp[mg]
 rw[e,this]
theorem yu {s r:List UInt8}{p:Pk}(h:jI s=some (p,r)):s=mg p.1++b4 p.2++r:=by
 cases s with
 |nil=>simp[jI]at h
 |cons c t=>
  simp only[jI]at h;by_cases h1:t.length<c.toNat+4
  ·rw[if_pos h1]at h;cases h
  ·rw[if_neg h1]at h;cases h;have l1:c.toNat=(t.take c.toNat).length:=by simp;omega
   have l2:((t.drop c.toNat).take 4).length=4:=by simp;omega
   simp only;rw[OP l2,List.append_assoc,Ad l1,<-List.drop_drop,List.take_append_drop,List.take_append_drop]
theorem ou {s r:List UInt8}{p:Pk}(h:jI s=some (p,r)):r.length<s.length:=by
 rw[yu h,List.length_append,List.length_append,fF];omega
def QD:Nat->List UInt8->Option (List Pk)
 |0,s=>if s.isEmpty then some []else none
 |n+1,s=>if s.isEmpty then some []else
  match jI s with
  |none=>none
  |some (x,r)=>(QD n r).map (x:: ·)
def Et (s:List UInt8):Option (List Pk):=QD s.length s
theorem Cp:∀(n m:Nat) (s:List UInt8),s.length<=n->s.length<=m->QD n s=QD m s
 |0,m,s,h,_=>by
  obtain rfl:s=[]:=List.length_eq_zero_iff.1 (by omega);cases m<;>rfl
 |n+1,0,s,_,h=>by
  obtain rfl:s=[]:=List.length_eq_zero_iff.1 (by omega);rfl
 |n+1,m+1,s,h1,h2=>by
  unfold QD;cases hs:s.isEmpty
  ·cases ht:jI s with
   |none=>rfl
   |some p=>
    obtain⟨x,r⟩:=p;have:=ou ht;simp only;rw[Cp n m r (by omega) (by omega)]
  ·rfl
theorem Cq:Et []=some []:=rfl
theorem yv {s:List UInt8}(hs:s≠[])(h:jI s=none):Et s=none:=by
 cases s with
 |nil=>exact absurd rfl hs
 |cons c t=>unfold Et;simp only[List.length_cons,QD,h];rfl
theorem sD {s r:List UInt8}{x:Pk}(h:jI s=some (x,r)):Et s=(Et r).map (x:: ·):=by
 have hl:=ou h;cases s with
 |nil=>simp[jI]at h
 |cons c t=>
  unfold Et;simp only[List.length_cons,QD,h];rw[Cp t.length r.length r (by simpa using Nat.lt_succ_iff.1 hl) (Nat.le_refl _)];rfl
theorem L0 {l:List Pk}(h:∀p∈l,p.1.size<=255∧qi p.2=true):Et (yt l)=some l:=by
 induction l with
 |nil=>rfl
 |cons x l ih=>
  have h1:=h x (List.mem_cons_self ..);unfold yt;rw[sD (Hn (yt l) h1.1 h1.2),ih fun y hy=>h y (List.mem_cons_of_mem _ hy)];rfl
theorem Cr:∀(n:Nat) (s:List UInt8) (l:List Pk),s.length<=n->Et s=some l->yt l=s
 |n,[],l,_,h=>by rw[Cq]at h;cases h;rfl
 |0,c::t,l,hn,_=>by simp at hn
 |n+1,c::t,l,hn,h=>by
  cases hs:jI (c::t)with
  |none=>rw[yv (by simp) hs]at h;cases h
  |some p=>
   obtain⟨x,r⟩:=p;have hl:=ou hs;rw[sD hs]at h;cases hd:Et r with
   |none=>rw[hd]at h;cases h
   |some m=>
    rw[hd]at h;cases h;rw[yt,Cr n r m (by simp at hn hl⊢;omega) hd,<-yu hs]
def Cs (s:List UInt8):Option Nd:=if s.length<4 then none else(Et (s.drop 4)).map (mS ((beNat (s.take 4):Nat):Int))
def uL (kind:Int)(s:List UInt8):Option Nd:=
 if 240<s.length then none
 else if kind=1 then(if Ec s=true then some ⟨true,xZ s,[],[]⟩else none)
 else if kind=2 then(match Cs s with|none=>none|some n=>if dx n=true then some n else none)
 else none
theorem L4 {s:List UInt8}{n:Nd}(h:Cs s=some n):∃k ps,n=mS k ps∧xC n=s:=by
 unfold Cs at h;by_cases c:s.length<4
 ·rw[if_pos c]at h;cases h
 ·rw[if_neg c]at h;cases hd:Et (s.drop 4)with
  |none=>rw[hd]at h;cases h
  |some ps=>
   rw[hd]at h;cases h;refine⟨_,ps,rfl,?_⟩;rw[wC,Cr _ _ _ (Nat.le_refl _) hd,OP (by simp;omega),List.take_append_drop]
theorem Ho {k:Int}{ps:List Pk}(hk:qi k=true)(h:∀p∈ps,p.1.size<=255∧qi p.2=true):Cs (xC (mS k ps))=some (mS k ps):=by
 rw[wC];unfold Cs;have e1:(b4 k++yt ps).drop 4=yt ps:=by rw[<-fF k];simp
 have e2:(b4 k++yt ps).take 4=b4 k:=by rw[<-fF k];simp
 rw[if_neg (by rw[List.length_append,fF];omega),e1,e2,L0 h,Hm hk];rfl
theorem yw {n:Nd}(h:dx n=true)(hs:dZ n<=240):uL (xD n) (xC n)=some n:=by
 unfold uL;rw[if_neg (by rw[ij h];omega)];cases hl:n.leaf
 ·have ek:xD n=2:=by unfold xD;rw[hl];rfl
  rw[ek,if_neg (by decide),if_pos rfl];obtain⟨k,ps,rfl,h1,h2,h3⟩:=ot h hl;rw[Ho h1 fun p hp=>⟨by have:=wA h3 (List.mem_map_of_mem (f:=(·.1)) hp);omega,h2 p hp⟩];simp only;rw[if_pos h]
 ·have ek:xD n=1:=by unfold xD;rw[hl];rfl
  obtain⟨a,b,c⟩:=(fR hl).1 h;obtain⟨d1,d2⟩:=Lr c;rw[ek,if_pos rfl,mU hl,d2,if_pos rfl,d1];obtain⟨lf,es,ks,ss⟩:=n;simp only at hl a b;subst hl a b;rfl
theorem Hq {kind:Int}{s:List UInt8}{n:Nd}(h:uL kind s=some n):dx n=true∧dZ n<=240∧xC n=s∧xD n=kind:=by
 unfold uL at h;by_cases c:240<s.length
 ·rw[if_pos c]at h;cases h
 ·rw[if_neg c]at h;by_cases c1:kind=1
  ·rw[if_pos c1]at h;cases hb:Ec s
   ·rw[hb,if_neg (by simp)]at h;cases h
   ·rw[hb,if_pos rfl]at h;cases h;obtain⟨d1,d2⟩:=Ed hb;have r:dx ⟨true,xZ s,[],[]⟩=true:=(fR rfl).2 ⟨rfl,rfl,d1⟩;have e:xC ⟨true,xZ s,[],[]⟩=s:=by rw[mU rfl];exact d2
    refine⟨r,?_,e,by rw[c1];rfl⟩;rw[<-ij r,e];omega
  ·rw[if_neg c1]at h;by_cases c2:kind=2
   ·rw[if_pos c2]at h;cases hd:Cs s with
    |none=>rw[hd]at h;cases h
    |some m=>
     rw[hd]at h;simp only at h;cases hr:dx m
     ·rw[hr,if_neg (by simp)]at h;cases h
     ·rw[hr,if_pos rfl]at h;cases h;obtain⟨k,ps,e1,e2⟩:=L4 hd;refine⟨hr,by rw[<-ij hr,e2];omega,e2,?_⟩;rw[c2,e1];rfl
   ·rw[if_neg c2]at h;cases h
def tS (kind:Int)(s:List UInt8):Nd:=(uL kind s).getD nd0
def uM (kind:Int)(s:List UInt8):Bool:=(uL kind s).isSome
end
section
def dy (ss:List ByteArray)(k:ByteArray):Nat:=ss.countP fun s=>!bp k s
def yx (n:Nd):Bool:=dx n&&(decide (2<=n.es.length)||decide (2<=n.ks.length))
def Hr (n:Nd):Nat:=if n.leaf=true then eL n.es else n.ks.length/2
def We (n:Nd):Nd:=if n.leaf=true then⟨true,n.es.take (Hr n),[],[]⟩else⟨false,[],n.ks.take (Hr n),n.ss.take (Hr n-1)⟩
def Xz (n:Nd):Nd:=if n.leaf=true then⟨true,n.es.drop (Hr n),[],[]⟩else⟨false,[],n.ks.drop (Hr n),n.ss.drop (Hr n)⟩
def XA (n:Nd):ByteArray:=if n.leaf=true then n.es[Hr n]!.1 else n.ss[Hr n-1]!
def ji (a:Nd)(k:ByteArray)(b:Nd):Nd:=if a.leaf=b.leaf then⟨a.leaf,a.es++b.es,a.ks++b.ks,a.ss++(if a.leaf=true then []else [k])++b.ss⟩else a
def iG {α:Type}(l:List α)(f t:Nat)(o:List α):List α:=l.take f++o++l.drop t
def swB (n:Nd)(f t:Int)(ks:List Int)(ss:List ByteArray):Bool:=
 decide (0<=f)&&(decide (t<=n.ks.length)&&(decide (f<t)&&(decide ((ss.length:Int)=max ((ks.length:Int)-1) 0)&& !n.leaf)))
def uN (f:Nat)(ks:List Int):Nat:=if 0<ks.length then f else f-1
def uO (f t:Nat)(ks:List Int):Nat:=if 0<ks.length then t-1 else if 0<f then t-1 else t
def gp (n:Nd)(f t:Int)(ks:List Int)(ss:List ByteArray):Nd:=
 if swB n f t ks ss=true then⟨false,n.es,iG n.ks f.toNat t.toNat ks,iG n.ss (uN f.toNat ks) (uO f.toNat t.toNat ks) ss⟩else n
theorem yz {n:Nd}(h:yx n=true)(hl:n.leaf=true):n.ks=[]∧n.ss=[]∧Rg n.es∧2<=n.es.length:=by
 unfold yx at h;rw[Bool.and_eq_true]at h;obtain⟨h1,h2⟩:=h;obtain⟨a,b,c⟩:=(fR hl).1 h1;refine⟨a,b,c,?_⟩;rw[a]at h2;simpa using h2
theorem uP {n:Nd}(h:yx n=true)(hl:n.leaf=false):n.es=[]∧2<=n.ks.length∧n.ss.length+1=n.ks.length∧Fz n.ks=true∧Ay n.ss=true:=by
 unfold yx at h;rw[Bool.and_eq_true]at h;obtain⟨h1,h2⟩:=h;obtain⟨a,_,b,c,d⟩:=(fE hl).1 h1;refine⟨a,?_,b,c,d⟩;rw[a]at h2;simpa using h2
end
section
section
variable {P:Program}{ops:Array Oper}{Q:Exit->Act->World->Prop}{md:Region.Mode}
theorem aP {listed:Array Bool}{i:Nat}(h:i∈Region.ready md ops listed):
  i<ops.size∧listed.getD i true=false∧∀o,ops[i]? =some o->(o.after.all fun e=>!Region.binds md e||listed.getD e.on false)=true:=by
 unfold Region.ready at h;rw[List.mem_filter,List.mem_range]at h;obtain⟨h1,h2⟩:=h;rw[Bool.and_eq_true]at h2;refine⟨h1,by simpa using h2.1,fun o ho=>?_⟩;have:=h2.2;rw[ho]at this;simpa using this
def waits (md:Region.Mode)(ops:Array Oper)(i j:Nat):Bool:=match ops[i]? with
 |some o=>o.after.any fun e=>e.on==j&&Region.binds md e
 |none=>false
theorem ah {listed:Array Bool}{i:Nat}(j:Nat)(h:i∈Region.ready md ops listed)(hj:waits md ops i j=true):listed.getD j false=true:=by
 obtain⟨h1,_,h3⟩:=aP h;have Ur:ops[i]? =some ops[i]:=Array.getElem?_eq_getElem h1;have h4:=h3 _ Ur;unfold waits at hj;rw[Ur]at hj;simp only at hj;rw[Array.any_eq_true]at hj;obtain⟨k,hk,hx⟩:=hj;rw[Bool.and_eq_true,beq_iff_eq]at hx;rw[Array.all_eq_true]at h4;have h5:=h4 k hk;rw[hx.2,hx.1]at h5;simpa using h5
def ahead (md:Region.Mode)(ops:Array Oper):Bool:=(List.range ops.size).all fun i=>match ops[i]? with
 |some o=>o.after.all fun e=>!Region.binds md e||decide (e.on<i)
 |none=>true
theorem Hs {listed:Array Bool}(hs:listed.size=ops.size)(ho:ahead md ops=true):∀i,i<ops.size->listed.getD i true=false->Region.ready md ops listed≠[]:=by
 intro i
 induction i using Nat.strongRecOn with
 |ind i ih=>
  intro hi hu;by_cases c:∃j,j<i∧listed.getD j true=false
  ·obtain⟨j,hj,hju⟩:=c;exact ih j hj (by omega) hju
  ·have hm:i∈Region.ready md ops listed:=by
    unfold Region.ready;rw[List.mem_filter,List.mem_range];refine⟨hi,?_⟩;have hoi:ops[i]? =some ops[i]:=Array.getElem?_eq_getElem hi;rw[hu,hoi];have ha:=List.all_eq_true.1 ho i (List.mem_range.2 hi);rw[hoi]at ha;simp only[Option.map_some,Option.getD_some,Bool.not_false,Bool.true_and];rw[Array.all_eq_true]at ha⊢;intro k hk;have hb:=ha k hk;cases hbd:Region.binds md ops[i].after[k]
    ·rfl
    rw[hbd]at hb;have:=of_decide_eq_true (by simpa using hb:decide (ops[i].after[k].on<i)=true);have e:listed.getD ops[i].after[k].on true=true:=by
     cases e:listed.getD ops[i].after[k].on true
     ·exact absurd ⟨_,this,e⟩ c
     ·rfl
    have hlt:ops[i].after[k].on<listed.size:=by omega
    have e2:listed.getD ops[i].after[k].on false=true:=by
     simp only[Array.getD,hlt,dif_pos]at e⊢;exact e
    rw[e2];rfl
   intro e;rw[e]at hm;cases hm
theorem count_set {f:List Bool}{i n:Nat}(hi:i<f.length)(hf:f[i]=false)(hc:f.count false=n+1):(f.set i true).count false=n:=by
 rw[List.count_set hi,hf,hc];simp
theorem uQ (ho:ahead md ops=true)(J:List Bool->Act->World->Prop)
  (hstep:∀i f a w,f.length=ops.size->J f a w->i∈Region.ready md ops f.toArray->wpOp P ops Q i (fun a' w'=>J (f.set i true) a' w') a w)
  (hdone:∀a w,J (List.replicate ops.size true) a w->Q .normal a w):
  ∀n f a w,f.length=ops.size->f.count false=n->J f a w->wpAny P md ops Q n f.toArray a w:=by
 intro n
 induction n with
 |zero=>
  intro f a w hl hc hJ;have hall:f=List.replicate ops.size true:=by
   rw[List.eq_replicate_iff];refine⟨hl,fun b hb=>?_⟩;cases b
   ·exact absurd hb (List.count_eq_zero.1 hc)
   ·rfl
  refine⟨?_,hdone a w (hall▸hJ)⟩;rw[List.eq_nil_iff_forall_not_mem];intro i hi;obtain⟨h1,h2,_⟩:=aP hi;rw[hall]at h2;simp[Array.getD]at h2
 |succ n ih=>
  intro f a w hl hc hJ;refine⟨fun e=>?_,fun i hi=>?_⟩
  ·exfalso;have hm:false∈f:=List.count_pos_iff.1 (by omega);obtain⟨i,hi,he⟩:=List.getElem_of_mem hm;refine Hs (md:=md) (listed:=f.toArray) (by simpa using hl) ho i (by omega) ?_ e;simp[Array.getD,hi,he]
  ·obtain⟨h1,h2,_⟩:=aP hi;have hif:i<f.length:=by omega
   have hfi:f[i]=false:=by simpa[Array.getD,hif]using h2
   refine wpOp_mono (fun a' w' h'=>?_) (hstep i f a w hl hJ hi);have:=ih (f.set i true) a' w' (by simpa using hl) (count_set hif hfi hc) h';simpa using this
def Az (md:Region.Mode)(ops:Array Oper)(L:Nat):Bool:=(List.range ops.size).all fun i=>i==L||match ops[L]? with
 |some o=>o.after.any fun e=>e.on==i&&Region.binds md e
 |none=>false
theorem Ht {f:List Bool}{L:Nat}(hl:f.length=ops.size)(hL:Az md ops L=true)(h:L∈Region.ready md ops f.toArray):f.set L true=List.replicate ops.size true:=by
 obtain⟨h1,h2,h3⟩:=aP h;have Ur:ops[L]? =some ops[L]:=Array.getElem?_eq_getElem h1;have h4:=h3 _ Ur;refine List.eq_replicate_iff.2 ⟨by simpa using hl,fun b hb=>?_⟩;obtain⟨i,hi,rfl⟩:=List.getElem_of_mem hb;rw[List.getElem_set];by_cases c:L=i
 ·rw[if_pos c]
 ·rw[if_neg c];have hi':i<f.length:=by simpa using hi
  have hx:=List.all_eq_true.1 hL i (List.mem_range.2 (by omega));rw[Ur]at hx;simp only[Bool.or_eq_true,beq_iff_eq]at hx;rcases hx with hx|hx
  ·exact absurd hx.symm c
  ·rw[Array.any_eq_true]at hx;obtain⟨k,hk,hx⟩:=hx;rw[Bool.and_eq_true,beq_iff_eq]at hx;rw[Array.all_eq_true]at h4;have h5:=h4 k hk;rw[hx.2,hx.1]at h5;simpa[Array.getD,hi']using h5
theorem AA {id:Nat}{a:Act}{w:World}(L:Nat)(J:List Bool->Act->World->Prop)(hm:P.follows .mixedOrders=true)(ho:ahead .any ops=true)(hL:Az .any ops L=true)
  (h0:J (List.replicate ops.size false) a w.drew)
  (hstep:∀i f a w,i≠L->f.length=ops.size->J f a w->i∈Region.ready .any ops f.toArray->wpOp P ops Q i (fun a' w'=>J (f.set i true) a' w') a w)
  (hlast:∀f a w,f.length=ops.size->J f a w->L∈Region.ready .any ops f.toArray->wpOp P ops Q L (fun a' w'=>Q .normal a' w') a w)
  (hJ:∀f a w,J f a w->f.getD L true=false):(Code.region id ops true).wp P Q a w:=by
 refine wp_region_any hm ?_;have key:=uQ (P:=P) (Q:=Q) (md:=.any) ho (fun f a w=>J f a w∨(f=List.replicate ops.size true∧Q .normal a w)) (fun i f a w hl hj hi=>?_) (fun a w hj=>?_) ops.size (List.replicate ops.size false) a w.drew (by simp) (by simp) (Or.inl h0)
 ·simpa using key
 ·rcases hj with hj| ⟨rfl,_⟩
  ·by_cases c:i=L
   ·subst c;exact wpOp_mono (fun a' w' h'=>Or.inr ⟨Ht hl hL hi,h'⟩) (hlast f a w hl hj hi)
   ·exact wpOp_mono (fun a' w' h'=>Or.inl h') (hstep i f a w c hl hj hi)
  ·exfalso;obtain⟨h1,h2,_⟩:=aP hi;simp[Array.getD]at h2
 ·rcases hj with hj| ⟨_,hj⟩
  ·exfalso;have:=hJ _ _ _ hj;rw[List.getD_eq_getElem?_getD,List.getElem?_replicate]at this;split at this<;>simp at this
  ·exact hj
section
def Ch (K:(List Bool->Act->Prop)->World->Prop)(f:List Bool)(a:Act)(w:World):Prop:=∀C,K C w->C f a
theorem hidR {α:Sort _}{a:α}{p:Prop}:Hid (p->a=a):=fun _=>rfl
theorem ar {p:Prop}:Hid (false=true->p):=fun h=>by cases h
theorem ai {P:Program}{ops:Array Oper}{Q:Exit->Act->World->Prop}{i:Nat}{o:Oper}{K:Act->World->Prop}{a:Act}{w:World}(ho:ops[i]? =some o)(h:∀K':Act->World->Prop,Shut (∀a w,K a w->K' a w)->if Region.wanted o (yielded ops a.tmps)=true then Oper.wp P o a w K' Q else K' (a.put o.dst undef) w):wpOp P ops Q i K a w:=wpOp_step ho h
theorem bf {P:Program}{ops:Array Oper}{Q:Exit->Act->World->Prop}{id:Nat}{a:Act}{w:World}(L:Nat)(K:(List Bool->Act->Prop)->World->Prop)(hm:P.follows .mixedOrders=true)(ho:ahead .any ops=true)(hL:Az .any ops L=true)(h0:Ch K (List.replicate ops.size false) a w.drew)
  (hstep:∀i w,i≠L->K (fun f a=>i∈Region.ready .any ops f.toArray->wpOp P ops Q i (fun a' w'=>Ch K (f.set i true) a' w') a w) w)
  (hlast:∀w,K (fun f a=>L∈Region.ready .any ops f.toArray->wpOp P ops Q L (fun a' w'=>Q .normal a' w') a w) w)
  (hJ:∀w,K (fun f _=>f.getD L true=false) w):(Code.region id ops true).wp P Q a w:=
 AA L (Ch K) hm ho hL h0 (fun i _ _ w hne _ hj=>hj _ (hstep i w hne)) (fun _ _ w _ hj=>hj _ (hlast w)) (fun _ _ w hj=>hj _ (hJ w))
end
end
end
section
def encI (n:Int):List Value:=[.int .i64 n]
theorem iR (n:Int):(encI n).length=1:=rfl
theorem yA (n:Int):∀v∈encI n,v.oneCell'=true:=fun v hv=>by simp[encI]at hv;subst hv;rfl
theorem pV:(Tryz.prog.info? 3).map (fun i=>(i.zero,i.size,i.bytes))=some (some (.int .i64 0),1,8):=by kernel_rfl
abbrev dP (base:Nat)(W:World)(v:Value)(l:List Int):Prop:=W.ownsRow base 3 1 v l.length (flatK encI 1 l.toArray).toList
section
variable {α:Type}[Inhabited α]{enc:α->List Value}{k:Nat}{w w':World}{v:Value}{l:List α}
theorem aF (h:Row enc k w v l):∃ao c,v=.slice ao l.length c∧l.length<=c:=by
 obtain⟨ao,cap,rfl,h1,_⟩:=h;exact⟨ao,cap,rfl,h1⟩
theorem wD:Row enc k w (.slice none 0 0) ([]:List α):=(Own.nil (base:=0)).row
theorem Ct (hk0:0<k){ao:Option Addr}{n c:Nat}(h:Row enc k w (.slice ao n c) l)(i j m:Nat)(hm:j=i+m)(hj:j<=l.length)(dJ:Option Addr)(hao:∀b off,ao=some ⟨b,off,none⟩->m≠0->dJ=some ⟨b,off+i*k,none⟩)(c':Nat)(hc:m<=c')(hz:dJ=none->c'=0):
  Row enc k w (.slice dJ m c') ((l.drop i).take m):=by
 obtain⟨tE,cap,e,h1,h2,h3⟩:=h;cases e;have hlen:((l.drop i).take m).length=m:=by simp;omega
 refine⟨dJ,c',by rw[hlen],by rw[hlen];exact hc,hz,fun hne=>?_⟩;have hm0:m≠0:=by intro e;subst e;simp at hne
 obtain⟨b,off,e,hlt,hcell⟩:=h3 (by intro e;subst e;simp at hj;omega);refine⟨b,off+i*k,hao b off e hm0,hlt,fun t ht=>?_⟩;rw[hlen]at ht;have hlk:i*k+t<l.length*k:=by
  have h5:i*k+m*k=j*k:=by rw[hm,Nat.add_mul]
  have h6:j*k<=l.length*k:=Nat.mul_le_mul_right k hj;omega
 have htk:t/k<m:=(Nat.div_lt_iff_lt_mul hk0).2 ht;rw[Nat.add_assoc,hcell (i*k+t) hlk,get_flatK _ _ _ _ (by simpa using hlk),get_flatK _ _ _ _ (by rw[List.size_toArray,hlen];exact ht)];have e1:(i*k+t)/k=i+t/k:=by rw[Nat.mul_comm,Nat.mul_add_div hk0]
 have e2:(i*k+t)%k=t%k:=by rw[Nat.mul_comm,Nat.mul_add_mod]
 rw[e1,e2,getElem!_pos l.toArray (i+t/k) (by simp;omega),getElem!_pos ((l.drop i).take m).toArray (t/k) (by simp;omega)];simp
theorem sF (hk0:0<k){ao:Option Addr}{n c:Nat}(h:Row enc k w (.slice ao n c) l)(i:Nat)(hi:i<=l.length):Row enc k w (.slice ao i c) (l.take i):=by
 have e:=h;obtain⟨tE,cap,e1,h1,h2,h3⟩:=e;cases e1;have:=Ct hk0 h 0 i i (by omega) hi ao (fun b off e _=>by rw[e];simp) c (by omega) h2;simpa using this
theorem sG (hk0:0<k){ao:Option Addr}{n c:Nat}(h:Row enc k w (.slice ao n c) l)(i:Nat)(hi:i<=l.length):Row enc k w (.slice (if c=i then ao else ao.map (·.add (i*k))) (n-i) (c-i)) (l.drop i):=by
 have e:=h;obtain⟨tE,cap,e1,h1,h2,h3⟩:=e;cases e1;have:=Ct hk0 h i l.length (l.length-i) (by omega) (Nat.le_refl _) (if c=i then ao else ao.map (·.add (i*k))) (fun b off e hm=>by
  rw[if_neg (by omega),e]
  show some (Addr.add ⟨b,off,none⟩ (i*k))=_
  rw[Go.WideShapes.add_plain]) (c-i) (by omega) (fun e=>by
  by_cases c1:c=i
  ·omega
  ·rw[if_neg c1]at e
   have:ao=none:=by cases ao with
    |none=>rfl
    |some a=>simp at e
   have:=h2 this
   omega)
 rwa [List.take_of_length_le (by simp)]at this
end
theorem qj {w wr:World}{ao:Option Addr}{l:List Int}(h3:l≠[]->∃b off,ao=some ⟨b,off,none⟩∧b<w.heap.size∧cG encI 1 w b off l)(i:Nat)(hi:i<l.length)(hb:Below w.heap.size w wr):
  ∃b off,ao=some ⟨b,off,none⟩∧b<w.heap.size∧wr.cell? ⟨b,off+i,none⟩=some (.int .i64 l[i]!):=by
 obtain⟨b,off,e,hlt,hc⟩:=h3 (by intro h;rw[h]at hi;simp at hi);refine⟨b,off,e,hlt,?_⟩;rw[hb.cell (p:=⟨b,off+i,none⟩) hlt,hc i (by omega),get_flatK _ _ _ _ (by simp;omega),show i/1=i by omega,show i%1=0 by omega];simp[encI]
theorem kG {w wr:World}{ao:Option Addr}{l:List ByteArray}(h3:l≠[]->∃b off,ao=some ⟨b,off,none⟩∧b<w.heap.size∧cG encS 1 w b off l)(i:Nat)(hi:i<l.length)(hb:Below w.heap.size w wr):
  ∃b off,ao=some ⟨b,off,none⟩∧b<w.heap.size∧wr.cell? ⟨b,off+i,none⟩=some (.string l[i]!):=by
 obtain⟨b,off,e,hlt,hc⟩:=h3 (by intro h;rw[h]at hi;simp at hi);refine⟨b,off,e,hlt,?_⟩;rw[hb.cell (p:=⟨b,off+i,none⟩) hlt,hc i (by omega),get_flatK _ _ _ _ (by simp;omega),show i/1=i by omega,show i%1=0 by omega];simp[encS]
theorem bN {base:Nat}{w:World}{e:TypeId}{k:Nat}{v:Value}{n:Nat}{xs:List Value}(h:w.ownsRow base e k v n xs):∃ao c,v=.slice ao n c:=by
 rcases h.2 with⟨h,h2⟩| ⟨g,cap,cur,h,_⟩
 ·rw[h2];exact⟨_,_,h⟩
 ·exact⟨_,_,h⟩
theorem aH {base base':Nat}{w:World}{e:TypeId}{k:Nat}{v:Value}{n:Nat}{xs:List Value}(h:w.ownsRow base e k v n xs)(hb:base'<=base):w.ownsRow base' e k v n xs:=by
 refine⟨h.1,?_⟩;rcases h.2 with h2| ⟨g,cap,cur,hv,hg,r⟩
 ·exact Or.inl h2
 ·exact Or.inr ⟨g,cap,cur,hv,Nat.le_trans hb hg,r⟩
theorem j7 {base:Nat}{W:World}{e:TypeId}{k:Nat}{v:Value}{n:Nat}{xs:List Value}(h:W.ownsRow base e k v n xs):∀r,v.ownBlock=some r->base<=r:=by
 intro r hk;rcases dQ h with hr| ⟨r,hr,hle⟩
 ·rw[hr]at hk;cases hk
 ·rw[hr]at hk;cases hk;exact hle
theorem Hu {base:Nat}{w:World}{v u:Value}{l m:List En}(ty:TypeId)(h:bc base w v l)(hu:Row aG 2 w u m)(hl:l.length+m.length<1000000)(hbase:base<=w.heap.size):
  ∃ao n c w',(Builtin.append_ #[55,55] ty #[v,u]).run Tryz.prog w=.ok (.slice ao n c) w'∧bc base w' (.slice ao n c) (l++m)∧(∀w0,Below base w0 w->Below base w0 w'):=by
 obtain⟨i0,hi,hz0,hz1,hz2⟩:=info_parts dY;have ht:=Tryz.underlying55;obtain⟨ao,cap,rfl,h1,h2,h3⟩:=hu;cases ao with
 |none=>
  have hm:m=[]:=by
   rcases List.eq_nil_or_concat m with e1| ⟨m',y,e1⟩
   ·exact e1
   ·obtain⟨b,off,e2,_⟩:=h3 (by rw[e1];simp);cases e2
  subst hm;have hc0:=h2 rfl;subst hc0;obtain⟨av,cv,rfl⟩:=bN h;exact⟨_,_,_,w,run_append_owned_none (P:=Tryz.prog) w base _ ty _ i0 2 ht hi _ _ _ h,by rw[List.append_nil];exact h,fun _ hb=>hb⟩
 |some ad=>
  obtain⟨v',w',hr,g1,g2,_⟩:=run_append_own (P:=Tryz.prog) w base 55 ty 49 i0 _ 2 32 ht hi hz0 hz1 hz2 rfl (by decide) v _ _ h ad m.length cap (flatK aG 2 m.toArray).toList (by simp) (fun j u hj=>by
   obtain⟨hj1,hj2⟩:=List.getElem?_eq_some_iff.1 hj
   have jL:j<m.length*2:=by simpa using hj1
   obtain⟨b,off,e2,_,hc⟩:=h3 (by intro e;rw[e]at jL;simp at jL)
   cases e2
   rw[Go.WideShapes.add_plain,hc j jL,getElem!_pos _ j (by simpa using jL),<-hj2]
   simp) (cD dX cm) (by unfold maxLen;omega) (by omega) hbase
  obtain⟨av,cv,rfl⟩:=bN g1;refine⟨_,_,_,w',hr,?_,fun w0 hb=>hb.grown g2 hbase fun k hk=>j7 h k hk⟩;show w'.ownsRow base 49 2 _ (l++m).length (flatK aG 2 (l++m).toArray).toList;rw[List.length_append,bH aG 2 cm];exact g1
theorem XB {ops:Array Oper}{rest:List Oper}{o:Oper}{a:Act}{Q:Exit->Act->World->Prop}{w:World}(hgd:o.guard=.none)(s x:Operand)
  (ho:o.op=.call {callee:=.builtin .append,args:=#[s,x],argTypes:=#[55,55]})(base:Nat)(v:Value)(l:List En)(hs:a.eval s=v)(hown:bc base w v l)
  (u:Value)(m:List En)(hx:a.eval x=u)(hu:Row aG 2 w u m)(hl:l.length+m.length<1000000)(hbase:base<=w.heap.size)(lm:List En)(hlm:l++m=lm)
  (h:∀ao n c w',bc base w' (.slice ao n c) lm->(∀w0,Below base w0 w->Below base w0 w')->wpList Tryz.prog ops Q rest (a.put o.dst (.slice ao n c)) w'):wpList Tryz.prog ops Q (o::rest) a w:=by
 subst hlm;refine wpList_plain hgd fun K hK'=>?_;obtain⟨ao,n,c,w',hrun,h1,h2⟩:=Hu o.type hown hu hl hbase;unfold Oper.wp;simp[execOp,ho,resolve,invoke,builtin,hs,hx,hrun,Result.andThen];exact hK' _ _ (h ao n c w' h1 h2)
theorem XC:Tryz.prog.underlying 55=some (.slice (Tryz.prog.elem 55)):=by kernel_rfl
theorem XD (u:World):(sizeOf (Tryz.prog.elem 55)).run Tryz.prog u=.ok 2 u:=by kernel_rfl
theorem Ut (ao:Option Addr)(n c k:Nat)(hk:k<=c)(u:World):(Instr.slice 55 (.slice ao n c) none (some (.int .i64 (k:Int))) none).run Tryz.prog u=.ok (.slice ao k c) u:=by
 rw[run_slice_h u 55 ao n c XC .i64 k (by omega) (by omega),XD];simp only[Result.andThen,sliced,Int.toNat_natCast];cases ao<;>simp[add0]
theorem Hv {base:Nat}{w:World}{v u:Value}{l m:List Int}(ty:TypeId)(h:dP base w v l)(hu:Row encI 1 w u m)(hl:l.length+m.length<1000000)(hbase:base<=w.heap.size):
  ∃ao n c w',(Builtin.append_ #[93,93] ty #[v,u]).run Tryz.prog w=.ok (.slice ao n c) w'∧dP base w' (.slice ao n c) (l++m)∧(∀w0,Below base w0 w->Below base w0 w'):=by
 obtain⟨i0,hi,hz0,hz1,hz2⟩:=info_parts pV;have ht:=Tryz.underlying93;obtain⟨ao,cap,rfl,h1,h2,h3⟩:=hu;cases ao with
 |none=>
  have hm:m=[]:=by
   rcases List.eq_nil_or_concat m with e1| ⟨m',y,e1⟩
   ·exact e1
   ·obtain⟨b,off,e2,_⟩:=h3 (by rw[e1];simp);cases e2
  subst hm;have hc0:=h2 rfl;subst hc0;obtain⟨av,cv,rfl⟩:=bN h;exact⟨_,_,_,w,run_append_owned_none (P:=Tryz.prog) w base _ ty _ i0 1 ht hi _ _ _ h,by rw[List.append_nil];exact h,fun _ hb=>hb⟩
 |some ad=>
  obtain⟨v',w',hr,g1,g2,_⟩:=run_append_own (P:=Tryz.prog) w base 93 ty 3 i0 _ 1 8 ht hi hz0 hz1 hz2 rfl (by decide) v _ _ h ad m.length cap (flatK encI 1 m.toArray).toList (by simp) (fun j u hj=>by
   obtain⟨hj1,hj2⟩:=List.getElem?_eq_some_iff.1 hj
   have jL:j<m.length*1:=by simpa using hj1
   obtain⟨b,off,e2,_,hc⟩:=h3 (by intro e;rw[e]at jL;simp at jL)
   cases e2
   rw[Go.WideShapes.add_plain,hc j jL,getElem!_pos _ j (by simpa using jL),<-hj2]
   simp) (cD yA iR) (by unfold maxLen;omega) (by omega) hbase
  obtain⟨av,cv,rfl⟩:=bN g1;refine⟨_,_,_,w',hr,?_,fun w0 hb=>hb.grown g2 hbase fun k hk=>j7 h k hk⟩;show w'.ownsRow base 3 1 _ (l++m).length (flatK encI 1 (l++m).toArray).toList;rw[List.length_append,bH encI 1 iR];exact g1
theorem XE {ops:Array Oper}{rest:List Oper}{o:Oper}{a:Act}{Q:Exit->Act->World->Prop}{w:World}(hgd:o.guard=.none)(s x:Operand)
  (ho:o.op=.call {callee:=.builtin .append,args:=#[s,x],argTypes:=#[93,93]})(base:Nat)(v:Value)(l:List Int)(hs:a.eval s=v)(hown:dP base w v l)
  (u:Value)(m:List Int)(hx:a.eval x=u)(hu:Row encI 1 w u m)(hl:l.length+m.length<1000000)(hbase:base<=w.heap.size)(lm:List Int)(hlm:l++m=lm)
  (h:∀ao n c w',dP base w' (.slice ao n c) lm->(∀w0,Below base w0 w->Below base w0 w')->wpList Tryz.prog ops Q rest (a.put o.dst (.slice ao n c)) w'):wpList Tryz.prog ops Q (o::rest) a w:=by
 subst hlm;refine wpList_plain hgd fun K hK'=>?_;obtain⟨ao,n,c,w',hrun,h1,h2⟩:=Hv o.type hown hu hl hbase;unfold Oper.wp;simp[execOp,ho,resolve,invoke,builtin,hs,hx,hrun,Result.andThen];exact hK' _ _ (h ao n c w' h1 h2)
theorem Uu:Tryz.prog.underlying 93=some (.slice (Tryz.prog.elem 93)):=by kernel_rfl
theorem Uv (u:World):(sizeOf (Tryz.prog.elem 93)).run Tryz.prog u=.ok 1 u:=by kernel_rfl
theorem yB (ao:Option Addr)(n c k:Nat)(hk:k<=c)(u:World):(Instr.slice 93 (.slice ao n c) none (some (.int .i64 (k:Int))) none).run Tryz.prog u=.ok (.slice ao k c) u:=by
 rw[run_slice_h u 93 ao n c Uu .i64 k (by omega) (by omega),Uv];simp only[Result.andThen,sliced,Int.toNat_natCast];cases ao<;>simp[add0]
theorem yC (ao:Option Addr)(n c k:Nat)(hk:k<=n)(u:World):(Instr.slice 93 (.slice ao n c) (some (.int .i64 (k:Int))) none none).run Tryz.prog u=.ok (.slice (if c=k then ao else ao.map (·.add (k*1))) (n-k) (c-k)) u:=by
 rw[run_slice_l u 93 ao n c Uu .i64 k (by omega) (by omega),Uv];simp[Result.andThen,sliced]
theorem Hw {base:Nat}{w:World}{v u:Value}{l m:List ByteArray}(ty:TypeId)(h:cH base w v l)(hu:Row encS 1 w u m)(hl:l.length+m.length<1000000)(hbase:base<=w.heap.size):
  ∃ao n c w',(Builtin.append_ #[54,54] ty #[v,u]).run Tryz.prog w=.ok (.slice ao n c) w'∧cH base w' (.slice ao n c) (l++m)∧(∀w0,Below base w0 w->Below base w0 w'):=by
 obtain⟨i0,hi,hz0,hz1,hz2⟩:=info_parts mK;have ht:=Tryz.underlying54;obtain⟨ao,cap,rfl,h1,h2,h3⟩:=hu;cases ao with
 |none=>
  have hm:m=[]:=by
   rcases List.eq_nil_or_concat m with e1| ⟨m',y,e1⟩
   ·exact e1
   ·obtain⟨b,off,e2,_⟩:=h3 (by rw[e1];simp);cases e2
  subst hm;have hc0:=h2 rfl;subst hc0;obtain⟨av,cv,rfl⟩:=bN h;exact⟨_,_,_,w,run_append_owned_none (P:=Tryz.prog) w base _ ty _ i0 1 ht hi _ _ _ h,by rw[List.append_nil];exact h,fun _ hb=>hb⟩
 |some ad=>
  obtain⟨v',w',hr,g1,g2,_⟩:=run_append_own (P:=Tryz.prog) w base 54 ty 9 i0 _ 1 16 ht hi hz0 hz1 hz2 rfl (by decide) v _ _ h ad m.length cap (flatK encS 1 m.toArray).toList (by simp) (fun j u hj=>by
   obtain⟨hj1,hj2⟩:=List.getElem?_eq_some_iff.1 hj
   have jL:j<m.length*1:=by simpa using hj1
   obtain⟨b,off,e2,_,hc⟩:=h3 (by intro e;rw[e]at jL;simp at jL)
   cases e2
   rw[Go.WideShapes.add_plain,hc j jL,getElem!_pos _ j (by simpa using jL),<-hj2]
   simp) (cD yo fk) (by unfold maxLen;omega) (by omega) hbase
  obtain⟨av,cv,rfl⟩:=bN g1;refine⟨_,_,_,w',hr,?_,fun w0 hb=>hb.grown g2 hbase fun k hk=>j7 h k hk⟩;show w'.ownsRow base 9 1 _ (l++m).length (flatK encS 1 (l++m).toArray).toList;rw[List.length_append,bH encS 1 fk];exact g1
theorem XF {ops:Array Oper}{rest:List Oper}{o:Oper}{a:Act}{Q:Exit->Act->World->Prop}{w:World}(hgd:o.guard=.none)(s x:Operand)
  (ho:o.op=.call {callee:=.builtin .append,args:=#[s,x],argTypes:=#[54,54]})(base:Nat)(v:Value)(l:List ByteArray)(hs:a.eval s=v)(hown:cH base w v l)
  (u:Value)(m:List ByteArray)(hx:a.eval x=u)(hu:Row encS 1 w u m)(hl:l.length+m.length<1000000)(hbase:base<=w.heap.size)(lm:List ByteArray)(hlm:l++m=lm)
  (h:∀ao n c w',cH base w' (.slice ao n c) lm->(∀w0,Below base w0 w->Below base w0 w')->wpList Tryz.prog ops Q rest (a.put o.dst (.slice ao n c)) w'):wpList Tryz.prog ops Q (o::rest) a w:=by
 subst hlm;refine wpList_plain hgd fun K hK'=>?_;obtain⟨ao,n,c,w',hrun,h1,h2⟩:=Hw o.type hown hu hl hbase;unfold Oper.wp;simp[execOp,ho,resolve,invoke,builtin,hs,hx,hrun,Result.andThen];exact hK' _ _ (h ao n c w' h1 h2)
theorem Uw:Tryz.prog.underlying 54=some (.slice (Tryz.prog.elem 54)):=by kernel_rfl
theorem Ux (u:World):(sizeOf (Tryz.prog.elem 54)).run Tryz.prog u=.ok 1 u:=by kernel_rfl
theorem yD (ao:Option Addr)(n c k:Nat)(hk:k<=c)(u:World):(Instr.slice 54 (.slice ao n c) none (some (.int .i64 (k:Int))) none).run Tryz.prog u=.ok (.slice ao k c) u:=by
 rw[run_slice_h u 54 ao n c Uw .i64 k (by omega) (by omega),Ux];simp only[Result.andThen,sliced,Int.toNat_natCast];cases ao<;>simp[add0]
theorem yE (ao:Option Addr)(n c k:Nat)(hk:k<=n)(u:World):(Instr.slice 54 (.slice ao n c) (some (.int .i64 (k:Int))) none none).run Tryz.prog u=.ok (.slice (if c=k then ao else ao.map (·.add (k*1))) (n-k) (c-k)) u:=by
 rw[run_slice_l u 54 ao n c Uw .i64 k (by omega) (by omega),Ux];simp[Result.andThen,sliced]
structure im (w:World)(ve vk vs:Value)(n:Nd):Prop where
 e:Row aG 2 w ve n.es
 k:Row encI 1 w vk n.ks
 s:Row encS 1 w vs n.ss
theorem im.below {w w':World}{ve vk vs:Value}{n:Nd}(h:im w ve vk vs n)(hb:Below w.heap.size w w'):im w' ve vk vs n:=⟨h.e.below hb,h.k.below hb,h.s.below hb⟩
structure kH (base:Nat)(w:World)(ve vk vs:Value)(n:Nd):Prop where
 e:bc base w ve n.es
 k:dP base w vk n.ks
 s:cH base w vs n.ss
theorem kH.r {base:Nat}{w:World}{ve vk vs:Value}{n:Nd}(h:kH base w ve vk vs n):im w ve vk vs n:=⟨(cj (by decide) h.e).row,(cj (by decide) h.k).row,(cj (by decide) h.s).row⟩
theorem kH.mono {base base':Nat}{w:World}{ve vk vs:Value}{n:Nd}(h:kH base w ve vk vs n)(hb:base'<=base):kH base' w ve vk vs n:=⟨aH h.e hb,aH h.k hb,aH h.s hb⟩
theorem dP.empty (base:Nat)(W:World):dP base W (.slice none 0 0) []:=by unfold dP;simpa[flatK]using World.ownsRow_nil W base 3 1
theorem kH.zero (base:Nat)(w:World):kH base w (.slice none 0 0) (.slice none 0 0) (.slice none 0 0) nd0:=⟨bc.empty _ _,dP.empty _ _,cH.empty _ _⟩
structure Sm (n:Nd):Prop where
 e:n.es.length<=1000
 k:n.ks.length<=1000
 s:n.ss.length<=1000
 ez:cP n.es<=1000000
 sz:bW n.ss<=1000000
structure xE (n:Nd):Prop where
 e:n.es.length<=1000
 k:n.ks.length<=1000
 s:n.ss.length<=1000
theorem Sm.l {n:Nd}(h:Sm n):xE n:=⟨h.e,h.k,h.s⟩
end
section
theorem uR {α:Type}[Inhabited α]{ls:List (List α)}{i:Nat}(h:i<ls.length):(ls.take (i+1)).flatten=(ls.take i).flatten++ls[i]! :=by
 rw[cY h];simp
theorem L5 {α:Type}[Inhabited α]{ls:List (List α)}{i:Nat}(h:i<ls.length):(ls.take i).flatten.length+ls[i]!.length<=ls.flatten.length:=by
 rw[<-List.length_append,<-uR h];have:=congrArg (fun l=>l.flatten.length) (List.take_append_drop (i+1) ls);simp only[List.flatten_append,List.length_append]at this;omega
theorem jC:(∀(q:Nat) (t:TypeId) (vs:List Value) (ls:List (List En)) (m:Nat) (w:World) (hq:Cl w q vs.toArray t) (hv:vs.length=m) (hvl:ls.length=m) (hr:∀i,i<m->Row aG 2 w vs[i]! ls[i]!) (hN:ls.flatten.length<1000000) (hm:m<=1000) (out:List En) (hout:ls.flatten=out),Calls Tryz.prog 164 #[.slice (some ⟨q,0,none⟩) m m] w fun e w'=>∃ao n c,e=.returned (.slice ao n c)∧bc w.heap.size w' (.slice ao n c) out∧Below w.heap.size w w')∧
  (∀(q:Nat) (t:TypeId) (vs:List Value) (ls:List (List Int)) (m:Nat) (w:World) (hq:Cl w q vs.toArray t) (hv:vs.length=m) (hvl:ls.length=m) (hr:∀i,i<m->Row encI 1 w vs[i]! ls[i]!) (hN:ls.flatten.length<1000000) (hm:m<=1000) (out:List Int) (hout:ls.flatten=out),Calls Tryz.prog 188 #[.slice (some ⟨q,0,none⟩) m m] w fun e w'=>∃ao n c,e=.returned (.slice ao n c)∧dP w.heap.size w' (.slice ao n c) out∧Below w.heap.size w w')∧
  (∀(q:Nat) (t:TypeId) (vs:List Value) (ls:List (List ByteArray)) (m:Nat) (w:World) (hq:Cl w q vs.toArray t) (hv:vs.length=m) (hvl:ls.length=m) (hr:∀i,i<m->Row encS 1 w vs[i]! ls[i]!) (hN:ls.flatten.length<1000000) (hm:m<=1000) (out:List ByteArray) (hout:ls.flatten=out),Calls Tryz.prog 189 #[.slice (some ⟨q,0,none⟩) m m] w fun e w'=>∃ao n c,e=.returned (.slice ao n c)∧cH w.heap.size w' (.slice ao n c) out∧Below w.heap.size w w'):=by
 and_intros
 have jk:=trivial
 rotate_left
 have fu:=trivial
 rotate_left
 have QE:=trivial
 rotate_left
 all_goals
  intro q t vs ls m w hq hv hvl hr hN hm out hout;subst hout;have HQ:Aside (Cl w q vs.toArray t):=hq
  first
   |have zz:=jk
    have HR:Aside (∀i,i<m->Row aG 2 w vs[i]! ls[i]!):=hr
   |have zz:=fu
    have HR:Aside (∀i,i<m->Row encI 1 w vs[i]! ls[i]!):=hr
   |have HR:Aside (∀i,i<m->Row encS 1 w vs[i]! ls[i]!):=hr
  have HV:Hid (vs.length=m):=hv;have HL:Hid (ls.length=m):=hvl;have XG:=hq.lt;clear hq hr hv hvl
  first
   |have zz:=jk
    go_enter Tryz.func164,Tryz.ntmps164
   |have zz:=fu
    go_enter Tryz.func188,Tryz.ntmps188
   |go_enter Tryz.func189,Tryz.ntmps189
  go_wp2
  first
   |have zz:=QE
    go_loopg [3,8] m (fun kx s3 s8 wr=>∃(i:Nat) (dJ:Option Addr) (n' c':Nat) (out:List ByteArray),s3=.slice dJ n' c'∧s8=.int .i64 i∧i<=m∧m-i<=kx∧Hid ((ls.take i).flatten=out)∧Aside (cH w.heap.size wr (.slice dJ n' c') out)∧Hid (Below w.heap.size w wr))
    case atStart=>exact⟨0,none,0,0,[],rfl,rfl,Nat.zero_le _,Nat.le_refl _,rfl,cH.empty _ _,Below.refl _ _⟩
   |have zz:=fu
    go_loopg [3,8] m (fun kx s3 s8 wr=>∃(i:Nat) (dJ:Option Addr) (n' c':Nat) (out:List Int),s3=.slice dJ n' c'∧s8=.int .i64 i∧i<=m∧m-i<=kx∧Hid ((ls.take i).flatten=out)∧Aside (dP w.heap.size wr (.slice dJ n' c') out)∧Hid (Below w.heap.size w wr))
    case atStart=>exact⟨0,none,0,0,[],rfl,rfl,Nat.zero_le _,Nat.le_refl _,rfl,dP.empty _ _,Below.refl _ _⟩
   |go_loopg [3,8] m (fun kx s3 s8 wr=>∃(i:Nat) (dJ:Option Addr) (n' c':Nat) (out:List En),s3=.slice dJ n' c'∧s8=.int .i64 i∧i<=m∧m-i<=kx∧Hid ((ls.take i).flatten=out)∧Aside (bc w.heap.size wr (.slice dJ n' c') out)∧Hid (Below w.heap.size w wr))
    case atStart=>exact⟨0,none,0,0,[],rfl,rfl,Nat.zero_le _,Nat.le_refl _,rfl,bc.empty _ _,Below.refl _ _⟩
  case round=>
   obtain⟨i,dJ,n',c',out,rfl,rfl,hi,hki,HD,HO,HB⟩:=hrel;by_cases hil:i<m
   ·have fP:(i:Int)< (m:Int):=by omega
    have Ee:i<ls.length:=by rw[HL.out];exact hil
    have T:Hid _:=uR Ee;have hle:=L5 Ee;rw[HD.out]at T hle;have R0:=(HR.out i hil).below HB.out;have c0:wr.cell? ⟨q,i,none⟩=some vs[i]! :=by
     rw[HB.out.cell (p:=⟨q,i,none⟩) XG,HQ.out.cell i,List.getElem?_toArray,List.getElem?_eq_getElem (by rw[HV.out];exact hil),getElem!_pos vs i (by rw[HV.out];exact hil)]
    generalize vs[i]! =u at*;generalize ls[i]! =x at*
    first
     |have zz:=jk
      have RX:Aside (Row aG 2 wr u x):=R0
     |have zz:=fu
      have RX:Aside (Row encI 1 wr u x):=R0
     |have RX:Aside (Row encS 1 wr u x):=R0
    obtain⟨au,cu,rfl,_⟩:=aF R0;obtain⟨o2,ho2⟩:∃o2,out++x=o2:=⟨_,rfl⟩;have E2:Hid (out++x=o2):=ho2;rw[ho2]at T;have hsz:=HB.out.size;clear ho2 R0
    first
     |have zz:=jk
      go_wp2_with (at_builtin;refine XB rfl _ _ rfl w.heap.size _ out rfl HO.out _ x rfl RX.out (by omega) hsz o2 E2.out ?_)
     |have zz:=fu
      go_wp2_with (at_builtin;refine XE rfl _ _ rfl w.heap.size _ out rfl HO.out _ x rfl RX.out (by omega) hsz o2 E2.out ?_)
     |go_wp2_with (at_builtin;refine XF rfl _ _ rfl w.heap.size _ out rfl HO.out _ x rfl RX.out (by omega) hsz o2 E2.out ?_)
    intro a6 n6 c6 w6 P6 Q6
    first
     |have zz:=jk
      have O7:Aside (bc w.heap.size w6 (.slice a6 n6 c6) o2):=P6
     |have zz:=fu
      have O7:Aside (dP w.heap.size w6 (.slice a6 n6 c6) o2):=P6
     |have O7:Aside (cH w.heap.size w6 (.slice a6 n6 c6) o2):=P6
    have B7:Hid (Below w.heap.size w w6):=Q6 _ HB.out;clear P6 Q6 HO HB RX E2 hsz hle;go_wp2
    go_roundg (m- (i+1))
    case measure=>omega
    case rel=>exact⟨i+1,a6,n6,c6,o2,rfl,by go_num,by omega,Nat.le_refl _,T,O7,B7⟩
   ·have fP:¬(i:Int)< (m:Int):=by omega
    obtain rfl:i=m:=by omega
    have E:(ls.take i).flatten=ls.flatten:=by rw[List.take_of_length_le (by rw[HL.out];exact Nat.le_refl _)]
    have E2:Hid (ls.flatten=out):=E.symm.trans HD.out;clear E;go_wp2;go_ret;exact⟨_,_,_,rfl,by rw[E2.out];exact HO.out,HB.out⟩
theorem mV (q:Nat)(t:TypeId)(v:Value)(l:List En)(w:World)(hq:Cl w q #[v] t)(h:Row aG 2 w v l)(hN:l.length<1000000):
  Calls Tryz.prog 164 #[.slice (some ⟨q,0,none⟩) 1 1] w fun e w'=>∃ao n c,e=.returned (.slice ao n c)∧bc w.heap.size w' (.slice ao n c) l∧Below w.heap.size w w':=
 jC.1 q t [v] [l] 1 w hq rfl rfl (fun i hi=>by
  rcases(by omega:i=0)with rfl
  exact h) (by simpa using hN) (by decide) l (by simp)
theorem Hx (q:Nat)(t:TypeId)(v u:Value)(l m:List En)(w:World)(hq:Cl w q #[v,u] t)(h:Row aG 2 w v l)(h2:Row aG 2 w u m)(hN:l.length+m.length<1000000):
  Calls Tryz.prog 164 #[.slice (some ⟨q,0,none⟩) 2 2] w fun e w'=>∃ao n c,e=.returned (.slice ao n c)∧bc w.heap.size w' (.slice ao n c) (l++m)∧Below w.heap.size w w':=
 jC.1 q t [v,u] [l,m] 2 w hq rfl rfl (fun i hi=>by
  rcases(by omega:i=0∨i=1)with rfl|rfl
  ·exact h
  ·exact h2) (by simpa using hN) (by decide) (l++m) (by simp)
theorem sH (q:Nat)(t:TypeId)(v:Value)(l:List Int)(w:World)(hq:Cl w q #[v] t)(h:Row encI 1 w v l)(hN:l.length<1000000):
  Calls Tryz.prog 188 #[.slice (some ⟨q,0,none⟩) 1 1] w fun e w'=>∃ao n c,e=.returned (.slice ao n c)∧dP w.heap.size w' (.slice ao n c) l∧Below w.heap.size w w':=
 jC.2.1 q t [v] [l] 1 w hq rfl rfl (fun i hi=>by
  rcases(by omega:i=0)with rfl
  exact h) (by simpa using hN) (by decide) l (by simp)
theorem Hy (q:Nat)(t:TypeId)(v u:Value)(l m:List Int)(w:World)(hq:Cl w q #[v,u] t)(h:Row encI 1 w v l)(h2:Row encI 1 w u m)(hN:l.length+m.length<1000000):
  Calls Tryz.prog 188 #[.slice (some ⟨q,0,none⟩) 2 2] w fun e w'=>∃ao n c,e=.returned (.slice ao n c)∧dP w.heap.size w' (.slice ao n c) (l++m)∧Below w.heap.size w w':=
 jC.2.1 q t [v,u] [l,m] 2 w hq rfl rfl (fun i hi=>by
  rcases(by omega:i=0∨i=1)with rfl|rfl
  ·exact h
  ·exact h2) (by simpa using hN) (by decide) (l++m) (by simp)
theorem Hz (q:Nat)(t:TypeId)(v u z:Value)(l m n:List Int)(w:World)(hq:Cl w q #[v,u,z] t)(h:Row encI 1 w v l)(h2:Row encI 1 w u m)(h3:Row encI 1 w z n)(hN:l.length+m.length+n.length<1000000):
  Calls Tryz.prog 188 #[.slice (some ⟨q,0,none⟩) 3 3] w fun e w'=>∃ao n' c,e=.returned (.slice ao n' c)∧dP w.heap.size w' (.slice ao n' c) (l++m++n)∧Below w.heap.size w w':=
 jC.2.1 q t [v,u,z] [l,m,n] 3 w hq rfl rfl (fun i hi=>by
  rcases(by omega:i=0∨i=1∨i=2)with rfl|rfl|rfl
  ·exact h
  ·exact h2
  ·exact h3) (by simp;omega) (by decide) (l++m++n) (by simp)
theorem sI (q:Nat)(t:TypeId)(v:Value)(l:List ByteArray)(w:World)(hq:Cl w q #[v] t)(h:Row encS 1 w v l)(hN:l.length<1000000):
  Calls Tryz.prog 189 #[.slice (some ⟨q,0,none⟩) 1 1] w fun e w'=>∃ao n c,e=.returned (.slice ao n c)∧cH w.heap.size w' (.slice ao n c) l∧Below w.heap.size w w':=
 jC.2.2 q t [v] [l] 1 w hq rfl rfl (fun i hi=>by
  rcases(by omega:i=0)with rfl
  exact h) (by simpa using hN) (by decide) l (by simp)
theorem sJ (q:Nat)(t:TypeId)(v u z:Value)(l m n:List ByteArray)(w:World)(hq:Cl w q #[v,u,z] t)(h:Row encS 1 w v l)(h2:Row encS 1 w u m)(h3:Row encS 1 w z n)(hN:l.length+m.length+n.length<1000000):
  Calls Tryz.prog 189 #[.slice (some ⟨q,0,none⟩) 3 3] w fun e w'=>∃ao n' c,e=.returned (.slice ao n' c)∧cH w.heap.size w' (.slice ao n' c) (l++m++n)∧Below w.heap.size w w':=
 jC.2.2 q t [v,u,z] [l,m,n] 3 w hq rfl rfl (fun i hi=>by
  rcases(by omega:i=0∨i=1∨i=2)with rfl|rfl|rfl
  ·exact h
  ·exact h2
  ·exact h3) (by simp;omega) (by decide) (l++m++n) (by simp)
end
section
theorem jD {W X Y:World}(h2:Below X.heap.size X Y)(h1:Below W.heap.size W X):Below W.heap.size W Y:=h1.trans (h2.mono h1.size)
theorem aq {W X:World}(o:Obj)(h1:Below W.heap.size W X):Below W.heap.size W (X.alloc o):=h1.alloc h1.size _
theorem Cl.lT (w:World)(cs:Array Value)(t:TypeId):Cl (w.alloc (.cells cs t)) w.heap.size cs t:=Cl.new w cs t
theorem Cl.pI (w:World)(cs:Array Value)(t:TypeId)(o:Obj):Cl ((w.alloc o).alloc (.cells cs t)) (w.heap.size+1) cs t:=by
 have:=Cl.new (w.alloc o) cs t
 rwa [show(w.alloc o).heap.size=w.heap.size+1 by simp]at this
theorem Cl.AB (w:World)(cs:Array Value)(t:TypeId)(o o':Obj):Cl (((w.alloc o).alloc o').alloc (.cells cs t)) (w.heap.size+2) cs t:=by
 have:=Cl.new ((w.alloc o).alloc o') cs t
 rwa [show((w.alloc o).alloc o').heap.size=w.heap.size+2 by simp]at this
theorem Cl.dr {w:World}{q:Nat}{cs:Array Value}{t:TypeId}(h:Cl w q cs t):Cl w.drew q cs t:=h
theorem Cl.set {w:World}{q:Nat}{cs:Array Value}{t:TypeId}(h:Cl w q cs t)(i:Nat)(v:Value):Cl (w.setCell ⟨q,i,none⟩ v) q (cs.setIfInBounds i v) t:=by
 unfold Cl at h⊢;simp[World.setCell,Array.getElem?_modify,h]
theorem Cl.four {w:World}{q:Nat}{t:TypeId}{a b c d:Value}(h:Cl w q #[a,b,c,d] t):w.cell? ⟨q,0,none⟩=some a∧w.cell? ⟨q,1,none⟩=some b∧w.cell? ⟨q,2,none⟩=some c∧w.cell? ⟨q,3,none⟩=some d:=⟨h.cell 0,h.cell 1,h.cell 2,h.cell 3⟩
theorem Cl.thaw {w:World}{q:Nat}{t:TypeId}{cs:Array Value}(h:Cl w q cs t):w.frozen? ⟨q,0,none⟩=false∧w.frozen? ⟨q,1,none⟩=false∧w.frozen? ⟨q,2,none⟩=false∧w.frozen? ⟨q,3,none⟩=false:=by
 unfold Cl at h;simp[World.frozen?,h]
def RB (W:World)(r:Nat)(t:TypeId)(X:World):Prop:=Below r W X∧∃a b c d,Cl X r #[a,b,c,d] t
theorem RB.lt {W X:World}{r:Nat}{t:TypeId}(h:RB W r t X):r+1<=X.heap.size:=by
 obtain⟨_,a,b,c,d,k⟩:=h;exact k.lt
theorem RB.alloc {W X:World}{r:Nat}{t:TypeId}(h:RB W r t X)(o:Obj):RB W r t (X.alloc o):=by
 have:=h.lt;obtain⟨h1,a,b,c,d,k⟩:=h;exact⟨h1.alloc (by omega) _,a,b,c,d,k.alloc _⟩
theorem RB.call {W X Y:World}{r:Nat}{t:TypeId}(h:RB W r t X)(hb:Below X.heap.size X Y):RB W r t Y:=by
 have:=h.lt;obtain⟨h1,a,b,c,d,k⟩:=h;exact⟨h1.trans (hb.mono (by omega)),a,b,c,d,k.on hb⟩
theorem RB.four {W X:World}{r:Nat}{t:TypeId}(h:RB W r t X):(∃a,X.cell? ⟨r,0,none⟩=some a)∧(∃a,X.cell? ⟨r,1,none⟩=some a)∧(∃a,X.cell? ⟨r,2,none⟩=some a)∧(∃a,X.cell? ⟨r,3,none⟩=some a)∧X.frozen? ⟨r,0,none⟩=false∧X.frozen? ⟨r,1,none⟩=false∧X.frozen? ⟨r,2,none⟩=false∧X.frozen? ⟨r,3,none⟩=false:=by
 obtain⟨_,a,b,c,d,k⟩:=h;refine⟨⟨a,k.cell 0⟩,⟨b,k.cell 1⟩,⟨c,k.cell 2⟩,⟨d,k.cell 3⟩,?_⟩;unfold Cl at k;simp[World.frozen?,k]
def fo (w:World)(q:Nat)(a b c d:Value):World:=(((w.setCell ⟨q,0,none⟩ a).setCell ⟨q,1,none⟩ b).setCell ⟨q,2,none⟩ c).setCell ⟨q,3,none⟩ d
theorem Cl.fo {w:World}{q:Nat}{t:TypeId}{a b c d:Value}(h:Cl w q #[a,b,c,d] t)(a' b' c' d':Value):Cl (fo w q a' b' c' d') q #[a',b',c',d'] t:=(((h.set 0 a').set 1 b').set 2 c').set 3 d'
theorem bC {fn:Func}{p:Tmp}{ty:TypeId}(h:fn.results=#[.cell p ty])(tmps:Array Value)(P:Program)(w:World):
  (results fn tmps).run P w=((asAddr (tmps.getD p undef)).run P w).andThen fun a w₁=>(loadVar ty a).run P w₁:=by
 simp only[results,h];simp[Sem.run_bind,Result.andThen]
theorem bE {base q:Nat}{w:World}{e:TypeId}{k:Nat}{v a b c d:Value}{n:Nat}{xs:List Value}(h:w.ownsRow base e k v n xs)(hq:q<base):(fo w q a b c d).ownsRow base e k v n xs:=
 ownsRow_setCell_below (ownsRow_setCell_below (ownsRow_setCell_below (ownsRow_setCell_below h (a:=⟨q,0,none⟩) hq a) (a:=⟨q,1,none⟩) hq b) (a:=⟨q,2,none⟩) hq c) (a:=⟨q,3,none⟩) hq d
theorem cU {B q:Nat}{w0 w:World}{a b c d:Value}(h:Below B w0 w)(hq:B<=q):Below B w0 (fo w q a b c d):=
 (((h.setCell (p:=⟨q,0,none⟩) hq a).setCell (p:=⟨q,1,none⟩) hq b).setCell (p:=⟨q,2,none⟩) hq c).setCell (p:=⟨q,3,none⟩) hq d
end
section
attribute [local go_sem ↓] Go.wp_at_zero Go.wp_at_succ
def QF (W:World)(p:Nat)(lf:Bool)(ae ak az:Option Addr)(ce ck cz:Nat)(es:List En)(ks:List Int)(ss:List ByteArray)(C:List Bool->Act->Prop)(w:World):Prop:=∀{f0 f1 f2 f3 f4 f5 f6 f7 f8 f9 f10 f11 f12 f13 f14 f15:Bool}{x3 x4 x5 x6 x7 x8 x9 ov tF qu tG tT FC Cu tU:Value},f15=false->RB W (p+1) 184 w->Hid (f0=true->x3=.pointer (some ⟨p,0,none⟩))->Hid (f1=true->x4=.bool lf)->Hid (f2=true->x5=.pointer (some ⟨p,1,none⟩))->Hid (f3=true->x6=.slice ae es.length ce)->Hid (f4=true->∃qq,x7=.slice (some ⟨qq,0,none⟩) 1 1∧Cl w qq #[.slice ae es.length ce] 55)->Hid (f5=true->∃ao n c,x8=.slice ao n c∧bc (p+2) w x8 (es))->Hid (f6=true->x9=.pointer (some ⟨p,2,none⟩))->Hid (f7=true->ov=.slice ak ks.length ck)->Hid (f8=true->∃qq,tF=.slice (some ⟨qq,0,none⟩) 1 1∧Cl w qq #[.slice ak ks.length ck] 93)->Hid (f9=true->∃ao n c,qu=.slice ao n c∧dP (p+2) w qu (ks))->Hid (f10=true->tG=.pointer (some ⟨p,3,none⟩))->Hid (f11=true->tT=.slice az ss.length cz)->Hid (f12=true->∃qq,FC=.slice (some ⟨qq,0,none⟩) 1 1∧Cl w qq #[.slice az ss.length cz] 54)->Hid (f13=true->∃ao n c,Cu=.slice ao n c∧cH (p+2) w Cu (ss))->Hid (f14=true->f5=true∧f9=true∧f13=true∧tU=.agg #[.bool lf,x8,qu,Cu])->C [f0,f1,f2,f3,f4,f5,f6,f7,f8,f9,f10,f11,f12,f13,f14,f15] {tmps:=#[.agg #[.bool lf,.slice ae es.length ce,.slice ak ks.length ck,.slice az ss.length cz],.pointer (some ⟨p,0,none⟩),.pointer (some ⟨p+1,0,none⟩),x3,x4,x5,x6,x7,x8,x9,ov,tF,qu,tG,tT,FC,Cu,tU],defers:=[]}
theorem iT (n:Nd)(ve vk vs:Value)(w:World)(h:im w ve vk vs n)(hs:xE n):
  Calls Tryz.prog 163 #[.agg #[.bool n.leaf,ve,vk,vs]] w fun e w'=>∃zU zV vs',e=.returned (.agg #[.bool n.leaf,zU,zV,vs'])∧kH w.heap.size w' zU zV vs' n∧Below w.heap.size w w':=by
 obtain⟨lf,es,ks,ss⟩:=n;obtain⟨he,hk,hss⟩:=h;obtain⟨s1,s2,s3⟩:=hs;simp only at he hk hss s1 s2 s3;obtain⟨ae,ce,rfl,_⟩:=aF he;obtain⟨ak,ck,rfl,_⟩:=aF hk;obtain⟨az,cz,rfl,_⟩:=aF hss;have K1:Cl ((w.alloc (.cells #[.bool lf,.slice ae es.length ce,.slice ak ks.length ck,.slice az ss.length cz] 184)).alloc (.cells #[.bool false,.slice none 0 0,.slice none 0 0,.slice none 0 0] 184)) w.heap.size #[.bool lf,.slice ae es.length ce,.slice ak ks.length ck,.slice az ss.length cz] 184:=(Cl.lT _ _ _).alloc _;have K2:Cl ((w.alloc (.cells #[.bool lf,.slice ae es.length ce,.slice ak ks.length ck,.slice az ss.length cz] 184)).alloc (.cells #[.bool false,.slice none 0 0,.slice none 0 0,.slice none 0 0] 184)) (w.heap.size+1) #[.bool false,.slice none 0 0,.slice none 0 0,.slice none 0 0] 184:=Cl.pI _ _ _ _;have BW:Hid (Below w.heap.size w ((w.alloc (.cells #[.bool lf,.slice ae es.length ce,.slice ak ks.length ck,.slice az ss.length cz] 184)).alloc (.cells #[.bool false,.slice none 0 0,.slice none 0 0,.slice none 0 0] 184))):=aq _ (aq _ (Below.refl _ _));go_enter Tryz.func163,Tryz.ntmps163
 go_wp2_with fail
 generalize World.alloc _ _=W at*;obtain⟨p,hp⟩:∃p,w.heap.size=p:=⟨_,rfl⟩;rw[hp]at K1 K2 BW⊢;have R0:Hid (RB W (p+1) 184 W.drew):=⟨(Below.refl _ W).drew,_,_,_,_,K2⟩;have BX:∀X,RB W (p+1) 184 X->Below p w X:=fun X hX=>BW.out.trans (hX.1.mono (Nat.le_succ p));have RE:Hid (∀X,RB W (p+1) 184 X->Row aG 2 X (.slice ae es.length ce) es):=fun X hX=>he.below (by rw[hp];exact BX X hX);have RK:Hid (∀X,RB W (p+1) 184 X->Row encI 1 X (.slice ak ks.length ck) ks):=fun X hX=>hk.below (by rw[hp];exact BX X hX);have RS:Hid (∀X,RB W (p+1) 184 X->Row encS 1 X (.slice az ss.length cz) ss):=fun X hX=>hss.below (by rw[hp];exact BX X hX);have MK:Hid (∀X,RB W (p+1) 184 X->X.cell? ⟨p,0,none⟩=some (.bool lf)∧X.cell? ⟨p,1,none⟩=some (.slice ae es.length ce)∧X.cell? ⟨p,2,none⟩=some (.slice ak ks.length ck)∧X.cell? ⟨p,3,none⟩=some (.slice az ss.length cz)):=fun X hX=>(K1.below hX.1 (Nat.lt_succ_self p)).four;have Tv:Hid (∀X,RB W (p+1) 184 X->Below p w X):=BX;clear he hk hss K1 K2 BW BX;refine bf 15 (QF W p lf ae ak az ce ck cz es ks ss) (by kernel_rfl) (by kernel_rfl) (by kernel_rfl) (fun _ k=>k rfl R0.out ar ar ar ar ar ar ar ar ar ar ar ar ar ar ar) ?_ ?_ ?_
 ·intro i w' hne f0 f1 f2 f3 f4 f5 f6 f7 f8 f9 f10 f11 f12 f13 f14 f15 x3 x4 x5 x6 x7 x8 x9 ov tF qu tG tT FC Cu tU e15 hB h0 h1 h2 h3 h4 h5 h6 h7 h8 h9 h10 h11 h12 dI fJ hi;obtain⟨hlt,hun,_⟩:=aP hi;have hlt':i<16:=hlt;clear hlt;rcases(by omega:i=0∨i=1∨i=2∨i=3∨i=4∨i=5∨i=6∨i=7∨i=8∨i=9∨i=10∨i=11∨i=12∨i=13∨i=14)with rfl|rfl|rfl|rfl|rfl|rfl|rfl|rfl|rfl|rfl|rfl|rfl|rfl|rfl|rfl
  ·refine ai rfl fun K HK=>?_;go_simp;exact HK.out _ _ fun _ k=>by apply k<;>first|assumption|exact hidR|(repeat' first|apply Exists.intro|assumption|rfl|apply And.intro|exact fun _=>rfl)
  ·cases h0 (ah 0 hi (by kernel_rfl));have cell:=(MK.out _ hB).1;refine ai rfl fun K HK=>?_;go_simp;exact HK.out _ _ fun _ k=>by apply k<;>first|assumption|exact hidR|(repeat' first|apply Exists.intro|assumption|rfl|apply And.intro|exact fun _=>rfl)
  ·refine ai rfl fun K HK=>?_;go_simp;exact HK.out _ _ fun _ k=>by apply k<;>first|assumption|exact hidR|(repeat' first|apply Exists.intro|assumption|rfl|apply And.intro|exact fun _=>rfl)
  ·cases h2 (ah 2 hi (by kernel_rfl));have cell:=(MK.out _ hB).2.1;refine ai rfl fun K HK=>?_;go_simp;exact HK.out _ _ fun _ k=>by apply k<;>first|assumption|exact hidR|(repeat' first|apply Exists.intro|assumption|rfl|apply And.intro|exact fun _=>rfl)
  ·cases h3 (ah 3 hi (by kernel_rfl));refine ai rfl fun K HK=>?_;go_simp;exact HK.out _ _ fun _ k=>k e15 (RB.alloc hB _) h0 h1 h2 h3 (fun _=>⟨_,rfl,Cl.new _ _ _⟩) (fun d=>let⟨ao,n,c,e,o⟩:=h5.out d;⟨ao,n,c,e,ownsRow_below o (aq _ (Below.refl _ _))⟩) h6 h7 (fun d=>let⟨q,e,c⟩:=h8.out d;⟨q,e,Cl.on c (aq _ (Below.refl _ _))⟩) (fun d=>let⟨ao,n,c,e,o⟩:=h9.out d;⟨ao,n,c,e,ownsRow_below o (aq _ (Below.refl _ _))⟩) h10 h11 (fun d=>let⟨q,e,c⟩:=h12.out d;⟨q,e,Cl.on c (aq _ (Below.refl _ _))⟩) (fun d=>let⟨ao,n,c,e,o⟩:=dI.out d;⟨ao,n,c,e,ownsRow_below o (aq _ (Below.refl _ _))⟩) fJ
  ·have un:f5=false:=hun;obtain⟨q4,rfl,c4⟩:=h4.out (ah 4 hi (by kernel_rfl));refine ai rfl fun K HK=>?_;go_simp;refine Calls.mono (mV q4 55 (.slice ae es.length ce) es w' c4 (RE.out _ hB) (by omega)) ?_;rintro e w1 ⟨ao,nn,cc,rfl,ow,b1⟩;exact HK.out _ _ fun _ k=>k e15 (RB.call hB b1) h0 h1 h2 h3 (fun d=>let⟨q,e,c⟩:=h4.out d;⟨q,e,Cl.on c (b1)⟩) (fun _=>⟨ao,nn,cc,rfl,aH ow (RB.lt hB)⟩) h6 h7 (fun d=>let⟨q,e,c⟩:=h8.out d;⟨q,e,Cl.on c (b1)⟩) (fun d=>let⟨ao,n,c,e,o⟩:=h9.out d;⟨ao,n,c,e,ownsRow_below o (b1)⟩) h10 h11 (fun d=>let⟨q,e,c⟩:=h12.out d;⟨q,e,Cl.on c (b1)⟩) (fun d=>let⟨ao,n,c,e,o⟩:=dI.out d;⟨ao,n,c,e,ownsRow_below o (b1)⟩) (fun d=>by have e:=(fJ.out d).1;rw[un]at e;cases e)
  ·refine ai rfl fun K HK=>?_;go_simp;exact HK.out _ _ fun _ k=>by apply k<;>first|assumption|exact hidR|(repeat' first|apply Exists.intro|assumption|rfl|apply And.intro|exact fun _=>rfl)
  ·cases h6 (ah 6 hi (by kernel_rfl));have cell:=(MK.out _ hB).2.2.1;refine ai rfl fun K HK=>?_;go_simp;exact HK.out _ _ fun _ k=>by apply k<;>first|assumption|exact hidR|(repeat' first|apply Exists.intro|assumption|rfl|apply And.intro|exact fun _=>rfl)
  ·cases h7 (ah 7 hi (by kernel_rfl));refine ai rfl fun K HK=>?_;go_simp;exact HK.out _ _ fun _ k=>k e15 (RB.alloc hB _) h0 h1 h2 h3 (fun d=>let⟨q,e,c⟩:=h4.out d;⟨q,e,Cl.on c (aq _ (Below.refl _ _))⟩) (fun d=>let⟨ao,n,c,e,o⟩:=h5.out d;⟨ao,n,c,e,ownsRow_below o (aq _ (Below.refl _ _))⟩) h6 h7 (fun _=>⟨_,rfl,Cl.new _ _ _⟩) (fun d=>let⟨ao,n,c,e,o⟩:=h9.out d;⟨ao,n,c,e,ownsRow_below o (aq _ (Below.refl _ _))⟩) h10 h11 (fun d=>let⟨q,e,c⟩:=h12.out d;⟨q,e,Cl.on c (aq _ (Below.refl _ _))⟩) (fun d=>let⟨ao,n,c,e,o⟩:=dI.out d;⟨ao,n,c,e,ownsRow_below o (aq _ (Below.refl _ _))⟩) fJ
  ·have un:f9=false:=hun;obtain⟨q8,rfl,c8⟩:=h8.out (ah 8 hi (by kernel_rfl));refine ai rfl fun K HK=>?_;go_simp;refine Calls.mono (sH q8 93 (.slice ak ks.length ck) ks w' c8 (RK.out _ hB) (by omega)) ?_;rintro e w1 ⟨ao,nn,cc,rfl,ow,b1⟩;exact HK.out _ _ fun _ k=>k e15 (RB.call hB b1) h0 h1 h2 h3 (fun d=>let⟨q,e,c⟩:=h4.out d;⟨q,e,Cl.on c (b1)⟩) (fun d=>let⟨ao,n,c,e,o⟩:=h5.out d;⟨ao,n,c,e,ownsRow_below o (b1)⟩) h6 h7 (fun d=>let⟨q,e,c⟩:=h8.out d;⟨q,e,Cl.on c (b1)⟩) (fun _=>⟨ao,nn,cc,rfl,aH ow (RB.lt hB)⟩) h10 h11 (fun d=>let⟨q,e,c⟩:=h12.out d;⟨q,e,Cl.on c (b1)⟩) (fun d=>let⟨ao,n,c,e,o⟩:=dI.out d;⟨ao,n,c,e,ownsRow_below o (b1)⟩) (fun d=>by have e:=(fJ.out d).2.1;rw[un]at e;cases e)
  ·refine ai rfl fun K HK=>?_;go_simp;exact HK.out _ _ fun _ k=>by apply k<;>first|assumption|exact hidR|(repeat' first|apply Exists.intro|assumption|rfl|apply And.intro|exact fun _=>rfl)
  ·cases h10 (ah 10 hi (by kernel_rfl));have cell:=(MK.out _ hB).2.2.2;refine ai rfl fun K HK=>?_;go_simp;exact HK.out _ _ fun _ k=>by apply k<;>first|assumption|exact hidR|(repeat' first|apply Exists.intro|assumption|rfl|apply And.intro|exact fun _=>rfl)
  ·cases h11 (ah 11 hi (by kernel_rfl));refine ai rfl fun K HK=>?_;go_simp;exact HK.out _ _ fun _ k=>k e15 (RB.alloc hB _) h0 h1 h2 h3 (fun d=>let⟨q,e,c⟩:=h4.out d;⟨q,e,Cl.on c (aq _ (Below.refl _ _))⟩) (fun d=>let⟨ao,n,c,e,o⟩:=h5.out d;⟨ao,n,c,e,ownsRow_below o (aq _ (Below.refl _ _))⟩) h6 h7 (fun d=>let⟨q,e,c⟩:=h8.out d;⟨q,e,Cl.on c (aq _ (Below.refl _ _))⟩) (fun d=>let⟨ao,n,c,e,o⟩:=h9.out d;⟨ao,n,c,e,ownsRow_below o (aq _ (Below.refl _ _))⟩) h10 h11 (fun _=>⟨_,rfl,Cl.new _ _ _⟩) (fun d=>let⟨ao,n,c,e,o⟩:=dI.out d;⟨ao,n,c,e,ownsRow_below o (aq _ (Below.refl _ _))⟩) fJ
  ·have un:f13=false:=hun;obtain⟨Cv,rfl,c12⟩:=h12.out (ah 12 hi (by kernel_rfl));refine ai rfl fun K HK=>?_;go_simp;refine Calls.mono (sI Cv 54 (.slice az ss.length cz) ss w' c12 (RS.out _ hB) (by omega)) ?_;rintro e w1 ⟨ao,nn,cc,rfl,ow,b1⟩;exact HK.out _ _ fun _ k=>k e15 (RB.call hB b1) h0 h1 h2 h3 (fun d=>let⟨q,e,c⟩:=h4.out d;⟨q,e,Cl.on c (b1)⟩) (fun d=>let⟨ao,n,c,e,o⟩:=h5.out d;⟨ao,n,c,e,ownsRow_below o (b1)⟩) h6 h7 (fun d=>let⟨q,e,c⟩:=h8.out d;⟨q,e,Cl.on c (b1)⟩) (fun d=>let⟨ao,n,c,e,o⟩:=h9.out d;⟨ao,n,c,e,ownsRow_below o (b1)⟩) h10 h11 (fun d=>let⟨q,e,c⟩:=h12.out d;⟨q,e,Cl.on c (b1)⟩) (fun _=>⟨ao,nn,cc,rfl,aH ow (RB.lt hB)⟩) (fun d=>by have e:=(fJ.out d).2.2.1;rw[un]at e;cases e)
  ·cases h1 (ah 1 hi (by kernel_rfl));have d5:f5=true:=ah 5 hi (by kernel_rfl);obtain⟨a5,n5,m5,rfl,o5⟩:=h5.out d5;have d9:f9=true:=ah 9 hi (by kernel_rfl);obtain⟨a9,n9,m9,rfl,o9⟩:=h9.out d9;have d13:f13=true:=ah 13 hi (by kernel_rfl);obtain⟨tV,n13,m13,rfl,Tw⟩:=dI.out d13;refine ai rfl fun K HK=>?_;go_simp;exact HK.out _ _ fun _ k=>k e15 hB h0 h1 h2 h3 h4 h5 h6 h7 h8 h9 h10 h11 h12 dI (fun _=>⟨d5,d9,d13,rfl⟩)
 ·intro w' f0 f1 f2 f3 f4 f5 f6 f7 f8 f9 f10 f11 f12 f13 f14 f15 x3 x4 x5 x6 x7 x8 x9 ov tF qu tG tT FC Cu tU e15 hB h0 h1 h2 h3 h4 h5 h6 h7 h8 h9 h10 h11 h12 dI fJ hi;have d14:f14=true:=ah 14 hi (by kernel_rfl);obtain⟨_,_,_,rfl⟩:=fJ.out d14;have d5:f5=true:=ah 5 hi (by kernel_rfl);obtain⟨a5,n5,m5,rfl,o5⟩:=h5.out d5;have d9:f9=true:=ah 9 hi (by kernel_rfl);obtain⟨a9,n9,m9,rfl,o9⟩:=h9.out d9;have d13:f13=true:=ah 13 hi (by kernel_rfl);obtain⟨tV,n13,m13,rfl,Tw⟩:=dI.out d13;clear hi;obtain⟨⟨z0,y0⟩,⟨z1,y1⟩,⟨z2,y2⟩,⟨z3,y3⟩,g0,g1,g2,g3⟩:=hB.four;refine ai rfl fun K HK=>?_;go_simp;refine HK.out _ _ ?_;have KF:Cl ((((w'.setCell ⟨p+1,0,none⟩ (.bool lf)).setCell ⟨p+1,1,none⟩ (.slice a5 n5 m5)).setCell ⟨p+1,2,none⟩ (.slice a9 n9 m9)).setCell ⟨p+1,3,none⟩ (.slice tV n13 m13)) (p+1) #[.bool lf,.slice a5 n5 m5,.slice a9 n9 m9,.slice tV n13 m13] 184:=by
   obtain⟨_,u0,u1,u2,u3,kc⟩:=hB;exact kc.fo _ _ _ _
  have BF:Hid (Below p w ((((w'.setCell ⟨p+1,0,none⟩ (.bool lf)).setCell ⟨p+1,1,none⟩ (.slice a5 n5 m5)).setCell ⟨p+1,2,none⟩ (.slice a9 n9 m9)).setCell ⟨p+1,3,none⟩ (.slice tV n13 m13))):=cU (Tv.out _ hB) (Nat.le_succ p);have OF:Hid (kH p ((((w'.setCell ⟨p+1,0,none⟩ (.bool lf)).setCell ⟨p+1,1,none⟩ (.slice a5 n5 m5)).setCell ⟨p+1,2,none⟩ (.slice a9 n9 m9)).setCell ⟨p+1,3,none⟩ (.slice tV n13 m13)) (.slice a5 n5 m5) (.slice a9 n9 m9) (.slice tV n13 m13) ⟨lf,es,ks,ss⟩):=⟨aH (bE o5 (Nat.lt_succ_self _)) (by omega),aH (bE o9 (Nat.lt_succ_self _)) (by omega),aH (bE Tw (Nat.lt_succ_self _)) (by omega)⟩;generalize World.setCell _ _ _=X at*;obtain⟨k0,k1,k2,k3⟩:=KF.four;clear y0 y1 y2 y3 g0 g1 g2 g3 hB h0 h1 h2 h3 h4 h5 h6 h7 h8 h9 h10 h11 h12 dI fJ;go_wp2;refine bodyPost_ret (v:=.agg #[.bool lf,.slice a5 n5 m5,.slice a9 n9 m9,.slice tV n13 m13]) ?_ rfl ⟨_,_,_,rfl,by rw[hp];exact OF.out,by rw[hp];exact BF.out⟩;rw[bC rfl];go_simp
 ·intro _ _;intros;assumption
end
end N
namespace N
section
attribute [local go_sem ↓] Go.wp_at_zero Go.wp_at_succ
theorem QG (s:ByteArray):#[Value.string s]=flatK encS 1 [s].toArray:=by
 apply Array.ext';have:=bM encS 1 fk [] s;rw[List.nil_append]at this;rw[this];simp[flatK,encS]
theorem Cl.HY {w:World}{q:Nat}{s:ByteArray}{t:TypeId}(h:Cl w q #[.string s] t):Row encS 1 w (.slice (some ⟨q,0,none⟩) 1 1) [s]:=iO h (QG s) rfl
theorem QH (s:Int):#[Value.int .i64 s]=flatK encI 1 [s].toArray:=by
 apply Array.ext';have:=bM encI 1 iR [] s;rw[List.nil_append]at this;rw[this];simp[flatK,encI]
theorem Cl.L6 {w:World}{q:Nat}{s:Int}{t:TypeId}(h:Cl w q #[.int .i64 s] t):Row encI 1 w (.slice (some ⟨q,0,none⟩) 1 1) [s]:=iO h (QH s) rfl
theorem Cl.XH (w:World)(cs:Array Value)(t:TypeId)(o o' o'':Obj):Cl ((((w.alloc o).alloc o').alloc o'').alloc (.cells cs t)) (w.heap.size+3) cs t:=by
 have:=Cl.new (((w.alloc o).alloc o').alloc o'') cs t
 rwa [show(((w.alloc o).alloc o').alloc o'').heap.size=w.heap.size+3 by simp]at this
def OQ (W:World)(p:Nat)(lf:Bool)(key:ByteArray)(vb:Value)(bt:List ByteArray)(qw pJ nM:Option Addr)(qx ck1 nN:Nat)(es1:List En)(iH:List Int)(fK:List ByteArray)(qy qz pK:Option Addr)(qC ck2 pL:Nat)(es2:List En)(iU:List Int)(iI:List ByteArray){y4 y8 y9 wE sK sL y13 tW pN pO sN wF wG:Value}(C:List Bool->Act->Prop)(w:World):Prop:=∀{f0 f1 f2 f3 f4 f5 f6 f7 f8 f9 f10 f11 f12 f13 f14 f15 f16 f17 f18 f19 f20 f21 f22:Bool}{x20 j8 lU kW x24 x25 sO x27 x28 x29 x30 x31 x32 H0 x34 Wh Wi L8 x38 x39 x40 x41:Value},f22=false->(RB W (p+2) 184 w∧Row encS 1 w vb bt)->Hid (f0=true->x20=.pointer (some ⟨p,0,none⟩))->Hid (f1=true->j8=.bool lf)->Hid (f2=true->lU=.pointer (some ⟨p,1,none⟩))->Hid (f3=true->kW=.slice qw es1.length qx)->Hid (f4=true->x24=.pointer (some ⟨p+1,1,none⟩))->Hid (f5=true->x25=.slice qy es2.length qC)->Hid (f6=true->∃qq,sO=.slice (some ⟨qq,0,none⟩) 2 2∧Cl w qq #[.slice qw es1.length qx,.slice qy es2.length qC] 55)->Hid (f7=true->∃ao n c,x27=.slice ao n c∧bc (p+3) w x27 (es1++es2))->Hid (f8=true->x28=.pointer (some ⟨p,2,none⟩))->Hid (f9=true->x29=.slice pJ iH.length ck1)->Hid (f10=true->x30=.pointer (some ⟨p+1,2,none⟩))->Hid (f11=true->x31=.slice qz iU.length ck2)->Hid (f12=true->∃qq,x32=.slice (some ⟨qq,0,none⟩) 2 2∧Cl w qq #[.slice pJ iH.length ck1,.slice qz iU.length ck2] 93)->Hid (f13=true->∃ao n c,H0=.slice ao n c∧dP (p+3) w H0 (iH++iU))->Hid (f14=true->x34=.pointer (some ⟨p,3,none⟩))->Hid (f15=true->Wh=.slice nM fK.length nN)->Hid (f16=true->Wi=vb)->Hid (f17=true->L8=.pointer (some ⟨p+1,3,none⟩))->Hid (f18=true->x38=.slice pK iI.length pL)->Hid (f19=true->∃qq,x39=.slice (some ⟨qq,0,none⟩) 3 3∧Cl w qq #[.slice nM fK.length nN,vb,.slice pK iI.length pL] 54)->Hid (f20=true->∃ao n c,x40=.slice ao n c∧cH (p+3) w x40 (fK++bt++iI))->Hid (f21=true->f7=true∧f13=true∧f20=true∧x41=.agg #[.bool lf,x27,H0,x40])->C [f0,f1,f2,f3,f4,f5,f6,f7,f8,f9,f10,f11,f12,f13,f14,f15,f16,f17,f18,f19,f20,f21,f22] {tmps:=#[.agg #[.bool lf,.slice qw es1.length qx,.slice pJ iH.length ck1,.slice nM fK.length nN],.string key,.agg #[.bool lf,.slice qy es2.length qC,.slice qz iU.length ck2,.slice pK iI.length pL],.pointer (some ⟨p,0,none⟩),y4,.pointer (some ⟨p+1,0,none⟩),.pointer (some ⟨p+2,0,none⟩),vb,y8,y9,wE,sK,sL,y13,tW,pN,pO,sN,wF,wG,x20,j8,lU,kW,x24,x25,sO,x27,x28,x29,x30,x31,x32,H0,x34,Wh,Wi,L8,x38,x39,x40,x41],defers:=[]}
theorem uS:(∀(key:ByteArray) (es1 es2:List En) (iH iU:List Int) (fK iI:List ByteArray) (kX kY vs1 mW mX vs2:Value) (w:World) (h1:im w kX kY vs1 ⟨true,es1,iH,fK⟩) (h2:im w mW mX vs2 ⟨true,es2,iU,iI⟩) (hm1:xE ⟨true,es1,iH,fK⟩) (hm2:xE ⟨true,es2,iU,iI⟩),Calls Tryz.prog 200 #[.agg #[.bool true,kX,kY,vs1],.string key,.agg #[.bool true,mW,mX,vs2]] w fun e w'=>∃zU zV vs',e=.returned (.agg #[.bool true,zU,zV,vs'])∧kH w.heap.size w' zU zV vs' ⟨true,es1++es2,iH++iU,fK++[]++iI⟩∧Below w.heap.size w w')∧
  (∀(key:ByteArray) (es1 es2:List En) (iH iU:List Int) (fK iI:List ByteArray) (kX kY vs1 mW mX vs2:Value) (w:World) (h1:im w kX kY vs1 ⟨false,es1,iH,fK⟩) (h2:im w mW mX vs2 ⟨false,es2,iU,iI⟩) (hm1:xE ⟨false,es1,iH,fK⟩) (hm2:xE ⟨false,es2,iU,iI⟩),Calls Tryz.prog 200 #[.agg #[.bool false,kX,kY,vs1],.string key,.agg #[.bool false,mW,mX,vs2]] w fun e w'=>∃zU zV vs',e=.returned (.agg #[.bool false,zU,zV,vs'])∧kH w.heap.size w' zU zV vs' ⟨false,es1++es2,iH++iU,fK++[key]++iI⟩∧Below w.heap.size w w'):=by
 and_intros
 have jk:=trivial
 rotate_left
 have fu:=trivial
 rotate_left
 all_goals
  intro key es1 es2 iH iU fK iI kX kY vs1 mW mX vs2 w h1 h2 hm1 hm2;obtain⟨he1,hk1,hs1⟩:=h1;obtain⟨he2,hk2,hs2⟩:=h2;obtain⟨s1,s2,s3⟩:=hm1;obtain⟨r1,r2,r3⟩:=hm2;simp only at he1 hk1 hs1 he2 hk2 hs2 s1 s2 s3 r1 r2 r3;obtain⟨qw,qx,rfl,_⟩:=aF he1;obtain⟨pJ,ck1,rfl,_⟩:=aF hk1;obtain⟨nM,nN,rfl,_⟩:=aF hs1;obtain⟨qy,qC,rfl,_⟩:=aF he2;obtain⟨qz,ck2,rfl,_⟩:=aF hk2;obtain⟨pK,pL,rfl,_⟩:=aF hs2
  first
   |have zz:=fu
    have K1:Cl ((((w.alloc (.cells #[.bool false,.slice qw es1.length qx,.slice pJ iH.length ck1,.slice nM fK.length nN] 184)).alloc (.cells #[.bool false,.slice qy es2.length qC,.slice qz iU.length ck2,.slice pK iI.length pL] 184)).alloc (.cells #[.bool false,.slice none 0 0,.slice none 0 0,.slice none 0 0] 184)).alloc (.cells #[.string key] 9)) w.heap.size #[.bool false,.slice qw es1.length qx,.slice pJ iH.length ck1,.slice nM fK.length nN] 184:=(((Cl.lT _ _ _).alloc _).alloc _).alloc _;have K2:Cl ((((w.alloc (.cells #[.bool false,.slice qw es1.length qx,.slice pJ iH.length ck1,.slice nM fK.length nN] 184)).alloc (.cells #[.bool false,.slice qy es2.length qC,.slice qz iU.length ck2,.slice pK iI.length pL] 184)).alloc (.cells #[.bool false,.slice none 0 0,.slice none 0 0,.slice none 0 0] 184)).alloc (.cells #[.string key] 9)) (w.heap.size+1) #[.bool false,.slice qy es2.length qC,.slice qz iU.length ck2,.slice pK iI.length pL] 184:=((Cl.pI _ _ _ _).alloc _).alloc _;have K3:Cl ((((w.alloc (.cells #[.bool false,.slice qw es1.length qx,.slice pJ iH.length ck1,.slice nM fK.length nN] 184)).alloc (.cells #[.bool false,.slice qy es2.length qC,.slice qz iU.length ck2,.slice pK iI.length pL] 184)).alloc (.cells #[.bool false,.slice none 0 0,.slice none 0 0,.slice none 0 0] 184)).alloc (.cells #[.string key] 9)) (w.heap.size+2) #[.bool false,.slice none 0 0,.slice none 0 0,.slice none 0 0] 184:=(Cl.AB _ _ _ _ _).alloc _;have BW:Hid (Below w.heap.size w ((((w.alloc (.cells #[.bool false,.slice qw es1.length qx,.slice pJ iH.length ck1,.slice nM fK.length nN] 184)).alloc (.cells #[.bool false,.slice qy es2.length qC,.slice qz iU.length ck2,.slice pK iI.length pL] 184)).alloc (.cells #[.bool false,.slice none 0 0,.slice none 0 0,.slice none 0 0] 184)).alloc (.cells #[.string key] 9))):=aq _ (aq _ (aq _ (aq _ (Below.refl _ _))));have Uy:Row encS 1 ((((w.alloc (.cells #[.bool false,.slice qw es1.length qx,.slice pJ iH.length ck1,.slice nM fK.length nN] 184)).alloc (.cells #[.bool false,.slice qy es2.length qC,.slice qz iU.length ck2,.slice pK iI.length pL] 184)).alloc (.cells #[.bool false,.slice none 0 0,.slice none 0 0,.slice none 0 0] 184)).alloc (.cells #[.string key] 9)) (.slice (some ⟨w.heap.size+3,0,none⟩) 1 1) [key]:=(Cl.XH _ _ _ _ _ _).HY
   |have K1:Cl (((w.alloc (.cells #[.bool true,.slice qw es1.length qx,.slice pJ iH.length ck1,.slice nM fK.length nN] 184)).alloc (.cells #[.bool true,.slice qy es2.length qC,.slice qz iU.length ck2,.slice pK iI.length pL] 184)).alloc (.cells #[.bool false,.slice none 0 0,.slice none 0 0,.slice none 0 0] 184)) w.heap.size #[.bool true,.slice qw es1.length qx,.slice pJ iH.length ck1,.slice nM fK.length nN] 184:=((Cl.lT _ _ _).alloc _).alloc _
    have K2:Cl (((w.alloc (.cells #[.bool true,.slice qw es1.length qx,.slice pJ iH.length ck1,.slice nM fK.length nN] 184)).alloc (.cells #[.bool true,.slice qy es2.length qC,.slice qz iU.length ck2,.slice pK iI.length pL] 184)).alloc (.cells #[.bool false,.slice none 0 0,.slice none 0 0,.slice none 0 0] 184)) (w.heap.size+1) #[.bool true,.slice qy es2.length qC,.slice qz iU.length ck2,.slice pK iI.length pL] 184:=(Cl.pI _ _ _ _).alloc _;have K3:Cl (((w.alloc (.cells #[.bool true,.slice qw es1.length qx,.slice pJ iH.length ck1,.slice nM fK.length nN] 184)).alloc (.cells #[.bool true,.slice qy es2.length qC,.slice qz iU.length ck2,.slice pK iI.length pL] 184)).alloc (.cells #[.bool false,.slice none 0 0,.slice none 0 0,.slice none 0 0] 184)) (w.heap.size+2) #[.bool false,.slice none 0 0,.slice none 0 0,.slice none 0 0] 184:=Cl.AB _ _ _ _ _;have BW:Hid (Below w.heap.size w (((w.alloc (.cells #[.bool true,.slice qw es1.length qx,.slice pJ iH.length ck1,.slice nM fK.length nN] 184)).alloc (.cells #[.bool true,.slice qy es2.length qC,.slice qz iU.length ck2,.slice pK iI.length pL] 184)).alloc (.cells #[.bool false,.slice none 0 0,.slice none 0 0,.slice none 0 0] 184))):=(aq _ (aq _ (aq _ (Below.refl _ _))));have Uy:Row encS 1 (((w.alloc (.cells #[.bool true,.slice qw es1.length qx,.slice pJ iH.length ck1,.slice nM fK.length nN] 184)).alloc (.cells #[.bool true,.slice qy es2.length qC,.slice qz iU.length ck2,.slice pK iI.length pL] 184)).alloc (.cells #[.bool false,.slice none 0 0,.slice none 0 0,.slice none 0 0] 184)) (.slice none 0 0) []:=wD
  go_enter Tryz.func200,Tryz.ntmps200
  go_wp2_with fail
  first
   |have zz:=fu
    generalize((((w.alloc (.cells #[.bool false,.slice qw es1.length qx,.slice pJ iH.length ck1,.slice nM fK.length nN] 184)).alloc (.cells #[.bool false,.slice qy es2.length qC,.slice qz iU.length ck2,.slice pK iI.length pL] 184)).alloc (.cells #[.bool false,.slice none 0 0,.slice none 0 0,.slice none 0 0] 184)).alloc (.cells #[.string key] 9))=W at*
   |generalize(((w.alloc (.cells #[.bool true,.slice qw es1.length qx,.slice pJ iH.length ck1,.slice nM fK.length nN] 184)).alloc (.cells #[.bool true,.slice qy es2.length qC,.slice qz iU.length ck2,.slice pK iI.length pL] 184)).alloc (.cells #[.bool false,.slice none 0 0,.slice none 0 0,.slice none 0 0] 184))=W at*
  obtain⟨p,hp⟩:∃p,w.heap.size=p:=⟨_,rfl⟩;rw[hp]at K1 K2 K3 BW⊢
  (try rw[hp]at Uy)
  first
   |have zz:=fu
    have RT:Hid (Row encS 1 W.drew (.slice (some ⟨p+3,0,none⟩) 1 1) [key]):=Uy.below (Below.refl _ W).drew
   |have RT:Hid (Row encS 1 W.drew (.slice none 0 0) []):=Uy.below (Below.refl _ W).drew
  have R0:Hid (RB W (p+2) 184 W.drew):=⟨(Below.refl _ W).drew,_,_,_,_,K3⟩;have BX:∀X,RB W (p+2) 184 X->Below p w X:=fun X hX=>BW.out.trans (hX.1.mono (by omega));have RE1:Hid (∀X,RB W (p+2) 184 X->Row aG 2 X (.slice qw es1.length qx) es1):=fun X hX=>he1.below (by rw[hp];exact BX X hX);have Wj:Hid (∀X,RB W (p+2) 184 X->Row encI 1 X (.slice pJ iH.length ck1) iH):=fun X hX=>hk1.below (by rw[hp];exact BX X hX);have Uz:Hid (∀X,RB W (p+2) 184 X->Row encS 1 X (.slice nM fK.length nN) fK):=fun X hX=>hs1.below (by rw[hp];exact BX X hX);have RE2:Hid (∀X,RB W (p+2) 184 X->Row aG 2 X (.slice qy es2.length qC) es2):=fun X hX=>he2.below (by rw[hp];exact BX X hX);have RK2:Hid (∀X,RB W (p+2) 184 X->Row encI 1 X (.slice qz iU.length ck2) iU):=fun X hX=>hk2.below (by rw[hp];exact BX X hX);have Zs:Hid (∀X,RB W (p+2) 184 X->Row encS 1 X (.slice pK iI.length pL) iI):=fun X hX=>hs2.below (by rw[hp];exact BX X hX)
  first
   |have zz:=fu
    have MA:Hid (∀X,RB W (p+2) 184 X->X.cell? ⟨p,0,none⟩=some (.bool false)∧X.cell? ⟨p,1,none⟩=some (.slice qw es1.length qx)∧X.cell? ⟨p,2,none⟩=some (.slice pJ iH.length ck1)∧X.cell? ⟨p,3,none⟩=some (.slice nM fK.length nN)):=fun X hX=>(K1.below hX.1 (by omega)).four;have MB:Hid (∀X,RB W (p+2) 184 X->X.cell? ⟨p+1,0,none⟩=some (.bool false)∧X.cell? ⟨p+1,1,none⟩=some (.slice qy es2.length qC)∧X.cell? ⟨p+1,2,none⟩=some (.slice qz iU.length ck2)∧X.cell? ⟨p+1,3,none⟩=some (.slice pK iI.length pL)):=fun X hX=>(K2.below hX.1 (by omega)).four
   |have MA:Hid (∀X,RB W (p+2) 184 X->X.cell? ⟨p,0,none⟩=some (.bool true)∧X.cell? ⟨p,1,none⟩=some (.slice qw es1.length qx)∧X.cell? ⟨p,2,none⟩=some (.slice pJ iH.length ck1)∧X.cell? ⟨p,3,none⟩=some (.slice nM fK.length nN)):=fun X hX=>(K1.below hX.1 (by omega)).four
    have MB:Hid (∀X,RB W (p+2) 184 X->X.cell? ⟨p+1,0,none⟩=some (.bool true)∧X.cell? ⟨p+1,1,none⟩=some (.slice qy es2.length qC)∧X.cell? ⟨p+1,2,none⟩=some (.slice qz iU.length ck2)∧X.cell? ⟨p+1,3,none⟩=some (.slice pK iI.length pL)):=fun X hX=>(K2.below hX.1 (by omega)).four
  have Tv:Hid (∀X,RB W (p+2) 184 X->Below p w X):=BX;clear he1 hk1 hs1 he2 hk2 hs2 K1 K2 K3 BW BX Uy
  first
   |have zz:=fu
    refine bf 22 (OQ W p false key (.slice (some ⟨p+3,0,none⟩) 1 1) [key] qw pJ nM qx ck1 nN es1 iH fK qy qz pK qC ck2 pL es2 iU iI) (by kernel_rfl) (by kernel_rfl) (by kernel_rfl) (fun _ k=>k rfl ⟨R0.out,RT.out⟩ ar ar ar ar ar ar ar ar ar ar ar ar ar ar ar ar ar ar ar ar ar ar) ?_ ?_ ?_
   |refine bf 22 (OQ W p true key (.slice none 0 0) [] qw pJ nM qx ck1 nN es1 iH fK qy qz pK qC ck2 pL es2 iU iI) (by kernel_rfl) (by kernel_rfl) (by kernel_rfl) (fun _ k=>k rfl ⟨R0.out,RT.out⟩ ar ar ar ar ar ar ar ar ar ar ar ar ar ar ar ar ar ar ar ar ar ar) ?_ ?_ ?_
  ·intro i w' hne f0 f1 f2 f3 f4 f5 f6 f7 f8 f9 f10 f11 f12 f13 f14 f15 f16 f17 f18 f19 f20 f21 f22 x20 j8 lU kW x24 x25 sO x27 x28 x29 x30 x31 x32 H0 x34 Wh Wi L8 x38 x39 x40 x41 e22 hB h0 h1 h2 h3 h4 h5 h6 h7 h8 h9 h10 h11 h12 dI fJ qD h16 AD h18 h19 h20 h21 hi;obtain⟨hlt,hun,_⟩:=aP hi;have hlt':i<23:=hlt;clear hlt;rcases(by omega:i=0∨i=1∨i=2∨i=3∨i=4∨i=5∨i=6∨i=7∨i=8∨i=9∨i=10∨i=11∨i=12∨i=13∨i=14∨i=15∨i=16∨i=17∨i=18∨i=19∨i=20∨i=21)with rfl|rfl|rfl|rfl|rfl|rfl|rfl|rfl|rfl|rfl|rfl|rfl|rfl|rfl|rfl|rfl|rfl|rfl|rfl|rfl|rfl|rfl
   ·refine ai rfl fun K HK=>?_;go_simp;exact HK.out _ _ fun _ k=>by apply k<;>first|assumption|exact hidR|(repeat' first|apply Exists.intro|assumption|rfl|apply And.intro|exact fun _=>rfl)
   ·cases h0 (ah 0 hi (by kernel_rfl));have cell:=(MA.out _ hB.1).1;refine ai rfl fun K HK=>?_;go_simp;exact HK.out _ _ fun _ k=>by apply k<;>first|assumption|exact hidR|(repeat' first|apply Exists.intro|assumption|rfl|apply And.intro|exact fun _=>rfl)
   ·refine ai rfl fun K HK=>?_;go_simp;exact HK.out _ _ fun _ k=>by apply k<;>first|assumption|exact hidR|(repeat' first|apply Exists.intro|assumption|rfl|apply And.intro|exact fun _=>rfl)
   ·cases h2 (ah 2 hi (by kernel_rfl));have cell:=(MA.out _ hB.1).2.1;refine ai rfl fun K HK=>?_;go_simp;exact HK.out _ _ fun _ k=>by apply k<;>first|assumption|exact hidR|(repeat' first|apply Exists.intro|assumption|rfl|apply And.intro|exact fun _=>rfl)
   ·refine ai rfl fun K HK=>?_;go_simp;exact HK.out _ _ fun _ k=>by apply k<;>first|assumption|exact hidR|(repeat' first|apply Exists.intro|assumption|rfl|apply And.intro|exact fun _=>rfl)
   ·cases h4 (ah 4 hi (by kernel_rfl));have cell:=(MB.out _ hB.1).2.1;refine ai rfl fun K HK=>?_;go_simp;exact HK.out _ _ fun _ k=>by apply k<;>first|assumption|exact hidR|(repeat' first|apply Exists.intro|assumption|rfl|apply And.intro|exact fun _=>rfl)
   ·cases h3 (ah 3 hi (by kernel_rfl));cases h5 (ah 5 hi (by kernel_rfl));refine ai rfl fun K HK=>?_;go_simp;exact HK.out _ _ fun _ k=>k e22 ⟨RB.alloc hB.1 _,hB.2.below (aq _ (Below.refl _ _))⟩ h0 h1 h2 h3 h4 h5 (fun _=>⟨_,rfl,Cl.new _ _ _⟩) (fun d=>let⟨ao,n,c,e,o⟩:=h7.out d;⟨ao,n,c,e,ownsRow_below o (aq _ (Below.refl _ _))⟩) h8 h9 h10 h11 (fun d=>let⟨q,e,c⟩:=h12.out d;⟨q,e,Cl.on c (aq _ (Below.refl _ _))⟩) (fun d=>let⟨ao,n,c,e,o⟩:=dI.out d;⟨ao,n,c,e,ownsRow_below o (aq _ (Below.refl _ _))⟩) fJ qD h16 AD h18 (fun d=>let⟨q,e,c⟩:=h19.out d;⟨q,e,Cl.on c (aq _ (Below.refl _ _))⟩) (fun d=>let⟨ao,n,c,e,o⟩:=h20.out d;⟨ao,n,c,e,ownsRow_below o (aq _ (Below.refl _ _))⟩) h21
   ·have un:f7=false:=hun;obtain⟨q6,rfl,c6⟩:=h6.out (ah 6 hi (by kernel_rfl));refine ai rfl fun K HK=>?_;go_simp;refine Calls.mono (Hx q6 55 (.slice qw es1.length qx) (.slice qy es2.length qC) es1 es2 w' c6 (RE1.out _ hB.1) (RE2.out _ hB.1) (by omega)) ?_;rintro e w1 ⟨ao,nn,cc,rfl,ow,b1⟩;exact HK.out _ _ fun _ k=>k e22 ⟨RB.call hB.1 b1,hB.2.below b1⟩ h0 h1 h2 h3 h4 h5 (fun d=>let⟨q,e,c⟩:=h6.out d;⟨q,e,Cl.on c (b1)⟩) (fun _=>⟨ao,nn,cc,rfl,aH ow (RB.lt hB.1)⟩) h8 h9 h10 h11 (fun d=>let⟨q,e,c⟩:=h12.out d;⟨q,e,Cl.on c (b1)⟩) (fun d=>let⟨ao,n,c,e,o⟩:=dI.out d;⟨ao,n,c,e,ownsRow_below o (b1)⟩) fJ qD h16 AD h18 (fun d=>let⟨q,e,c⟩:=h19.out d;⟨q,e,Cl.on c (b1)⟩) (fun d=>let⟨ao,n,c,e,o⟩:=h20.out d;⟨ao,n,c,e,ownsRow_below o (b1)⟩) (fun d=>by have e:=(h21.out d).1;rw[un]at e;cases e)
   ·refine ai rfl fun K HK=>?_;go_simp;exact HK.out _ _ fun _ k=>by apply k<;>first|assumption|exact hidR|(repeat' first|apply Exists.intro|assumption|rfl|apply And.intro|exact fun _=>rfl)
   ·cases h8 (ah 8 hi (by kernel_rfl));have cell:=(MA.out _ hB.1).2.2.1;refine ai rfl fun K HK=>?_;go_simp;exact HK.out _ _ fun _ k=>by apply k<;>first|assumption|exact hidR|(repeat' first|apply Exists.intro|assumption|rfl|apply And.intro|exact fun _=>rfl)
   ·refine ai rfl fun K HK=>?_;go_simp;exact HK.out _ _ fun _ k=>by apply k<;>first|assumption|exact hidR|(repeat' first|apply Exists.intro|assumption|rfl|apply And.intro|exact fun _=>rfl)
   ·cases h10 (ah 10 hi (by kernel_rfl));have cell:=(MB.out _ hB.1).2.2.1;refine ai rfl fun K HK=>?_;go_simp;exact HK.out _ _ fun _ k=>by apply k<;>first|assumption|exact hidR|(repeat' first|apply Exists.intro|assumption|rfl|apply And.intro|exact fun _=>rfl)
   ·cases h9 (ah 9 hi (by kernel_rfl));cases h11 (ah 11 hi (by kernel_rfl));refine ai rfl fun K HK=>?_;go_simp;exact HK.out _ _ fun _ k=>k e22 ⟨RB.alloc hB.1 _,hB.2.below (aq _ (Below.refl _ _))⟩ h0 h1 h2 h3 h4 h5 (fun d=>let⟨q,e,c⟩:=h6.out d;⟨q,e,Cl.on c (aq _ (Below.refl _ _))⟩) (fun d=>let⟨ao,n,c,e,o⟩:=h7.out d;⟨ao,n,c,e,ownsRow_below o (aq _ (Below.refl _ _))⟩) h8 h9 h10 h11 (fun _=>⟨_,rfl,Cl.new _ _ _⟩) (fun d=>let⟨ao,n,c,e,o⟩:=dI.out d;⟨ao,n,c,e,ownsRow_below o (aq _ (Below.refl _ _))⟩) fJ qD h16 AD h18 (fun d=>let⟨q,e,c⟩:=h19.out d;⟨q,e,Cl.on c (aq _ (Below.refl _ _))⟩) (fun d=>let⟨ao,n,c,e,o⟩:=h20.out d;⟨ao,n,c,e,ownsRow_below o (aq _ (Below.refl _ _))⟩) h21
   ·have un:f13=false:=hun;obtain⟨Cv,rfl,c12⟩:=h12.out (ah 12 hi (by kernel_rfl));refine ai rfl fun K HK=>?_;go_simp;refine Calls.mono (Hy Cv 93 (.slice pJ iH.length ck1) (.slice qz iU.length ck2) iH iU w' c12 (Wj.out _ hB.1) (RK2.out _ hB.1) (by omega)) ?_;rintro e w1 ⟨ao,nn,cc,rfl,ow,b1⟩;exact HK.out _ _ fun _ k=>k e22 ⟨RB.call hB.1 b1,hB.2.below b1⟩ h0 h1 h2 h3 h4 h5 (fun d=>let⟨q,e,c⟩:=h6.out d;⟨q,e,Cl.on c (b1)⟩) (fun d=>let⟨ao,n,c,e,o⟩:=h7.out d;⟨ao,n,c,e,ownsRow_below o (b1)⟩) h8 h9 h10 h11 (fun d=>let⟨q,e,c⟩:=h12.out d;⟨q,e,Cl.on c (b1)⟩) (fun _=>⟨ao,nn,cc,rfl,aH ow (RB.lt hB.1)⟩) fJ qD h16 AD h18 (fun d=>let⟨q,e,c⟩:=h19.out d;⟨q,e,Cl.on c (b1)⟩) (fun d=>let⟨ao,n,c,e,o⟩:=h20.out d;⟨ao,n,c,e,ownsRow_below o (b1)⟩) (fun d=>by have e:=(h21.out d).2.1;rw[un]at e;cases e)
   ·refine ai rfl fun K HK=>?_;go_simp;exact HK.out _ _ fun _ k=>by apply k<;>first|assumption|exact hidR|(repeat' first|apply Exists.intro|assumption|rfl|apply And.intro|exact fun _=>rfl)
   ·cases fJ (ah 14 hi (by kernel_rfl));have cell:=(MA.out _ hB.1).2.2.2;refine ai rfl fun K HK=>?_;go_simp;exact HK.out _ _ fun _ k=>by apply k<;>first|assumption|exact hidR|(repeat' first|apply Exists.intro|assumption|rfl|apply And.intro|exact fun _=>rfl)
   ·refine ai rfl fun K HK=>?_;go_simp;exact HK.out _ _ fun _ k=>by apply k<;>first|assumption|exact hidR|(repeat' first|apply Exists.intro|assumption|rfl|apply And.intro|exact fun _=>rfl)
   ·refine ai rfl fun K HK=>?_;go_simp;exact HK.out _ _ fun _ k=>by apply k<;>first|assumption|exact hidR|(repeat' first|apply Exists.intro|assumption|rfl|apply And.intro|exact fun _=>rfl)
   ·cases AD (ah 17 hi (by kernel_rfl));have cell:=(MB.out _ hB.1).2.2.2;refine ai rfl fun K HK=>?_;go_simp;exact HK.out _ _ fun _ k=>by apply k<;>first|assumption|exact hidR|(repeat' first|apply Exists.intro|assumption|rfl|apply And.intro|exact fun _=>rfl)
   ·cases qD (ah 15 hi (by kernel_rfl));cases h16 (ah 16 hi (by kernel_rfl));cases h18 (ah 18 hi (by kernel_rfl));refine ai rfl fun K HK=>?_;go_simp;exact HK.out _ _ fun _ k=>k e22 ⟨RB.alloc hB.1 _,hB.2.below (aq _ (Below.refl _ _))⟩ h0 h1 h2 h3 h4 h5 (fun d=>let⟨q,e,c⟩:=h6.out d;⟨q,e,Cl.on c (aq _ (Below.refl _ _))⟩) (fun d=>let⟨ao,n,c,e,o⟩:=h7.out d;⟨ao,n,c,e,ownsRow_below o (aq _ (Below.refl _ _))⟩) h8 h9 h10 h11 (fun d=>let⟨q,e,c⟩:=h12.out d;⟨q,e,Cl.on c (aq _ (Below.refl _ _))⟩) (fun d=>let⟨ao,n,c,e,o⟩:=dI.out d;⟨ao,n,c,e,ownsRow_below o (aq _ (Below.refl _ _))⟩) fJ qD h16 AD h18 (fun _=>⟨_,rfl,Cl.new _ _ _⟩) (fun d=>let⟨ao,n,c,e,o⟩:=h20.out d;⟨ao,n,c,e,ownsRow_below o (aq _ (Below.refl _ _))⟩) h21
   ·have un:f20=false:=hun;obtain⟨L9,rfl,c19⟩:=h19.out (ah 19 hi (by kernel_rfl));refine ai rfl fun K HK=>?_;go_simp
    first
     |have zz:=fu
      refine Calls.mono (sJ L9 54 (.slice nM fK.length nN) (.slice (some ⟨p+3,0,none⟩) 1 1) (.slice pK iI.length pL) fK [key] iI w' c19 (Uz.out _ hB.1) hB.2 (Zs.out _ hB.1) (by simp only[List.length_singleton];omega)) ?_
     |refine Calls.mono (sJ L9 54 (.slice nM fK.length nN) (.slice none 0 0) (.slice pK iI.length pL) fK [] iI w' c19 (Uz.out _ hB.1) hB.2 (Zs.out _ hB.1) (by simp only[List.length_nil];omega)) ?_
    rintro e w1 ⟨ao,nn,cc,rfl,ow,b1⟩;exact HK.out _ _ fun _ k=>k e22 ⟨RB.call hB.1 b1,hB.2.below b1⟩ h0 h1 h2 h3 h4 h5 (fun d=>let⟨q,e,c⟩:=h6.out d;⟨q,e,Cl.on c (b1)⟩) (fun d=>let⟨ao,n,c,e,o⟩:=h7.out d;⟨ao,n,c,e,ownsRow_below o (b1)⟩) h8 h9 h10 h11 (fun d=>let⟨q,e,c⟩:=h12.out d;⟨q,e,Cl.on c (b1)⟩) (fun d=>let⟨ao,n,c,e,o⟩:=dI.out d;⟨ao,n,c,e,ownsRow_below o (b1)⟩) fJ qD h16 AD h18 (fun d=>let⟨q,e,c⟩:=h19.out d;⟨q,e,Cl.on c (b1)⟩) (fun _=>⟨ao,nn,cc,rfl,aH ow (RB.lt hB.1)⟩) (fun d=>by have e:=(h21.out d).2.2.1;rw[un]at e;cases e)
   ·cases h1 (ah 1 hi (by kernel_rfl));have d7:f7=true:=ah 7 hi (by kernel_rfl);obtain⟨a7,n7,m7,rfl,o7⟩:=h7.out d7;have d13:f13=true:=ah 13 hi (by kernel_rfl);obtain⟨tV,n13,m13,rfl,Tw⟩:=dI.out d13;have d20:f20=true:=ah 20 hi (by kernel_rfl);obtain⟨a20,n20,m20,rfl,XI⟩:=h20.out d20;refine ai rfl fun K HK=>?_;go_simp;exact HK.out _ _ fun _ k=>k e22 hB h0 h1 h2 h3 h4 h5 h6 h7 h8 h9 h10 h11 h12 dI fJ qD h16 AD h18 h19 h20 (fun _=>⟨d7,d13,d20,rfl⟩)
  ·intro w' f0 f1 f2 f3 f4 f5 f6 f7 f8 f9 f10 f11 f12 f13 f14 f15 f16 f17 f18 f19 f20 f21 f22 x20 j8 lU kW x24 x25 sO x27 x28 x29 x30 x31 x32 H0 x34 Wh Wi L8 x38 x39 x40 x41 e22 hB h0 h1 h2 h3 h4 h5 h6 h7 h8 h9 h10 h11 h12 dI fJ qD h16 AD h18 h19 h20 h21 hi;have d21:f21=true:=ah 21 hi (by kernel_rfl);obtain⟨_,_,_,rfl⟩:=h21.out d21;have d7:f7=true:=ah 7 hi (by kernel_rfl);obtain⟨a7,n7,m7,rfl,o7⟩:=h7.out d7;have d13:f13=true:=ah 13 hi (by kernel_rfl);obtain⟨tV,n13,m13,rfl,Tw⟩:=dI.out d13;have d20:f20=true:=ah 20 hi (by kernel_rfl);obtain⟨a20,n20,m20,rfl,XI⟩:=h20.out d20;clear hi;obtain⟨⟨z0,y0⟩,⟨z1,y1⟩,⟨z2,y2⟩,⟨z3,y3⟩,g0,g1,g2,g3⟩:=hB.1.four;refine ai rfl fun K HK=>?_;go_simp;refine HK.out _ _ ?_
   first
    |have zz:=fu
     have KF:Cl ((((w'.setCell ⟨p+2,0,none⟩ (.bool false)).setCell ⟨p+2,1,none⟩ (.slice a7 n7 m7)).setCell ⟨p+2,2,none⟩ (.slice tV n13 m13)).setCell ⟨p+2,3,none⟩ (.slice a20 n20 m20)) (p+2) #[.bool false,.slice a7 n7 m7,.slice tV n13 m13,.slice a20 n20 m20] 184:=by
      obtain⟨⟨_,u0,u1,u2,u3,kc⟩,_⟩:=hB;exact kc.fo _ _ _ _
     have BF:Hid (Below p w ((((w'.setCell ⟨p+2,0,none⟩ (.bool false)).setCell ⟨p+2,1,none⟩ (.slice a7 n7 m7)).setCell ⟨p+2,2,none⟩ (.slice tV n13 m13)).setCell ⟨p+2,3,none⟩ (.slice a20 n20 m20))):=cU (Tv.out _ hB.1) (by omega);have OF:Hid (kH p ((((w'.setCell ⟨p+2,0,none⟩ (.bool false)).setCell ⟨p+2,1,none⟩ (.slice a7 n7 m7)).setCell ⟨p+2,2,none⟩ (.slice tV n13 m13)).setCell ⟨p+2,3,none⟩ (.slice a20 n20 m20)) (.slice a7 n7 m7) (.slice tV n13 m13) (.slice a20 n20 m20) ⟨false,es1++es2,iH++iU,fK++[key]++iI⟩):=⟨aH (bE o7 (Nat.lt_succ_self _)) (by omega),aH (bE Tw (Nat.lt_succ_self _)) (by omega),aH (bE XI (Nat.lt_succ_self _)) (by omega)⟩;generalize World.setCell _ _ _=X at*
    |have KF:Cl ((((w'.setCell ⟨p+2,0,none⟩ (.bool true)).setCell ⟨p+2,1,none⟩ (.slice a7 n7 m7)).setCell ⟨p+2,2,none⟩ (.slice tV n13 m13)).setCell ⟨p+2,3,none⟩ (.slice a20 n20 m20)) (p+2) #[.bool true,.slice a7 n7 m7,.slice tV n13 m13,.slice a20 n20 m20] 184:=by
      obtain⟨⟨_,u0,u1,u2,u3,kc⟩,_⟩:=hB;exact kc.fo _ _ _ _
     have BF:Hid (Below p w ((((w'.setCell ⟨p+2,0,none⟩ (.bool true)).setCell ⟨p+2,1,none⟩ (.slice a7 n7 m7)).setCell ⟨p+2,2,none⟩ (.slice tV n13 m13)).setCell ⟨p+2,3,none⟩ (.slice a20 n20 m20))):=cU (Tv.out _ hB.1) (by omega);have OF:Hid (kH p ((((w'.setCell ⟨p+2,0,none⟩ (.bool true)).setCell ⟨p+2,1,none⟩ (.slice a7 n7 m7)).setCell ⟨p+2,2,none⟩ (.slice tV n13 m13)).setCell ⟨p+2,3,none⟩ (.slice a20 n20 m20)) (.slice a7 n7 m7) (.slice tV n13 m13) (.slice a20 n20 m20) ⟨true,es1++es2,iH++iU,fK++[]++iI⟩):=⟨aH (bE o7 (Nat.lt_succ_self _)) (by omega),aH (bE Tw (Nat.lt_succ_self _)) (by omega),aH (bE XI (Nat.lt_succ_self _)) (by omega)⟩;generalize World.setCell _ _ _=X at*
   obtain⟨k0,k1,k2,k3⟩:=KF.four;clear y0 y1 y2 y3 g0 g1 g2 g3 hB h0 h1 h2 h3 h4 h5 h6 h7 h8 h9 h10 h11 h12 dI fJ qD h16 AD h18 h19 h20 h21;go_wp2
   first
    |have zz:=fu
     refine bodyPost_ret (v:=.agg #[.bool false,.slice a7 n7 m7,.slice tV n13 m13,.slice a20 n20 m20]) ?_ rfl ⟨_,_,_,rfl,by rw[hp];exact OF.out,by rw[hp];exact BF.out⟩
    |refine bodyPost_ret (v:=.agg #[.bool true,.slice a7 n7 m7,.slice tV n13 m13,.slice a20 n20 m20]) ?_ rfl ⟨_,_,_,rfl,by rw[hp];exact OF.out,by rw[hp];exact BF.out⟩
   rw[bC rfl];go_simp
  ·intro _ _;intros;assumption
end
section
attribute [local go_sem ↓] Go.wp_at_zero Go.wp_at_succ
theorem mY {base q:Nat}{w:World}{e t:TypeId}{k:Nat}{v a b c d:Value}{n:Nat}{xs:List Value}{cs:Array Value}(h:w.ownsRow base e k v n xs)(hc:Cl w q cs t)(hne:t≠e):(fo w q a b c d).ownsRow base e k v n xs:=by
 refine⟨h.1,?_⟩;rcases h.2 with h2| ⟨g,cap,cur,hv,hg,hh,r⟩
 ·exact Or.inl h2
 ·refine Or.inr ⟨g,cap,cur,hv,hg,?_,r⟩;have Ty:g≠q:=by
   intro e1;subst e1;unfold Cl at hc;rw[hc]at hh;injection hh with hh;injection hh with h1 h2;exact hne h2
  unfold fo;rw[Below.heap_setCell _ _ _ _ Ty,Below.heap_setCell _ _ _ _ Ty,Below.heap_setCell _ _ _ _ Ty,Below.heap_setCell _ _ _ _ Ty];exact hh
def Eu (w:World)(n:Nd)(e:Ending)(w':World):Prop:=∃ve vk vs,e=.returned (.agg #[.bool n.leaf,ve,vk,vs])∧kH w.heap.size w' ve vk vs n∧Below w.heap.size w w'
theorem yF (key:ByteArray)(a b:Nd)(kX kY vs1 mW mX vs2:Value)(w:World)(h1:im w kX kY vs1 a)(hm1:xE a)(hlf:a.leaf=true)(UA:b.leaf=false):
  Calls Tryz.prog 200 #[.agg #[.bool a.leaf,kX,kY,vs1],.string key,.agg #[.bool b.leaf,mW,mX,vs2]] w (Eu w a):=by
 have BW:Hid (Below w.heap.size w (((w.alloc (.cells #[.bool true,kX,kY,vs1] 184)).alloc (.cells #[.bool false,mW,mX,vs2] 184)).alloc (.cells #[.bool false,.slice none 0 0,.slice none 0 0,.slice none 0 0] 184))):=aq _ (aq _ (aq _ (Below.refl _ _)));have K1:Cl (((w.alloc (.cells #[.bool true,kX,kY,vs1] 184)).alloc (.cells #[.bool false,mW,mX,vs2] 184)).alloc (.cells #[.bool false,.slice none 0 0,.slice none 0 0,.slice none 0 0] 184)) w.heap.size #[.bool true,kX,kY,vs1] 184:=((Cl.lT _ _ _).alloc _).alloc _;have K2:Cl (((w.alloc (.cells #[.bool true,kX,kY,vs1] 184)).alloc (.cells #[.bool false,mW,mX,vs2] 184)).alloc (.cells #[.bool false,.slice none 0 0,.slice none 0 0,.slice none 0 0] 184)) (w.heap.size+1) #[.bool false,mW,mX,vs2] 184:=(Cl.pI _ _ _ _).alloc _;have K3:Cl (((w.alloc (.cells #[.bool true,kX,kY,vs1] 184)).alloc (.cells #[.bool false,mW,mX,vs2] 184)).alloc (.cells #[.bool false,.slice none 0 0,.slice none 0 0,.slice none 0 0] 184)) (w.heap.size+1+1) #[.bool false,.slice none 0 0,.slice none 0 0,.slice none 0 0] 184:=Cl.AB _ _ _ _ _;have C:Hid _:=iT a kX kY vs1 (((w.alloc (.cells #[.bool true,kX,kY,vs1] 184)).alloc (.cells #[.bool false,mW,mX,vs2] 184)).alloc (.cells #[.bool false,.slice none 0 0,.slice none 0 0,.slice none 0 0] 184)) (h1.below BW.out) hm1;rw[hlf]at C;rw[hlf,UA];obtain⟨ae,ce,rfl,_⟩:=aF h1.e;obtain⟨ak,ck,rfl,_⟩:=aF h1.k;obtain⟨az,cz,rfl,_⟩:=aF h1.s;have HL:Hid (a.leaf=true):=hlf;clear h1 hlf UA;go_enter Tryz.func200,Tryz.ntmps200
 go_upto_region 1 with fail
 generalize World.alloc _ _=W at*;obtain⟨p,hp⟩:∃p,w.heap.size=p:=⟨_,rfl⟩;rw[hp]at K1 K2 K3 BW⊢;obtain⟨c0,c1,c2,c3⟩:=K1.four;obtain⟨d0,_,_,_⟩:=K2.four;have l1:=K3.lt;clear K1 K2
 go_wp2_with fail
 refine Calls.mono C.out ?_;rintro e w1 ⟨zU,zV,vs',rfl,O1,B1⟩;obtain⟨av,cv,rfl⟩:=bN O1.e;obtain⟨bv,dv,rfl⟩:=bN O1.k;obtain⟨gv,hv,rfl⟩:=bN O1.s;have K4:Cl w1 (p+1+1) #[.bool false,.slice none 0 0,.slice none 0 0,.slice none 0 0] 184:=K3.on B1;obtain⟨f0,f1,f2,f3⟩:=K4.four;obtain⟨g0,g1,g2,g3⟩:=K4.thaw;have KF:Cl ((((w1.setCell ⟨p+1+1,0,none⟩ (.bool true)).setCell ⟨p+1+1,1,none⟩ (.slice av a.es.length cv)).setCell ⟨p+1+1,2,none⟩ (.slice bv a.ks.length dv)).setCell ⟨p+1+1,3,none⟩ (.slice gv a.ss.length hv)) (p+1+1) #[.bool true,.slice av a.es.length cv,.slice bv a.ks.length dv,.slice gv a.ss.length hv] 184:=K4.fo _ _ _ _;have BF:Hid (Below p w ((((w1.setCell ⟨p+1+1,0,none⟩ (.bool true)).setCell ⟨p+1+1,1,none⟩ (.slice av a.es.length cv)).setCell ⟨p+1+1,2,none⟩ (.slice bv a.ks.length dv)).setCell ⟨p+1+1,3,none⟩ (.slice gv a.ss.length hv))):=cU (BW.out.trans (B1.mono (by omega))) (by omega);have OF:Hid (kH p ((((w1.setCell ⟨p+1+1,0,none⟩ (.bool true)).setCell ⟨p+1+1,1,none⟩ (.slice av a.es.length cv)).setCell ⟨p+1+1,2,none⟩ (.slice bv a.ks.length dv)).setCell ⟨p+1+1,3,none⟩ (.slice gv a.ss.length hv)) (.slice av a.es.length cv) (.slice bv a.ks.length dv) (.slice gv a.ss.length hv) a):=⟨aH (bE O1.e l1) (by omega),aH (bE O1.k l1) (by omega),aH (bE O1.s l1) (by omega)⟩;clear C B1 O1 K3 K4 c0 c1 c2 c3 d0;go_wp2
 (try simp only[Exit.inBlock,Exit.then])
 generalize World.setCell _ _ _=X at*;obtain⟨k0,k1,k2,k3⟩:=KF.four;refine bodyPost_ret (v:=.agg #[.bool true,.slice av a.es.length cv,.slice bv a.ks.length dv,.slice gv a.ss.length hv]) ?_ rfl ⟨_,_,_,by rw[HL.out],by rw[hp];exact OF.out,by rw[hp];exact BF.out⟩;rw[bC rfl];go_simp
theorem wH (key:ByteArray)(a b:Nd)(kX kY vs1 mW mX vs2:Value)(w:World)(h1:im w kX kY vs1 a)(hm1:xE a)(hlf:a.leaf=false)(UA:b.leaf=true):
  Calls Tryz.prog 200 #[.agg #[.bool a.leaf,kX,kY,vs1],.string key,.agg #[.bool b.leaf,mW,mX,vs2]] w (Eu w a):=by
 have BW:Hid (Below w.heap.size w (((w.alloc (.cells #[.bool false,kX,kY,vs1] 184)).alloc (.cells #[.bool true,mW,mX,vs2] 184)).alloc (.cells #[.bool false,.slice none 0 0,.slice none 0 0,.slice none 0 0] 184))):=aq _ (aq _ (aq _ (Below.refl _ _)));have K1:Cl (((w.alloc (.cells #[.bool false,kX,kY,vs1] 184)).alloc (.cells #[.bool true,mW,mX,vs2] 184)).alloc (.cells #[.bool false,.slice none 0 0,.slice none 0 0,.slice none 0 0] 184)) w.heap.size #[.bool false,kX,kY,vs1] 184:=((Cl.lT _ _ _).alloc _).alloc _;have K2:Cl (((w.alloc (.cells #[.bool false,kX,kY,vs1] 184)).alloc (.cells #[.bool true,mW,mX,vs2] 184)).alloc (.cells #[.bool false,.slice none 0 0,.slice none 0 0,.slice none 0 0] 184)) (w.heap.size+1) #[.bool true,mW,mX,vs2] 184:=(Cl.pI _ _ _ _).alloc _;have K3:Cl (((w.alloc (.cells #[.bool false,kX,kY,vs1] 184)).alloc (.cells #[.bool true,mW,mX,vs2] 184)).alloc (.cells #[.bool false,.slice none 0 0,.slice none 0 0,.slice none 0 0] 184)) (w.heap.size+1+1) #[.bool false,.slice none 0 0,.slice none 0 0,.slice none 0 0] 184:=Cl.AB _ _ _ _ _;have C:Hid _:=iT a kX kY vs1 (((w.alloc (.cells #[.bool false,kX,kY,vs1] 184)).alloc (.cells #[.bool true,mW,mX,vs2] 184)).alloc (.cells #[.bool false,.slice none 0 0,.slice none 0 0,.slice none 0 0] 184)) (h1.below BW.out) hm1;rw[hlf]at C;rw[hlf,UA];obtain⟨ae,ce,rfl,_⟩:=aF h1.e;obtain⟨ak,ck,rfl,_⟩:=aF h1.k;obtain⟨az,cz,rfl,_⟩:=aF h1.s;have HL:Hid (a.leaf=false):=hlf;clear h1 hlf UA;go_enter Tryz.func200,Tryz.ntmps200
 go_upto_region 1 with fail
 generalize World.alloc _ _=W at*;obtain⟨p,hp⟩:∃p,w.heap.size=p:=⟨_,rfl⟩;rw[hp]at K1 K2 K3 BW⊢;obtain⟨c0,c1,c2,c3⟩:=K1.four;obtain⟨d0,_,_,_⟩:=K2.four;have l1:=K3.lt;clear K1 K2
 go_wp2_with fail
 refine Calls.mono C.out ?_;rintro e w1 ⟨zU,zV,vs',rfl,O1,B1⟩;obtain⟨av,cv,rfl⟩:=bN O1.e;obtain⟨bv,dv,rfl⟩:=bN O1.k;obtain⟨gv,hv,rfl⟩:=bN O1.s;have K4:Cl w1 (p+1+1) #[.bool false,.slice none 0 0,.slice none 0 0,.slice none 0 0] 184:=K3.on B1;obtain⟨f0,f1,f2,f3⟩:=K4.four;obtain⟨g0,g1,g2,g3⟩:=K4.thaw;have KF:Cl ((((w1.setCell ⟨p+1+1,0,none⟩ (.bool false)).setCell ⟨p+1+1,1,none⟩ (.slice av a.es.length cv)).setCell ⟨p+1+1,2,none⟩ (.slice bv a.ks.length dv)).setCell ⟨p+1+1,3,none⟩ (.slice gv a.ss.length hv)) (p+1+1) #[.bool false,.slice av a.es.length cv,.slice bv a.ks.length dv,.slice gv a.ss.length hv] 184:=K4.fo _ _ _ _;have BF:Hid (Below p w ((((w1.setCell ⟨p+1+1,0,none⟩ (.bool false)).setCell ⟨p+1+1,1,none⟩ (.slice av a.es.length cv)).setCell ⟨p+1+1,2,none⟩ (.slice bv a.ks.length dv)).setCell ⟨p+1+1,3,none⟩ (.slice gv a.ss.length hv))):=cU (BW.out.trans (B1.mono (by omega))) (by omega);have OF:Hid (kH p ((((w1.setCell ⟨p+1+1,0,none⟩ (.bool false)).setCell ⟨p+1+1,1,none⟩ (.slice av a.es.length cv)).setCell ⟨p+1+1,2,none⟩ (.slice bv a.ks.length dv)).setCell ⟨p+1+1,3,none⟩ (.slice gv a.ss.length hv)) (.slice av a.es.length cv) (.slice bv a.ks.length dv) (.slice gv a.ss.length hv) a):=⟨aH (bE O1.e l1) (by omega),aH (bE O1.k l1) (by omega),aH (bE O1.s l1) (by omega)⟩;clear C B1 O1 K3 K4 c0 c1 c2 c3 d0;go_wp2
 (try simp only[Exit.inBlock,Exit.then])
 generalize World.setCell _ _ _=X at*;obtain⟨k0,k1,k2,k3⟩:=KF.four;refine bodyPost_ret (v:=.agg #[.bool false,.slice av a.es.length cv,.slice bv a.ks.length dv,.slice gv a.ss.length hv]) ?_ rfl ⟨_,_,_,by rw[HL.out],by rw[hp];exact OF.out,by rw[hp];exact BF.out⟩;rw[bC rfl];go_simp
theorem H4 {a b:Nd}{key:ByteArray}(h:a.leaf=b.leaf):ji a key b=⟨a.leaf,a.es++b.es,a.ks++b.ks,a.ss++(if a.leaf=true then []else [key])++b.ss⟩:=by unfold ji;rw[if_pos h]
theorem QI {a b:Nd}{key:ByteArray}(h:¬a.leaf=b.leaf):ji a key b=a:=by unfold ji;rw[if_neg h]
theorem Ew (key:ByteArray)(a b:Nd)(kX kY vs1 mW mX vs2:Value)(w:World)(h1:im w kX kY vs1 a)(h2:im w mW mX vs2 b)(hm1:xE a)(hm2:xE b):
  Calls Tryz.prog 200 #[.agg #[.bool a.leaf,kX,kY,vs1],.string key,.agg #[.bool b.leaf,mW,mX,vs2]] w (Eu w (ji a key b)):=by
 by_cases c:a.leaf=b.leaf
 ·rw[H4 c];obtain⟨lf,es1,iH,fK⟩:=a;obtain⟨lg,es2,iU,iI⟩:=b;simp only at c⊢;subst c;cases lf
  ·exact(uS.2 key es1 es2 iH iU fK iI kX kY vs1 mW mX vs2 w h1 h2 hm1 hm2).mono fun e w' h=>h
  ·exact(uS.1 key es1 es2 iH iU fK iI kX kY vs1 mW mX vs2 w h1 h2 hm1 hm2).mono fun e w' h=>h
 ·rw[QI c];cases ha:a.leaf<;>cases hb:b.leaf
  ·rw[ha,hb]at c;exact absurd rfl c
  ·rw[<-ha,<-hb];exact wH key a b kX kY vs1 mW mX vs2 w h1 hm1 ha hb
  ·rw[<-ha,<-hb];exact yF key a b kX kY vs1 mW mX vs2 w h1 hm1 ha hb
  ·rw[ha,hb]at c;exact absurd rfl c
def UB (w0:World)(ao lL zS:Option Addr)(n c n2 c2 p q ff tt:Nat)(x o y:List Int){y4 y5 y6 y7:Value}(C:List Bool->Act->Prop)(w:World):Prop:=∀{f0 f1 f2 f3 f4 f5 f6 f7 f8 f9 f10 f11 f12 f13 f14 f15:Bool}{x9 ov tF qu tG tT FC Cu tU yG tX x20 j8 lU kW:Value},f15=false->Below w0.heap.size w0 w->Hid (f0=true->x9=.slice ao n c)->Hid (f1=true->ov=.int .i64 ff)->Hid (f2=true->tF=.slice ao n c)->Hid (f3=true->qu=.int .i64 n)->Hid (f4=true->tG=.int .i64 p)->Hid (f5=true->tT=.slice ao p c)->Hid (f6=true->FC=.slice lL n2 c2)->Hid (f7=true->Cu=.slice ao n c)->Hid (f8=true->tU=.int .i64 tt)->Hid (f9=true->yG=.slice ao n c)->Hid (f10=true->tX=.int .i64 n)->Hid (f11=true->x20=.int .i64 q)->Hid (f12=true->j8=.slice zS (n-q) (c-q))->Hid (f13=true->∃qq,lU=.slice (some ⟨qq,0,none⟩) 3 3∧Cl w qq #[.slice ao p c,.slice lL n2 c2,.slice zS (n-q) (c-q)] 93)->Hid (f14=true->∃ao n c,kW=.slice ao n c∧dP w0.heap.size w kW (x++o++y))->C [f0,f1,f2,f3,f4,f5,f6,f7,f8,f9,f10,f11,f12,f13,f14,f15] {tmps:=#[.slice ao n c,.int .i64 ff,.int .i64 tt,.slice lL n2 c2,y4,y5,y6,y7,.slice none 0 0,x9,ov,tF,qu,tG,tT,FC,Cu,tU,yG,tX,x20,j8,lU,kW],defers:=[]}
def UC (w0:World)(ao lL zS:Option Addr)(n c n2 c2 p q ff tt:Nat)(x o y:List ByteArray){y4 y5 y6 y7:Value}(C:List Bool->Act->Prop)(w:World):Prop:=∀{f0 f1 f2 f3 f4 f5 f6 f7 f8 f9 f10 f11 f12 f13 f14 f15:Bool}{x9 ov tF qu tG tT FC Cu tU yG tX x20 j8 lU kW:Value},f15=false->Below w0.heap.size w0 w->Hid (f0=true->x9=.slice ao n c)->Hid (f1=true->ov=.int .i64 ff)->Hid (f2=true->tF=.slice ao n c)->Hid (f3=true->qu=.int .i64 n)->Hid (f4=true->tG=.int .i64 p)->Hid (f5=true->tT=.slice ao p c)->Hid (f6=true->FC=.slice lL n2 c2)->Hid (f7=true->Cu=.slice ao n c)->Hid (f8=true->tU=.int .i64 tt)->Hid (f9=true->yG=.slice ao n c)->Hid (f10=true->tX=.int .i64 n)->Hid (f11=true->x20=.int .i64 q)->Hid (f12=true->j8=.slice zS (n-q) (c-q))->Hid (f13=true->∃qq,lU=.slice (some ⟨qq,0,none⟩) 3 3∧Cl w qq #[.slice ao p c,.slice lL n2 c2,.slice zS (n-q) (c-q)] 54)->Hid (f14=true->∃ao n c,kW=.slice ao n c∧cH w0.heap.size w kW (x++o++y))->C [f0,f1,f2,f3,f4,f5,f6,f7,f8,f9,f10,f11,f12,f13,f14,f15] {tmps:=#[.slice ao n c,.int .i64 ff,.int .i64 tt,.slice lL n2 c2,y4,y5,y6,y7,.slice none 0 0,x9,ov,tF,qu,tG,tT,FC,Cu,tU,yG,tX,x20,j8,lU,kW],defers:=[]}
theorem kI:(∀(v vo:Value) (l o:List Int) (fr tr:Nat) (w:World) (h:Row encI 1 w v l) (ho:Row encI 1 w vo o) (hl:l.length<=10000) (hlo:o.length<=10000) (hf:fr<=100000) (ht:tr<=100000),Calls Tryz.prog 165 #[v,.int .i64 fr,.int .i64 tr,vo] w fun e w'=>∃ao n c,e=.returned (.slice ao n c)∧dP w.heap.size w' (.slice ao n c) (iG l fr tr o)∧Below w.heap.size w w')∧
  (∀(v vo:Value) (l o:List ByteArray) (fr tr:Nat) (w:World) (h:Row encS 1 w v l) (ho:Row encS 1 w vo o) (hl:l.length<=10000) (hlo:o.length<=10000) (hf:fr<=100000) (ht:tr<=100000),Calls Tryz.prog 166 #[v,.int .i64 fr,.int .i64 tr,vo] w fun e w'=>∃ao n c,e=.returned (.slice ao n c)∧cH w.heap.size w' (.slice ao n c) (iG l fr tr o)∧Below w.heap.size w w'):=by
 and_intros
 have jk:=trivial
 rotate_left
 have fu:=trivial
 rotate_left
 all_goals
  intro v vo l o fr tr w h ho hl hlo hf ht;obtain⟨ao,c,rfl,hc⟩:=aF h;obtain⟨lL,c2,rfl,hc2⟩:=aF ho
  first
   |have zz:=jk
    have P1:Aside (Row encI 1 w (.slice ao (min fr l.length) c) (l.take (min fr l.length))):=sF (by decide) h _ (by omega);have P2:Aside (Row encI 1 w (.slice lL o.length c2) o):=ho;have P3:Aside (Row encI 1 w _ (l.drop (min tr l.length))):=sG (by decide) h (min tr l.length) (by omega);have e1:=yB ao l.length c (min fr l.length) (by omega);have e2:=yC ao l.length c (min tr l.length) (by omega)
   |have P1:Aside (Row encS 1 w (.slice ao (min fr l.length) c) (l.take (min fr l.length))):=sF (by decide) h _ (by omega)
    have P2:Aside (Row encS 1 w (.slice lL o.length c2) o):=ho;have P3:Aside (Row encS 1 w _ (l.drop (min tr l.length))):=sG (by decide) h (min tr l.length) (by omega);have e1:=yD ao l.length c (min fr l.length) (by omega);have e2:=yE ao l.length c (min tr l.length) (by omega)
  generalize(if c=min tr l.length then ao else ao.map (·.add (min tr l.length*1)))=zS at e2 P3;have t1:l.take (min fr l.length)=l.take fr:=by
   rcases Nat.le_total fr l.length with d|d
   ·rw[Nat.min_eq_left d]
   ·rw[Nat.min_eq_right d,List.take_length,List.take_of_length_le d]
  have t3:l.drop (min tr l.length)=l.drop tr:=by
   rcases Nat.le_total tr l.length with d|d
   ·rw[Nat.min_eq_left d]
   ·rw[Nat.min_eq_right d,List.drop_length,List.drop_of_length_le d]
  rw[t1]at P1;rw[t3]at P3;obtain⟨p,hp⟩:∃p,min fr l.length=p:=⟨_,rfl⟩;obtain⟨q,hq⟩:∃q,min tr l.length=q:=⟨_,rfl⟩;have hpz:min (fr:Int) (l.length:Int)=(p:Int):=by omega
  have hqz:min (tr:Int) (l.length:Int)=(q:Int):=by omega
  rw[hp]at P1 e1;rw[hq]at P3 e2;have Xo:Hid (iG l fr tr o=l.take fr++o++l.drop tr):=rfl;have lx:(l.take fr).length<=10000:=by rw[List.length_take];omega
  have ly:(l.drop tr).length<=10000:=by rw[List.length_drop];omega
  generalize l.take fr=x at*;generalize l.drop tr=y at*;generalize iG l fr tr o=out at*;generalize l.length=n at*;clear t1 t3 h ho hp hq
  first
   |have zz:=jk
    go_enter Tryz.func165,Tryz.ntmps165
   |go_enter Tryz.func166,Tryz.ntmps166
  go_wp2_with fail
  first
   |have zz:=jk
    refine bf 15 (UB w ao lL zS n c o.length c2 p q fr tr x o y) (by kernel_rfl) (by kernel_rfl) (by kernel_rfl) (fun _ k=>k rfl ((Below.refl _ w).drew) ar ar ar ar ar ar ar ar ar ar ar ar ar ar ar) ?_ ?_ ?_
   |refine bf 15 (UC w ao lL zS n c o.length c2 p q fr tr x o y) (by kernel_rfl) (by kernel_rfl) (by kernel_rfl) (fun _ k=>k rfl ((Below.refl _ w).drew) ar ar ar ar ar ar ar ar ar ar ar ar ar ar ar) ?_ ?_ ?_
  ·intro i w' hne f0 f1 f2 f3 f4 f5 f6 f7 f8 f9 f10 f11 f12 f13 f14 f15 x9 ov tF qu tG tT FC Cu tU yG tX x20 j8 lU kW e15 hB h0 h1 h2 h3 h4 h5 h6 h7 h8 h9 h10 h11 h12 dI fJ hi;obtain⟨hlt,hun,_⟩:=aP hi;have hlt':i<16:=hlt;clear hlt;rcases(by omega:i=0∨i=1∨i=2∨i=3∨i=4∨i=5∨i=6∨i=7∨i=8∨i=9∨i=10∨i=11∨i=12∨i=13∨i=14)with rfl|rfl|rfl|rfl|rfl|rfl|rfl|rfl|rfl|rfl|rfl|rfl|rfl|rfl|rfl
   ·refine ai rfl fun K HK=>?_;go_simp;exact HK.out _ _ fun _ k=>by apply k<;>first|assumption|exact hidR|(repeat' first|apply Exists.intro|assumption|rfl|apply And.intro|exact fun _=>rfl)
   ·refine ai rfl fun K HK=>?_;go_simp;exact HK.out _ _ fun _ k=>by apply k<;>first|assumption|exact hidR|(repeat' first|apply Exists.intro|assumption|rfl|apply And.intro|exact fun _=>rfl)
   ·refine ai rfl fun K HK=>?_;go_simp;exact HK.out _ _ fun _ k=>by apply k<;>first|assumption|exact hidR|(repeat' first|apply Exists.intro|assumption|rfl|apply And.intro|exact fun _=>rfl)
   ·cases h2 (ah 2 hi (by kernel_rfl));refine ai rfl fun K HK=>?_;go_simp;exact HK.out _ _ fun _ k=>by apply k<;>first|assumption|exact hidR|(repeat' first|apply Exists.intro|assumption|rfl|apply And.intro|exact fun _=>rfl)
   ·cases h1 (ah 1 hi (by kernel_rfl));cases h3 (ah 3 hi (by kernel_rfl));refine ai rfl fun K HK=>?_;go_simp;exact HK.out _ _ fun _ k=>by apply k<;>first|assumption|exact hidR|(repeat' first|apply Exists.intro|assumption|rfl|apply And.intro|exact fun _=>rfl)
   ·cases h0 (ah 0 hi (by kernel_rfl));cases h4 (ah 4 hi (by kernel_rfl));refine ai rfl fun K HK=>?_;go_simp;exact HK.out _ _ fun _ k=>by apply k<;>first|assumption|exact hidR|(repeat' first|apply Exists.intro|assumption|rfl|apply And.intro|exact fun _=>rfl)
   ·refine ai rfl fun K HK=>?_;go_simp;exact HK.out _ _ fun _ k=>by apply k<;>first|assumption|exact hidR|(repeat' first|apply Exists.intro|assumption|rfl|apply And.intro|exact fun _=>rfl)
   ·refine ai rfl fun K HK=>?_;go_simp;exact HK.out _ _ fun _ k=>by apply k<;>first|assumption|exact hidR|(repeat' first|apply Exists.intro|assumption|rfl|apply And.intro|exact fun _=>rfl)
   ·refine ai rfl fun K HK=>?_;go_simp;exact HK.out _ _ fun _ k=>by apply k<;>first|assumption|exact hidR|(repeat' first|apply Exists.intro|assumption|rfl|apply And.intro|exact fun _=>rfl)
   ·refine ai rfl fun K HK=>?_;go_simp;exact HK.out _ _ fun _ k=>by apply k<;>first|assumption|exact hidR|(repeat' first|apply Exists.intro|assumption|rfl|apply And.intro|exact fun _=>rfl)
   ·cases h9 (ah 9 hi (by kernel_rfl));refine ai rfl fun K HK=>?_;go_simp;exact HK.out _ _ fun _ k=>by apply k<;>first|assumption|exact hidR|(repeat' first|apply Exists.intro|assumption|rfl|apply And.intro|exact fun _=>rfl)
   ·cases h8 (ah 8 hi (by kernel_rfl));cases h10 (ah 10 hi (by kernel_rfl));refine ai rfl fun K HK=>?_;go_simp;exact HK.out _ _ fun _ k=>by apply k<;>first|assumption|exact hidR|(repeat' first|apply Exists.intro|assumption|rfl|apply And.intro|exact fun _=>rfl)
   ·cases h7 (ah 7 hi (by kernel_rfl));cases h11 (ah 11 hi (by kernel_rfl));refine ai rfl fun K HK=>?_;go_simp;exact HK.out _ _ fun _ k=>by apply k<;>first|assumption|exact hidR|(repeat' first|apply Exists.intro|assumption|rfl|apply And.intro|exact fun _=>rfl)
   ·cases h5 (ah 5 hi (by kernel_rfl));cases h6 (ah 6 hi (by kernel_rfl));cases h12 (ah 12 hi (by kernel_rfl));refine ai rfl fun K HK=>?_;go_simp;exact HK.out _ _ fun _ k=>k e15 (aq _ hB) h0 h1 h2 h3 h4 h5 h6 h7 h8 h9 h10 h11 h12 (fun _=>⟨_,rfl,Cl.new _ _ _⟩) (fun d=>let⟨ao,n,c,e,o⟩:=fJ.out d;⟨ao,n,c,e,ownsRow_below o (aq _ (Below.refl _ _))⟩)
   ·obtain⟨gB,rfl,c13⟩:=dI.out (ah 13 hi (by kernel_rfl));refine ai rfl fun K HK=>?_;go_simp
    first
     |have zz:=jk
      refine Calls.mono (Hz gB 93 (.slice ao p c) (.slice lL o.length c2) (.slice zS (n-q) (c-q)) x o y w' c13 (P1.out.below hB) (P2.out.below hB) (P3.out.below hB) (by omega)) ?_
     |refine Calls.mono (sJ gB 54 (.slice ao p c) (.slice lL o.length c2) (.slice zS (n-q) (c-q)) x o y w' c13 (P1.out.below hB) (P2.out.below hB) (P3.out.below hB) (by omega)) ?_
    rintro e w1 ⟨ao,nn,cc,rfl,ow,b1⟩;exact HK.out _ _ fun _ k=>k e15 (jD b1 hB) h0 h1 h2 h3 h4 h5 h6 h7 h8 h9 h10 h11 h12 (fun d=>let⟨q,e,c⟩:=dI.out d;⟨q,e,Cl.on c (b1)⟩) (fun _=>⟨ao,nn,cc,rfl,aH ow hB.size⟩)
  ·intro w' f0 f1 f2 f3 f4 f5 f6 f7 f8 f9 f10 f11 f12 f13 f14 f15 x9 ov tF qu tG tT FC Cu tU yG tX x20 j8 lU kW e15 hB h0 h1 h2 h3 h4 h5 h6 h7 h8 h9 h10 h11 h12 dI fJ hi;have d14:f14=true:=ah 14 hi (by kernel_rfl);obtain⟨a14,n14,m14,rfl,o14⟩:=fJ.out d14;clear hi;refine ai rfl fun K HK=>?_;go_simp;refine HK.out _ _ ?_;clear h0 h1 h2 h3 h4 h5 h6 h7 h8 h9 h10 h11 h12 dI fJ;go_wp2;go_ret;exact⟨_,_,_,rfl,by rw[Xo.out];exact o14,hB⟩
  ·intro _ _;intros;assumption
end
end N
end Go.Proofs.YtdcpfbidcpfboaaGreatDoor
