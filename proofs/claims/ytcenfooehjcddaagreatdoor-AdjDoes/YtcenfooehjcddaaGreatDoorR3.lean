/- Walks of the package cowtree and of what it stands on: lemmas, made short. -/
import Derived.Test.YtcenfooehjcddaaGreatDoorR2
import Derived.Test.YtcenfooehjcddaaGreatDoorR1
import Derived.Orders
import Derived.Deep.RegionHeld3
import Derived.Deep.DrawnRows
import Derived.Deep.Slices
import Derived.ProofKit
import Derived.OpenShut
import Derived.ChangeOld
import Derived.Below
import Derived.ChangeSlices
import Derived.Test.YtcenfooehjcddaaGreatDoorRows
import Derived.WalkKit
import Derived.WalkSpells
import Derived.WalkLawsBesides
import Derived.Laws.OwnMore
import Derived.Laws.LoneSync
import Derived.ChangeMaps4
import Derived.Maps.Keyed
import Derived.BigRegion
import Derived.Maps.AppendAt
import Derived.Deep.RegionLaw
import Derived.Deep.LoopGhost
import Derived.Deep.QuietTactic
import Derived.BigQuiet
import Derived.Laws.ResultCell
set_option maxHeartbeats 16000000
set_option maxRecDepth 100000
set_option linter.unusedVariables false
set_option linter.unusedSimpArgs false
namespace Go.Proofs.YtcenfooehjcddaaGreatDoor
open Go.Shelf Go.RowKit Go.Lib Go.Sort
namespace N
section
structure Nd where
 leaf:Bool
 es:List En
 ks:List Int
 ss:List ByteArray
def nd0:Nd:=⟨false,[],[],[]⟩
def qG (k:Int):Bool:=decide (2<=k∧k<=4294967295)
theorem mZ {k:Int}:qG k=true↔2<=k∧k<=4294967295:=by simp[qG]
def kE (s:ByteArray):En:=(s,⟨#[]⟩)
def Br (ss:List ByteArray):Bool:=im (ss.map kE)
theorem Dy {α β:Type}[Inhabited α][Inhabited β]{f:α->β}{l:List α}{i:Nat}(h:i<l.length):(l.map f)[i]! =f l[i]! :=by
 rw[getElem!_pos (l.map f) i (by simpa using h),getElem!_pos l i h];simp
def Nf (ss:List ByteArray)(i:Nat):Bool:=cJ ss[i]! ⟨#[]⟩&&(i==0||bB ss[i-1]! ss[i]!)
theorem Dz {ss:List ByteArray}{i:Nat}(h:i<ss.length):Dm (ss.map kE) i=Nf ss i:=by
 unfold Dm Nf;rw[Dy h,Dy (show i-1<ss.length by omega)];rfl
theorem Ng {ss:List ByteArray}(h:∀j,j<ss.length->Nf ss j=true):Br ss=true:=
 wQ fun j hj=>by
  have hj':j<ss.length:=by simpa using hj
  rw[Dz hj'];exact h j hj'
theorem IV {ss:List ByteArray}(j:Nat)(hj:j<ss.length)(h:Nf ss j=false):Br ss=false:=
 Bf j (by simpa using hj) (by rw[Dz hj];exact h)
theorem xh {ss:List ByteArray}{i:Nat}{b c:Bool}(h1:cJ ss[i]! ⟨#[]⟩=b)(h2:(i==0||bB ss[i-1]! ss[i]!)=c):Nf ss i=(b&&c):=by
 unfold Nf;rw[h1,h2]
theorem xi {ss:List ByteArray}(h:Br ss=true){s:ByteArray}(hs:s∈ss):1<=s.size∧s.size<=16:=by
 have:=aV.1 ((rg_of h).may (kE s) (List.mem_map_of_mem hs));exact⟨this.1,this.2.1⟩
def G8 (ks:List Int):Bool:=ks.all qG
theorem DA {ks:List Int}(h:∀k∈ks,qG k=true):G8 ks=true:=List.all_eq_true.2 h
theorem IW {ks:List Int}{k:Int}(h:k∈ks)(hk:qG k=false):G8 ks=false:=by
 cases e:G8 ks
 ·rfl
 ·rw[List.all_eq_true.1 e k h]at hk;cases hk
theorem xj {ks:List Int}(h:G8 ks=true){k:Int}(hk:k∈ks):qG k=true:=List.all_eq_true.1 h k hk
def dF (n:Nd):Bool:=
 if n.leaf=true then decide (n.ks.length=0)&&(decide (n.ss.length=0)&&im n.es)
 else decide (n.es.length=0)&&(decide (0<n.ks.length)&&(decide (n.ss.length+1=n.ks.length)&&(G8 n.ks&&Br n.ss)))
theorem fX {n:Nd}(h:n.leaf=true):dF n=true↔n.ks=[]∧n.ss=[]∧Rg n.es:=by
 unfold dF;rw[if_pos h];simp only[Bool.and_eq_true,decide_eq_true_eq,List.length_eq_zero_iff,MN]
theorem fK {n:Nd}(h:n.leaf=false):dF n=true↔n.es=[]∧0<n.ks.length∧n.ss.length+1=n.ks.length∧G8 n.ks=true∧Br n.ss=true:=by
 unfold dF;rw[if_neg (by rw[h];simp)];simp only[Bool.and_eq_true,decide_eq_true_eq,List.length_eq_zero_iff]
def bV:List ByteArray->Nat
 |[]=>0
 |s::l=>5+s.size+bV l
theorem dL (l m:List ByteArray):bV (l++m)=bV l+bV m:=by
 induction l with
 |nil=>simp[bV]
 |cons x l ih=>simp[bV,ih];omega
theorem IX {l:List ByteArray}{i:Nat}(h:i<l.length):bV (l.take (i+1))=bV (l.take i)+(5+l[i]!.size):=by
 rw[List.take_add_one,List.getElem?_eq_getElem h,dL,getElem!_pos l i h];simp[bV]
theorem pG (l:List ByteArray)(i:Nat):bV (l.take i)<=bV l:=by
 have:=dL (l.take i) (l.drop i);rw[List.take_append_drop]at this;omega
theorem vu {l:List ByteArray}{b:Nat}(h:∀x∈l,x.size<=b):bV l<=l.length*(5+b):=by
 induction l with
 |nil=>simp[bV]
 |cons x l ih=>
  have h1:=h x (List.mem_cons_self ..);have h2:=ih fun y hy=>h y (List.mem_cons_of_mem _ hy);simp only[bV,List.length_cons,Nat.add_mul,Nat.one_mul];omega
def dZ (n:Nd):Nat:=if n.leaf=true then cY n.es else 4+bV n.ss
def cF (n:Nd):Bool:=dF n&&decide (dZ n<=240)
abbrev Pk:=ByteArray×Int
def b4 (k:Int):List UInt8:=beBytes 4 k.toNat
theorem fL (k:Int):(b4 k).length=4:=beBytes_length 4 _
def zx:List Pk->List UInt8
 |[]=>[]
 |p::l=>mF p.1++b4 p.2++zx l
theorem sG (l:List Pk):(zx l).length=bV (l.map (·.1)):=by
 induction l with
 |nil=>rfl
 |cons x l ih=>
  simp only[zx,bV,List.length_append,List.map_cons,ih,lV,fL];omega
def nc (k:Int)(ps:List Pk):Nd:=⟨false,[],k::ps.map (·.2),ps.map (·.1)⟩
theorem vx:∀ {ss:List ByteArray} {ks:List Int},ss.length=ks.length->(ss.zip ks).map (·.1)=ss∧(ss.zip ks).map (·.2)=ks
 |[],[],_=>⟨rfl,rfl⟩
 |s::ss,k::ks,h=>by
  have ih:=vx (ss:=ss) (ks:=ks) (by simpa using h);simp[ih.1,ih.2]
theorem oI {n:Nd}(h:dF n=true)(hl:n.leaf=false):∃k ps,n=nc k ps∧qG k=true∧(∀p∈ps,qG p.2=true)∧Br (ps.map (·.1))=true:=by
 obtain⟨h1,h2,h3,h4,h5⟩:=(fK hl).1 h;obtain⟨lf,es,ks,ss⟩:=n;simp only at hl h1 h2 h3 h4 h5;subst hl h1;cases ks with
 |nil=>simp at h2
 |cons k ks=>
  obtain⟨z1,z2⟩:=vx (ss:=ss) (ks:=ks) (by simpa using h3);refine⟨k,ss.zip ks,?_,xj h4 (List.mem_cons_self ..),fun p hp=>?_,by rw[z1];exact h5⟩
  ·unfold nc;rw[z1,z2]
  ·refine xj h4 (List.mem_cons_of_mem _ ?_);have:=List.mem_map_of_mem (f:=(·.2)) hp;rw[z2]at this;exact this
def yw (n:Nd):List UInt8:=if n.leaf=true then za n.es else b4 (n.ks.headD 0)++zx (n.ss.zip n.ks.tail)
theorem xl (k:Int)(ps:List Pk):yw (nc k ps)=b4 k++zx ps:=by
 have:∀l:List Pk,(l.map (·.1)).zip (l.map (·.2))=l:=by
  intro l
  induction l with
  |nil=>rfl
  |cons x l ih=>simp[ih]
 unfold yw nc;simp[this]
theorem ng {n:Nd}(h:n.leaf=true):yw n=za n.es:=by unfold yw;rw[if_pos h]
theorem iq {n:Nd}(h:dF n=true):(yw n).length=dZ n:=by
 cases hl:n.leaf
 ·obtain⟨k,ps,rfl,_⟩:=oI h hl;rw[xl,List.length_append,fL,sG];rfl
 ·rw[ng hl,sq];unfold dZ;rw[if_pos hl]
def yx (n:Nd):Int:=if n.leaf=true then 1 else 2
theorem IY {k:Int}(h:qG k=true):((beNat (b4 k):Nat):Int)=k:=by
 have:=mZ.1 h;unfold b4;rw[dJ 4 _ (by omega)];omega
theorem Qm {l:List UInt8}(h:l.length=4):b4 ((beNat l:Nat):Int)=l:=by
 unfold b4;rw[Int.toNat_natCast];exact jR 4 l h
def jP:List UInt8->Option (Pk×List UInt8)
 |[]=>none
 |c::r=>if r.length<c.toNat+4 then none else some ((⟨(r.take c.toNat).toArray⟩,((beNat ((r.drop c.toNat).take 4):Nat):Int)),r.drop (c.toNat+4))
theorem DB (c:UInt8)(a b r:List UInt8)(h1:c.toNat=a.length)(h2:b.length=4):jP (c::(a++(b++r)))=some ((⟨a.toArray⟩,((beNat b:Nat):Int)),r):=by
 simp only[jP];have e1:¬(a++(b++r)).length<c.toNat+4:=by rw[List.length_append,List.length_append];omega
 have e2:(a++(b++r)).drop c.toNat=b++r:=by rw[h1];simp
 have e3:(a++(b++r)).take c.toNat=a:=by rw[h1];simp
 have e4:(b++r).take 4=b:=by rw[<-h2];simp
 have e5:(a++(b++r)).drop (c.toNat+4)=r:=by rw[<-List.drop_drop,e2,<-h2];simp
 rw[if_neg e1,e2,e3,e4,e5]
theorem IZ {p:Pk}(r:List UInt8)(h1:p.1.size<=255)(h2:qG p.2=true):jP (mF p.1++b4 p.2++r)=some (p,r):=by
 have s1:=Lib.size_eq p.1;have:=DB (UInt8.ofNat p.1.size) p.1.data.toList (b4 p.2) r (by rw[ofNat_size h1];exact s1) (fL _);rw[IY h2]at this;have e:mF p.1++b4 p.2++r=UInt8.ofNat p.1.size::(p.1.data.toList++(b4 p.2++r)):=by simp[mF]
 rw[e,this]
theorem zy {s r:List UInt8}{p:Pk}(h:jP s=some (p,r)):s=mF p.1++b4 p.2++r:=by
 cases s with
 |nil=>simp[jP]at h
 |cons c t=>
  simp only[jP]at h;by_cases h1:t.length<c.toNat+4
  ·rw[if_pos h1]at h;cases h
  ·rw[if_neg h1]at h;cases h;have l1:c.toNat=(t.take c.toNat).length:=by simp;omega
   have l2:((t.drop c.toNat).take 4).length=4:=by simp;omega
   simp only;rw[Qm l2,List.append_assoc,Bj l1,<-List.drop_drop,List.take_append_drop,List.take_append_drop]
theorem oJ {s r:List UInt8}{p:Pk}(h:jP s=some (p,r)):r.length<s.length:=by
 rw[zy h,List.length_append,List.length_append,fL];omega
def Sg:Nat->List UInt8->Option (List Pk)
 |0,s=>if s.isEmpty then some []else none
 |n+1,s=>if s.isEmpty then some []else
  match jP s with
  |none=>none
  |some (x,r)=>(Sg n r).map (x:: ·)
def Fp (s:List UInt8):Option (List Pk):=Sg s.length s
theorem DC:∀(n m:Nat) (s:List UInt8),s.length<=n->s.length<=m->Sg n s=Sg m s
 |0,m,s,h,_=>by
  obtain rfl:s=[]:=List.length_eq_zero_iff.1 (by omega);cases m<;>rfl
 |n+1,0,s,_,h=>by
  obtain rfl:s=[]:=List.length_eq_zero_iff.1 (by omega);rfl
 |n+1,m+1,s,h1,h2=>by
  unfold Sg;cases hs:s.isEmpty
  ·cases ht:jP s with
   |none=>rfl
   |some p=>
    obtain⟨x,r⟩:=p;have:=oJ ht;simp only;rw[DC n m r (by omega) (by omega)]
  ·rfl
theorem DD:Fp []=some []:=rfl
theorem zA {s:List UInt8}(hs:s≠[])(h:jP s=none):Fp s=none:=by
 cases s with
 |nil=>exact absurd rfl hs
 |cons c t=>unfold Fp;simp only[List.length_cons,Sg,h];rfl
theorem sH {s r:List UInt8}{x:Pk}(h:jP s=some (x,r)):Fp s=(Fp r).map (x:: ·):=by
 have hl:=oJ h;cases s with
 |nil=>simp[jP]at h
 |cons c t=>
  unfold Fp;simp only[List.length_cons,Sg,h];rw[DC t.length r.length r (by simpa using Nat.lt_succ_iff.1 hl) (Nat.le_refl _)];rfl
theorem Nh {l:List Pk}(h:∀p∈l,p.1.size<=255∧qG p.2=true):Fp (zx l)=some l:=by
 induction l with
 |nil=>rfl
 |cons x l ih=>
  have h1:=h x (List.mem_cons_self ..);unfold zx;rw[sH (IZ (zx l) h1.1 h1.2),ih fun y hy=>h y (List.mem_cons_of_mem _ hy)];rfl
theorem DF:∀(n:Nat) (s:List UInt8) (l:List Pk),s.length<=n->Fp s=some l->zx l=s
 |n,[],l,_,h=>by rw[DD]at h;cases h;rfl
 |0,c::t,l,hn,_=>by simp at hn
 |n+1,c::t,l,hn,h=>by
  cases hs:jP (c::t)with
  |none=>rw[zA (by simp) hs]at h;cases h
  |some p=>
   obtain⟨x,r⟩:=p;have hl:=oJ hs;rw[sH hs]at h;cases hd:Fp r with
   |none=>rw[hd]at h;cases h
   |some m=>
    rw[hd]at h;cases h;rw[zx,DF n r m (by simp at hn hl⊢;omega) hd,<-zy hs]
def DJ (s:List UInt8):Option Nd:=if s.length<4 then none else(Fp (s.drop 4)).map (nc ((beNat (s.take 4):Nat):Int))
def vz (kind:Int)(s:List UInt8):Option Nd:=
 if 240<s.length then none
 else if kind=1 then(if Fj s=true then some ⟨true,zg s,[],[]⟩else none)
 else if kind=2 then(match DJ s with|none=>none|some n=>if dF n=true then some n else none)
 else none
theorem Ni {s:List UInt8}{n:Nd}(h:DJ s=some n):∃k ps,n=nc k ps∧yw n=s:=by
 unfold DJ at h;by_cases c:s.length<4
 ·rw[if_pos c]at h;cases h
 ·rw[if_neg c]at h;cases hd:Fp (s.drop 4)with
  |none=>rw[hd]at h;cases h
  |some ps=>
   rw[hd]at h;cases h;refine⟨_,ps,rfl,?_⟩;rw[xl,DF _ _ _ (Nat.le_refl _) hd,Qm (by simp;omega),List.take_append_drop]
theorem I0 {k:Int}{ps:List Pk}(hk:qG k=true)(h:∀p∈ps,p.1.size<=255∧qG p.2=true):DJ (yw (nc k ps))=some (nc k ps):=by
 rw[xl];unfold DJ;have e1:(b4 k++zx ps).drop 4=zx ps:=by rw[<-fL k];simp
 have e2:(b4 k++zx ps).take 4=b4 k:=by rw[<-fL k];simp
 rw[if_neg (by rw[List.length_append,fL];omega),e1,e2,Nh h,IY hk];rfl
theorem zB {n:Nd}(h:dF n=true)(hs:dZ n<=240):vz (yx n) (yw n)=some n:=by
 unfold vz;rw[if_neg (by rw[iq h];omega)];cases hl:n.leaf
 ·have ek:yx n=2:=by unfold yx;rw[hl];rfl
  rw[ek,if_neg (by decide),if_pos rfl];obtain⟨k,ps,rfl,h1,h2,h3⟩:=oI h hl;rw[I0 h1 fun p hp=>⟨by have:=xi h3 (List.mem_map_of_mem (f:=(·.1)) hp);omega,h2 p hp⟩];simp only;rw[if_pos h]
 ·have ek:yx n=1:=by unfold yx;rw[hl];rfl
  obtain⟨a,b,c⟩:=(fX hl).1 h;obtain⟨d1,d2⟩:=MV c;rw[ek,if_pos rfl,ng hl,d2,if_pos rfl,d1];obtain⟨lf,es,ks,ss⟩:=n;simp only at hl a b;subst hl a b;rfl
theorem I3 {kind:Int}{s:List UInt8}{n:Nd}(h:vz kind s=some n):dF n=true∧dZ n<=240∧yw n=s∧yx n=kind:=by
 unfold vz at h;by_cases c:240<s.length
 ·rw[if_pos c]at h;cases h
 ·rw[if_neg c]at h;by_cases c1:kind=1
  ·rw[if_pos c1]at h;cases hb:Fj s
   ·rw[hb,if_neg (by simp)]at h;cases h
   ·rw[hb,if_pos rfl]at h;cases h;obtain⟨d1,d2⟩:=Fk hb;have r:dF ⟨true,zg s,[],[]⟩=true:=(fX rfl).2 ⟨rfl,rfl,d1⟩;have e:yw ⟨true,zg s,[],[]⟩=s:=by rw[ng rfl];exact d2
    refine⟨r,?_,e,by rw[c1];rfl⟩;rw[<-iq r,e];omega
  ·rw[if_neg c1]at h;by_cases c2:kind=2
   ·rw[if_pos c2]at h;cases hd:DJ s with
    |none=>rw[hd]at h;cases h
    |some m=>
     rw[hd]at h;simp only at h;cases hr:dF m
     ·rw[hr,if_neg (by simp)]at h;cases h
     ·rw[hr,if_pos rfl]at h;cases h;obtain⟨k,ps,e1,e2⟩:=Ni hd;refine⟨hr,by rw[<-iq hr,e2];omega,e2,?_⟩;rw[c2,e1];rfl
   ·rw[if_neg c2]at h;cases h
def uD (kind:Int)(s:List UInt8):Nd:=(vz kind s).getD nd0
def vA (kind:Int)(s:List UInt8):Bool:=(vz kind s).isSome
end
section
def dD (ss:List ByteArray)(k:ByteArray):Nat:=ss.countP fun s=>!bB k s
def zC (n:Nd):Bool:=dF n&&(decide (2<=n.es.length)||decide (2<=n.ks.length))
def I4 (n:Nd):Nat:=if n.leaf=true then eG n.es else n.ks.length/2
def XK (n:Nd):Nd:=if n.leaf=true then⟨true,n.es.take (I4 n),[],[]⟩else⟨false,[],n.ks.take (I4 n),n.ss.take (I4 n-1)⟩
def YV (n:Nd):Nd:=if n.leaf=true then⟨true,n.es.drop (I4 n),[],[]⟩else⟨false,[],n.ks.drop (I4 n),n.ss.drop (I4 n)⟩
def YW (n:Nd):ByteArray:=if n.leaf=true then n.es[I4 n]!.1 else n.ss[I4 n-1]!
def jo (a:Nd)(k:ByteArray)(b:Nd):Nd:=if a.leaf=b.leaf then⟨a.leaf,a.es++b.es,a.ks++b.ks,a.ss++(if a.leaf=true then []else [k])++b.ss⟩else a
def iJ {α:Type}(l:List α)(f t:Nat)(o:List α):List α:=l.take f++o++l.drop t
def swB (n:Nd)(f t:Int)(ks:List Int)(ss:List ByteArray):Bool:=
 decide (0<=f)&&(decide (t<=n.ks.length)&&(decide (f<t)&&(decide ((ss.length:Int)=max ((ks.length:Int)-1) 0)&& !n.leaf)))
def vB (f:Nat)(ks:List Int):Nat:=if 0<ks.length then f else f-1
def vC (f t:Nat)(ks:List Int):Nat:=if 0<ks.length then t-1 else if 0<f then t-1 else t
def gG (n:Nd)(f t:Int)(ks:List Int)(ss:List ByteArray):Nd:=
 if swB n f t ks ss=true then⟨false,n.es,iJ n.ks f.toNat t.toNat ks,iJ n.ss (vB f.toNat ks) (vC f.toNat t.toNat ks) ss⟩else n
theorem zD {n:Nd}(h:zC n=true)(hl:n.leaf=true):n.ks=[]∧n.ss=[]∧Rg n.es∧2<=n.es.length:=by
 unfold zC at h;rw[Bool.and_eq_true]at h;obtain⟨h1,h2⟩:=h;obtain⟨a,b,c⟩:=(fX hl).1 h1;refine⟨a,b,c,?_⟩;rw[a]at h2;simpa using h2
theorem vD {n:Nd}(h:zC n=true)(hl:n.leaf=false):n.es=[]∧2<=n.ks.length∧n.ss.length+1=n.ks.length∧G8 n.ks=true∧Br n.ss=true:=by
 unfold zC at h;rw[Bool.and_eq_true]at h;obtain⟨h1,h2⟩:=h;obtain⟨a,_,b,c,d⟩:=(fK hl).1 h1;refine⟨a,?_,b,c,d⟩;rw[a]at h2;simpa using h2
end
section
section
variable {P:Program}{ops:Array Oper}{Q:Exit->Act->World->Prop}{md:Region.Mode}
theorem aP {listed:Array Bool}{i:Nat}(h:i∈Region.ready md ops listed):
  i<ops.size∧listed.getD i true=false∧∀o,ops[i]? =some o->(o.after.all fun e=>!Region.binds md e||listed.getD e.on false)=true:=by
 unfold Region.ready at h;rw[List.mem_filter,List.mem_range]at h;obtain⟨h1,h2⟩:=h;rw[Bool.and_eq_true]at h2;refine⟨h1,by simpa using h2.1,fun o ho=>?_⟩;have:=h2.2;rw[ho]at this;simpa using this
def waits (md:Region.Mode)(ops:Array Oper)(i j:Nat):Bool:=match ops[i]? with
 |some o=>o.after.any fun e=>e.on==j&&Region.binds md e
 |none=>false
theorem ah {listed:Array Bool}{i:Nat}(j:Nat)(h:i∈Region.ready md ops listed)(hj:waits md ops i j=true):listed.getD j false=true:=by
 obtain⟨h1,_,h3⟩:=aP h;have Vw:ops[i]? =some ops[i]:=Array.getElem?_eq_getElem h1;have h4:=h3 _ Vw;unfold waits at hj;rw[Vw]at hj;simp only at hj;rw[Array.any_eq_true]at hj;obtain⟨k,hk,hx⟩:=hj;rw[Bool.and_eq_true,beq_iff_eq]at hx;rw[Array.all_eq_true]at h4;have h5:=h4 k hk;rw[hx.2,hx.1]at h5;simpa using h5
def ahead (md:Region.Mode)(ops:Array Oper):Bool:=(List.range ops.size).all fun i=>match ops[i]? with
 |some o=>o.after.all fun e=>!Region.binds md e||decide (e.on<i)
 |none=>true
theorem I5 {listed:Array Bool}(hs:listed.size=ops.size)(ho:ahead md ops=true):∀i,i<ops.size->listed.getD i true=false->Region.ready md ops listed≠[]:=by
 intro i
 induction i using Nat.strongRecOn with
 |ind i ih=>
  intro hi hu;by_cases c:∃j,j<i∧listed.getD j true=false
  ·obtain⟨j,hj,hju⟩:=c;exact ih j hj (by omega) hju
  ·have hm:i∈Region.ready md ops listed:=by
    unfold Region.ready;rw[List.mem_filter,List.mem_range];refine⟨hi,?_⟩;have hoi:ops[i]? =some ops[i]:=Array.getElem?_eq_getElem hi;rw[hu,hoi];have ha:=List.all_eq_true.1 ho i (List.mem_range.2 hi);rw[hoi]at ha;simp only[Option.map_some,Option.getD_some,Bool.not_false,Bool.true_and];rw[Array.all_eq_true]at ha⊢;intro k hk;have hb:=ha k hk;cases hbd:Region.binds md ops[i].after[k]
    ·rfl
    rw[hbd]at hb;have:=of_decide_eq_true (by simpa using hb:decide (ops[i].after[k].on<i)=true);have e:listed.getD ops[i].after[k].on true=true:=by
     cases e:listed.getD ops[i].after[k].on true
     ·exact absurd ⟨_,this,e⟩ c
     ·rfl
    have hlt:ops[i].after[k].on<listed.size:=by omega
    have e2:listed.getD ops[i].after[k].on false=true:=by
     simp only[Array.getD,hlt,dif_pos]at e⊢;exact e
    rw[e2];rfl
   intro e;rw[e]at hm;cases hm
theorem count_set {f:List Bool}{i n:Nat}(hi:i<f.length)(hf:f[i]=false)(hc:f.count false=n+1):(f.set i true).count false=n:=by
 rw[List.count_set hi,hf,hc];simp
theorem vE (ho:ahead md ops=true)(J:List Bool->Act->World->Prop)
  (hstep:∀i f a w,f.length=ops.size->J f a w->i∈Region.ready md ops f.toArray->wpOp P ops Q i (fun a' w'=>J (f.set i true) a' w') a w)
  (hdone:∀a w,J (List.replicate ops.size true) a w->Q .normal a w):
  ∀n f a w,f.length=ops.size->f.count false=n->J f a w->wpAny P md ops Q n f.toArray a w:=by
 intro n
 induction n with
 |zero=>
  intro f a w hl hc hJ;have hall:f=List.replicate ops.size true:=by
   rw[List.eq_replicate_iff];refine⟨hl,fun b hb=>?_⟩;cases b
   ·exact absurd hb (List.count_eq_zero.1 hc)
   ·rfl
  refine⟨?_,hdone a w (hall▸hJ)⟩;rw[List.eq_nil_iff_forall_not_mem];intro i hi;obtain⟨h1,h2,_⟩:=aP hi;rw[hall]at h2;simp[Array.getD]at h2
 |succ n ih=>
  intro f a w hl hc hJ;refine⟨fun e=>?_,fun i hi=>?_⟩
  ·exfalso;have hm:false∈f:=List.count_pos_iff.1 (by omega);obtain⟨i,hi,he⟩:=List.getElem_of_mem hm;refine I5 (md:=md) (listed:=f.toArray) (by simpa using hl) ho i (by omega) ?_ e;simp[Array.getD,hi,he]
  ·obtain⟨h1,h2,_⟩:=aP hi;have hif:i<f.length:=by omega
   have hfi:f[i]=false:=by simpa[Array.getD,hif]using h2
   refine wpOp_mono (fun a' w' h'=>?_) (hstep i f a w hl hJ hi);have:=ih (f.set i true) a' w' (by simpa using hl) (count_set hif hfi hc) h';simpa using this
def Bt (md:Region.Mode)(ops:Array Oper)(L:Nat):Bool:=(List.range ops.size).all fun i=>i==L||match ops[L]? with
 |some o=>o.after.any fun e=>e.on==i&&Region.binds md e
 |none=>false
theorem I6 {f:List Bool}{L:Nat}(hl:f.length=ops.size)(hL:Bt md ops L=true)(h:L∈Region.ready md ops f.toArray):f.set L true=List.replicate ops.size true:=by
 obtain⟨h1,h2,h3⟩:=aP h;have Vw:ops[L]? =some ops[L]:=Array.getElem?_eq_getElem h1;have h4:=h3 _ Vw;refine List.eq_replicate_iff.2 ⟨by simpa using hl,fun b hb=>?_⟩;obtain⟨i,hi,rfl⟩:=List.getElem_of_mem hb;rw[List.getElem_set];by_cases c:L=i
 ·rw[if_pos c]
 ·rw[if_neg c];have hi':i<f.length:=by simpa using hi
  have hx:=List.all_eq_true.1 hL i (List.mem_range.2 (by omega));rw[Vw]at hx;simp only[Bool.or_eq_true,beq_iff_eq]at hx;rcases hx with hx|hx
  ·exact absurd hx.symm c
  ·rw[Array.any_eq_true]at hx;obtain⟨k,hk,hx⟩:=hx;rw[Bool.and_eq_true,beq_iff_eq]at hx;rw[Array.all_eq_true]at h4;have h5:=h4 k hk;rw[hx.2,hx.1]at h5;simpa[Array.getD,hi']using h5
theorem Bu {id:Nat}{a:Act}{w:World}(L:Nat)(J:List Bool->Act->World->Prop)(hm:P.follows .mixedOrders=true)(ho:ahead .any ops=true)(hL:Bt .any ops L=true)
  (h0:J (List.replicate ops.size false) a w.drew)
  (hstep:∀i f a w,i≠L->f.length=ops.size->J f a w->i∈Region.ready .any ops f.toArray->wpOp P ops Q i (fun a' w'=>J (f.set i true) a' w') a w)
  (hlast:∀f a w,f.length=ops.size->J f a w->L∈Region.ready .any ops f.toArray->wpOp P ops Q L (fun a' w'=>Q .normal a' w') a w)
  (hJ:∀f a w,J f a w->f.getD L true=false):(Code.region id ops true).wp P Q a w:=by
 refine wp_region_any hm ?_;have key:=vE (P:=P) (Q:=Q) (md:=.any) ho (fun f a w=>J f a w∨(f=List.replicate ops.size true∧Q .normal a w)) (fun i f a w hl hj hi=>?_) (fun a w hj=>?_) ops.size (List.replicate ops.size false) a w.drew (by simp) (by simp) (Or.inl h0)
 ·simpa using key
 ·rcases hj with hj| ⟨rfl,_⟩
  ·by_cases c:i=L
   ·subst c;exact wpOp_mono (fun a' w' h'=>Or.inr ⟨I6 hl hL hi,h'⟩) (hlast f a w hl hj hi)
   ·exact wpOp_mono (fun a' w' h'=>Or.inl h') (hstep i f a w c hl hj hi)
  ·exfalso;obtain⟨h1,h2,_⟩:=aP hi;simp[Array.getD]at h2
 ·rcases hj with hj| ⟨_,hj⟩
  ·exfalso;have:=hJ _ _ _ hj;rw[List.getD_eq_getElem?_getD,List.getElem?_replicate]at this;split at this<;>simp at this
  ·exact hj
section
def Ch (K:(List Bool->Act->Prop)->World->Prop)(f:List Bool)(a:Act)(w:World):Prop:=∀C,K C w->C f a
theorem hidR {α:Sort _}{a:α}{p:Prop}:Hid (p->a=a):=fun _=>rfl
theorem ar {p:Prop}:Hid (false=true->p):=fun h=>by cases h
theorem ai {P:Program}{ops:Array Oper}{Q:Exit->Act->World->Prop}{i:Nat}{o:Oper}{K:Act->World->Prop}{a:Act}{w:World}(ho:ops[i]? =some o)(h:∀K':Act->World->Prop,Shut (∀a w,K a w->K' a w)->if Region.wanted o (yielded ops a.tmps)=true then Oper.wp P o a w K' Q else K' (a.put o.dst undef) w):wpOp P ops Q i K a w:=wpOp_step ho h
theorem bc {P:Program}{ops:Array Oper}{Q:Exit->Act->World->Prop}{id:Nat}{a:Act}{w:World}(L:Nat)(K:(List Bool->Act->Prop)->World->Prop)(hm:P.follows .mixedOrders=true)(ho:ahead .any ops=true)(hL:Bt .any ops L=true)(h0:Ch K (List.replicate ops.size false) a w.drew)
  (hstep:∀i w,i≠L->K (fun f a=>i∈Region.ready .any ops f.toArray->wpOp P ops Q i (fun a' w'=>Ch K (f.set i true) a' w') a w) w)
  (hlast:∀w,K (fun f a=>L∈Region.ready .any ops f.toArray->wpOp P ops Q L (fun a' w'=>Q .normal a' w') a w) w)
  (hJ:∀w,K (fun f _=>f.getD L true=false) w):(Code.region id ops true).wp P Q a w:=
 Bu L (Ch K) hm ho hL h0 (fun i _ _ w hne _ hj=>hj _ (hstep i w hne)) (fun _ _ w _ hj=>hj _ (hlast w)) (fun _ _ w hj=>hj _ (hJ w))
end
end
end
section
def encI (n:Int):List Value:=[.int .i64 n]
theorem iV (n:Int):(encI n).length=1:=rfl
theorem zE (n:Int):∀v∈encI n,v.oneCell'=true:=fun v hv=>by simp[encI]at hv;subst hv;rfl
theorem qH:(Tryz.prog.info? 3).map (fun i=>(i.zero,i.size,i.bytes))=some (some (.int .i64 0),1,8):=by kernel_rfl
abbrev dB (base:Nat)(W:World)(v:Value)(l:List Int):Prop:=W.ownsRow base 3 1 v l.length (flatK encI 1 l.toArray).toList
section
variable {α:Type}[Inhabited α]{enc:α->List Value}{k:Nat}{w w':World}{v:Value}{l:List α}
theorem aG (h:Row enc k w v l):∃ao c,v=.slice ao l.length c∧l.length<=c:=by
 obtain⟨ao,cap,rfl,h1,_⟩:=h;exact⟨ao,cap,rfl,h1⟩
theorem xn:Row enc k w (.slice none 0 0) ([]:List α):=(Own.nil (base:=0)).row
theorem DK (hk0:0<k){ao:Option Addr}{n c:Nat}(h:Row enc k w (.slice ao n c) l)(i j m:Nat)(hm:j=i+m)(hj:j<=l.length)(cT:Option Addr)(hao:∀b off,ao=some ⟨b,off,none⟩->m≠0->cT=some ⟨b,off+i*k,none⟩)(c':Nat)(hc:m<=c')(hz:cT=none->c'=0):
  Row enc k w (.slice cT m c') ((l.drop i).take m):=by
 obtain⟨um,cap,e,h1,h2,h3⟩:=h;cases e;have hlen:((l.drop i).take m).length=m:=by simp;omega
 refine⟨cT,c',by rw[hlen],by rw[hlen];exact hc,hz,fun hne=>?_⟩;have hm0:m≠0:=by intro e;subst e;simp at hne
 obtain⟨b,off,e,hlt,hcell⟩:=h3 (by intro e;subst e;simp at hj;omega);refine⟨b,off+i*k,hao b off e hm0,hlt,fun t ht=>?_⟩;rw[hlen]at ht;have hlk:i*k+t<l.length*k:=by
  have h5:i*k+m*k=j*k:=by rw[hm,Nat.add_mul]
  have h6:j*k<=l.length*k:=Nat.mul_le_mul_right k hj;omega
 have htk:t/k<m:=(Nat.div_lt_iff_lt_mul hk0).2 ht;rw[Nat.add_assoc,hcell (i*k+t) hlk,get_flatK _ _ _ _ (by simpa using hlk),get_flatK _ _ _ _ (by rw[List.size_toArray,hlen];exact ht)];have e1:(i*k+t)/k=i+t/k:=by rw[Nat.mul_comm,Nat.mul_add_div hk0]
 have e2:(i*k+t)%k=t%k:=by rw[Nat.mul_comm,Nat.mul_add_mod]
 rw[e1,e2,getElem!_pos l.toArray (i+t/k) (by simp;omega),getElem!_pos ((l.drop i).take m).toArray (t/k) (by simp;omega)];simp
theorem sI (hk0:0<k){ao:Option Addr}{n c:Nat}(h:Row enc k w (.slice ao n c) l)(i:Nat)(hi:i<=l.length):Row enc k w (.slice ao i c) (l.take i):=by
 have e:=h;obtain⟨um,cap,e1,h1,h2,h3⟩:=e;cases e1;have:=DK hk0 h 0 i i (by omega) hi ao (fun b off e _=>by rw[e];simp) c (by omega) h2;simpa using this
theorem sJ (hk0:0<k){ao:Option Addr}{n c:Nat}(h:Row enc k w (.slice ao n c) l)(i:Nat)(hi:i<=l.length):Row enc k w (.slice (if c=i then ao else ao.map (·.add (i*k))) (n-i) (c-i)) (l.drop i):=by
 have e:=h;obtain⟨um,cap,e1,h1,h2,h3⟩:=e;cases e1;have:=DK hk0 h i l.length (l.length-i) (by omega) (Nat.le_refl _) (if c=i then ao else ao.map (·.add (i*k))) (fun b off e hm=>by
  rw[if_neg (by omega),e]
  show some (Addr.add ⟨b,off,none⟩ (i*k))=_
  rw[Go.WideShapes.add_plain]) (c-i) (by omega) (fun e=>by
  by_cases c1:c=i
  ·omega
  ·rw[if_neg c1]at e
   have:ao=none:=by cases ao with
    |none=>rfl
    |some a=>simp at e
   have:=h2 this
   omega)
 rwa [List.take_of_length_le (by simp)]at this
end
theorem nh {w wr:World}{ao:Option Addr}{l:List Int}(h3:l≠[]->∃b off,ao=some ⟨b,off,none⟩∧b<w.heap.size∧cx encI 1 w b off l)(i:Nat)(hi:i<l.length)(hb:Below w.heap.size w wr):
  ∃b off,ao=some ⟨b,off,none⟩∧b<w.heap.size∧wr.cell? ⟨b,off+i,none⟩=some (.int .i64 l[i]!):=by
 obtain⟨b,off,e,hlt,hc⟩:=h3 (by intro h;rw[h]at hi;simp at hi);refine⟨b,off,e,hlt,?_⟩;rw[hb.cell (p:=⟨b,off+i,none⟩) hlt,hc i (by omega),get_flatK _ _ _ _ (by simp;omega),show i/1=i by omega,show i%1=0 by omega];simp[encI]
theorem kS {w wr:World}{ao:Option Addr}{l:List ByteArray}(h3:l≠[]->∃b off,ao=some ⟨b,off,none⟩∧b<w.heap.size∧cx encS 1 w b off l)(i:Nat)(hi:i<l.length)(hb:Below w.heap.size w wr):
  ∃b off,ao=some ⟨b,off,none⟩∧b<w.heap.size∧wr.cell? ⟨b,off+i,none⟩=some (.string l[i]!):=by
 obtain⟨b,off,e,hlt,hc⟩:=h3 (by intro h;rw[h]at hi;simp at hi);refine⟨b,off,e,hlt,?_⟩;rw[hb.cell (p:=⟨b,off+i,none⟩) hlt,hc i (by omega),get_flatK _ _ _ _ (by simp;omega),show i/1=i by omega,show i%1=0 by omega];simp[encS]
theorem bL {base:Nat}{w:World}{e:TypeId}{k:Nat}{v:Value}{n:Nat}{xs:List Value}(h:w.ownsRow base e k v n xs):∃ao c,v=.slice ao n c:=by
 rcases h.2 with⟨h,h2⟩| ⟨g,cap,cur,h,_⟩
 ·rw[h2];exact⟨_,_,h⟩
 ·exact⟨_,_,h⟩
theorem aH {base base':Nat}{w:World}{e:TypeId}{k:Nat}{v:Value}{n:Nat}{xs:List Value}(h:w.ownsRow base e k v n xs)(hb:base'<=base):w.ownsRow base' e k v n xs:=by
 refine⟨h.1,?_⟩;rcases h.2 with h2| ⟨g,cap,cur,hv,hg,r⟩
 ·exact Or.inl h2
 ·exact Or.inr ⟨g,cap,cur,hv,Nat.le_trans hb hg,r⟩
theorem j8 {base:Nat}{W:World}{e:TypeId}{k:Nat}{v:Value}{n:Nat}{xs:List Value}(h:W.ownsRow base e k v n xs):∀r,v.ownBlock=some r->base<=r:=by
 intro r hk;rcases fJ h with hr| ⟨r,hr,hle⟩
 ·rw[hr]at hk;cases hk
 ·rw[hr]at hk;cases hk;exact hle
theorem I7 {base:Nat}{w:World}{v u:Value}{l m:List En}(ty:TypeId)(h:bp base w v l)(hu:Row ax 2 w u m)(hl:l.length+m.length<1000000)(hbase:base<=w.heap.size):
  ∃ao n c w',(Builtin.append_ #[49,49] ty #[v,u]).run Tryz.prog w=.ok (.slice ao n c) w'∧bp base w' (.slice ao n c) (l++m)∧(∀w0,Below base w0 w->Below base w0 w'):=by
 obtain⟨i0,hi,hz0,hz1,hz2⟩:=info_parts fV;have ht:=Tryz.underlying49;obtain⟨ao,cap,rfl,h1,h2,h3⟩:=hu;cases ao with
 |none=>
  have hm:m=[]:=by
   rcases List.eq_nil_or_concat m with e1| ⟨m',y,e1⟩
   ·exact e1
   ·obtain⟨b,off,e2,_⟩:=h3 (by rw[e1];simp);cases e2
  subst hm;have hc0:=h2 rfl;subst hc0;obtain⟨av,cv,rfl⟩:=bL h;exact⟨_,_,_,w,run_append_owned_none (P:=Tryz.prog) w base _ ty _ i0 2 ht hi _ _ _ h,by rw[List.append_nil];exact h,fun _ hb=>hb⟩
 |some ad=>
  obtain⟨v',w',hr,g1,g2,_⟩:=run_append_own (P:=Tryz.prog) w base 49 ty 96 i0 _ 2 32 ht hi hz0 hz1 hz2 rfl (by decide) v _ _ h ad m.length cap (flatK ax 2 m.toArray).toList (by simp) (fun j u hj=>by
   obtain⟨hj1,hj2⟩:=List.getElem?_eq_some_iff.1 hj
   have lQ:j<m.length*2:=by simpa using hj1
   obtain⟨b,off,e2,_,hc⟩:=h3 (by intro e;rw[e]at lQ;simp at lQ)
   cases e2
   rw[Go.WideShapes.add_plain,hc j lQ,getElem!_pos _ j (by simpa using lQ),<-hj2]
   simp) (dt fh cD) (by unfold maxLen;omega) (by omega) hbase
  obtain⟨av,cv,rfl⟩:=bL g1;refine⟨_,_,_,w',hr,?_,fun w0 hb=>hb.grown g2 hbase fun k hk=>j8 h k hk⟩;show w'.ownsRow base 96 2 _ (l++m).length (flatK ax 2 (l++m).toArray).toList;rw[List.length_append,cj ax 2 cD];exact g1
theorem YX {ops:Array Oper}{rest:List Oper}{o:Oper}{a:Act}{Q:Exit->Act->World->Prop}{w:World}(hgd:o.guard=.none)(s x:Operand)
  (ho:o.op=.call {callee:=.builtin .append,args:=#[s,x],argTypes:=#[49,49]})(base:Nat)(v:Value)(l:List En)(hs:a.eval s=v)(hown:bp base w v l)
  (u:Value)(m:List En)(hx:a.eval x=u)(hu:Row ax 2 w u m)(hl:l.length+m.length<1000000)(hbase:base<=w.heap.size)(lm:List En)(hlm:l++m=lm)
  (h:∀ao n c w',bp base w' (.slice ao n c) lm->(∀w0,Below base w0 w->Below base w0 w')->wpList Tryz.prog ops Q rest (a.put o.dst (.slice ao n c)) w'):wpList Tryz.prog ops Q (o::rest) a w:=by
 subst hlm;refine wpList_plain hgd fun K hK'=>?_;obtain⟨ao,n,c,w',hrun,h1,h2⟩:=I7 o.type hown hu hl hbase;unfold Oper.wp;simp[execOp,ho,resolve,invoke,builtin,hs,hx,hrun,Result.andThen];exact hK' _ _ (h ao n c w' h1 h2)
theorem I8 {base:Nat}{w:World}{v u:Value}{l m:List Int}(ty:TypeId)(h:dB base w v l)(hu:Row encI 1 w u m)(hl:l.length+m.length<1000000)(hbase:base<=w.heap.size):
  ∃ao n c w',(Builtin.append_ #[85,85] ty #[v,u]).run Tryz.prog w=.ok (.slice ao n c) w'∧dB base w' (.slice ao n c) (l++m)∧(∀w0,Below base w0 w->Below base w0 w'):=by
 obtain⟨i0,hi,hz0,hz1,hz2⟩:=info_parts qH;have ht:=Tryz.underlying85;obtain⟨ao,cap,rfl,h1,h2,h3⟩:=hu;cases ao with
 |none=>
  have hm:m=[]:=by
   rcases List.eq_nil_or_concat m with e1| ⟨m',y,e1⟩
   ·exact e1
   ·obtain⟨b,off,e2,_⟩:=h3 (by rw[e1];simp);cases e2
  subst hm;have hc0:=h2 rfl;subst hc0;obtain⟨av,cv,rfl⟩:=bL h;exact⟨_,_,_,w,run_append_owned_none (P:=Tryz.prog) w base _ ty _ i0 1 ht hi _ _ _ h,by rw[List.append_nil];exact h,fun _ hb=>hb⟩
 |some ad=>
  obtain⟨v',w',hr,g1,g2,_⟩:=run_append_own (P:=Tryz.prog) w base 85 ty 3 i0 _ 1 8 ht hi hz0 hz1 hz2 rfl (by decide) v _ _ h ad m.length cap (flatK encI 1 m.toArray).toList (by simp) (fun j u hj=>by
   obtain⟨hj1,hj2⟩:=List.getElem?_eq_some_iff.1 hj
   have lQ:j<m.length*1:=by simpa using hj1
   obtain⟨b,off,e2,_,hc⟩:=h3 (by intro e;rw[e]at lQ;simp at lQ)
   cases e2
   rw[Go.WideShapes.add_plain,hc j lQ,getElem!_pos _ j (by simpa using lQ),<-hj2]
   simp) (dt zE iV) (by unfold maxLen;omega) (by omega) hbase
  obtain⟨av,cv,rfl⟩:=bL g1;refine⟨_,_,_,w',hr,?_,fun w0 hb=>hb.grown g2 hbase fun k hk=>j8 h k hk⟩;show w'.ownsRow base 3 1 _ (l++m).length (flatK encI 1 (l++m).toArray).toList;rw[List.length_append,cj encI 1 iV];exact g1
theorem Sh {ops:Array Oper}{rest:List Oper}{o:Oper}{a:Act}{Q:Exit->Act->World->Prop}{w:World}(hgd:o.guard=.none)(s x:Operand)
  (ho:o.op=.call {callee:=.builtin .append,args:=#[s,x],argTypes:=#[85,85]})(base:Nat)(v:Value)(l:List Int)(hs:a.eval s=v)(hown:dB base w v l)
  (u:Value)(m:List Int)(hx:a.eval x=u)(hu:Row encI 1 w u m)(hl:l.length+m.length<1000000)(hbase:base<=w.heap.size)(lm:List Int)(hlm:l++m=lm)
  (h:∀ao n c w',dB base w' (.slice ao n c) lm->(∀w0,Below base w0 w->Below base w0 w')->wpList Tryz.prog ops Q rest (a.put o.dst (.slice ao n c)) w'):wpList Tryz.prog ops Q (o::rest) a w:=by
 subst hlm;refine wpList_plain hgd fun K hK'=>?_;obtain⟨ao,n,c,w',hrun,h1,h2⟩:=I8 o.type hown hu hl hbase;unfold Oper.wp;simp[execOp,ho,resolve,invoke,builtin,hs,hx,hrun,Result.andThen];exact hK' _ _ (h ao n c w' h1 h2)
theorem Vx:Tryz.prog.underlying 85=some (.slice (Tryz.prog.elem 85)):=by kernel_rfl
theorem Vy (u:World):(sizeOf (Tryz.prog.elem 85)).run Tryz.prog u=.ok 1 u:=by kernel_rfl
theorem zF (ao:Option Addr)(n c k:Nat)(hk:k<=c)(u:World):(Instr.slice 85 (.slice ao n c) none (some (.int .i64 (k:Int))) none).run Tryz.prog u=.ok (.slice ao k c) u:=by
 rw[run_slice_h u 85 ao n c Vx .i64 k (by omega) (by omega),Vy];simp only[Result.andThen,sliced,Int.toNat_natCast];cases ao<;>simp[add0]
theorem zG (ao:Option Addr)(n c k:Nat)(hk:k<=n)(u:World):(Instr.slice 85 (.slice ao n c) (some (.int .i64 (k:Int))) none none).run Tryz.prog u=.ok (.slice (if c=k then ao else ao.map (·.add (k*1))) (n-k) (c-k)) u:=by
 rw[run_slice_l u 85 ao n c Vx .i64 k (by omega) (by omega),Vy];simp[Result.andThen,sliced]
theorem Ja {base:Nat}{w:World}{v u:Value}{l m:List ByteArray}(ty:TypeId)(h:cI base w v l)(hu:Row encS 1 w u m)(hl:l.length+m.length<1000000)(hbase:base<=w.heap.size):
  ∃ao n c w',(Builtin.append_ #[48,48] ty #[v,u]).run Tryz.prog w=.ok (.slice ao n c) w'∧cI base w' (.slice ao n c) (l++m)∧(∀w0,Below base w0 w->Below base w0 w'):=by
 obtain⟨i0,hi,hz0,hz1,hz2⟩:=info_parts mY;have ht:=Tryz.underlying48;obtain⟨ao,cap,rfl,h1,h2,h3⟩:=hu;cases ao with
 |none=>
  have hm:m=[]:=by
   rcases List.eq_nil_or_concat m with e1| ⟨m',y,e1⟩
   ·exact e1
   ·obtain⟨b,off,e2,_⟩:=h3 (by rw[e1];simp);cases e2
  subst hm;have hc0:=h2 rfl;subst hc0;obtain⟨av,cv,rfl⟩:=bL h;exact⟨_,_,_,w,run_append_owned_none (P:=Tryz.prog) w base _ ty _ i0 1 ht hi _ _ _ h,by rw[List.append_nil];exact h,fun _ hb=>hb⟩
 |some ad=>
  obtain⟨v',w',hr,g1,g2,_⟩:=run_append_own (P:=Tryz.prog) w base 48 ty 9 i0 _ 1 16 ht hi hz0 hz1 hz2 rfl (by decide) v _ _ h ad m.length cap (flatK encS 1 m.toArray).toList (by simp) (fun j u hj=>by
   obtain⟨hj1,hj2⟩:=List.getElem?_eq_some_iff.1 hj
   have lQ:j<m.length*1:=by simpa using hj1
   obtain⟨b,off,e2,_,hc⟩:=h3 (by intro e;rw[e]at lQ;simp at lQ)
   cases e2
   rw[Go.WideShapes.add_plain,hc j lQ,getElem!_pos _ j (by simpa using lQ),<-hj2]
   simp) (dt zm fj) (by unfold maxLen;omega) (by omega) hbase
  obtain⟨av,cv,rfl⟩:=bL g1;refine⟨_,_,_,w',hr,?_,fun w0 hb=>hb.grown g2 hbase fun k hk=>j8 h k hk⟩;show w'.ownsRow base 9 1 _ (l++m).length (flatK encS 1 (l++m).toArray).toList;rw[List.length_append,cj encS 1 fj];exact g1
theorem YY {ops:Array Oper}{rest:List Oper}{o:Oper}{a:Act}{Q:Exit->Act->World->Prop}{w:World}(hgd:o.guard=.none)(s x:Operand)
  (ho:o.op=.call {callee:=.builtin .append,args:=#[s,x],argTypes:=#[48,48]})(base:Nat)(v:Value)(l:List ByteArray)(hs:a.eval s=v)(hown:cI base w v l)
  (u:Value)(m:List ByteArray)(hx:a.eval x=u)(hu:Row encS 1 w u m)(hl:l.length+m.length<1000000)(hbase:base<=w.heap.size)(lm:List ByteArray)(hlm:l++m=lm)
  (h:∀ao n c w',cI base w' (.slice ao n c) lm->(∀w0,Below base w0 w->Below base w0 w')->wpList Tryz.prog ops Q rest (a.put o.dst (.slice ao n c)) w'):wpList Tryz.prog ops Q (o::rest) a w:=by
 subst hlm;refine wpList_plain hgd fun K hK'=>?_;obtain⟨ao,n,c,w',hrun,h1,h2⟩:=Ja o.type hown hu hl hbase;unfold Oper.wp;simp[execOp,ho,resolve,invoke,builtin,hs,hx,hrun,Result.andThen];exact hK' _ _ (h ao n c w' h1 h2)
theorem Vz:Tryz.prog.underlying 48=some (.slice (Tryz.prog.elem 48)):=by kernel_rfl
theorem VC (u:World):(sizeOf (Tryz.prog.elem 48)).run Tryz.prog u=.ok 1 u:=by kernel_rfl
theorem zH (ao:Option Addr)(n c k:Nat)(hk:k<=c)(u:World):(Instr.slice 48 (.slice ao n c) none (some (.int .i64 (k:Int))) none).run Tryz.prog u=.ok (.slice ao k c) u:=by
 rw[run_slice_h u 48 ao n c Vz .i64 k (by omega) (by omega),VC];simp only[Result.andThen,sliced,Int.toNat_natCast];cases ao<;>simp[add0]
theorem zI (ao:Option Addr)(n c k:Nat)(hk:k<=n)(u:World):(Instr.slice 48 (.slice ao n c) (some (.int .i64 (k:Int))) none none).run Tryz.prog u=.ok (.slice (if c=k then ao else ao.map (·.add (k*1))) (n-k) (c-k)) u:=by
 rw[run_slice_l u 48 ao n c Vz .i64 k (by omega) (by omega),VC];simp[Result.andThen,sliced]
structure iw (w:World)(ve vk vs:Value)(n:Nd):Prop where
 e:Row ax 2 w ve n.es
 k:Row encI 1 w vk n.ks
 s:Row encS 1 w vs n.ss
theorem iw.below {w w':World}{ve vk vs:Value}{n:Nd}(h:iw w ve vk vs n)(hb:Below w.heap.size w w'):iw w' ve vk vs n:=⟨h.e.below hb,h.k.below hb,h.s.below hb⟩
structure kT (base:Nat)(w:World)(ve vk vs:Value)(n:Nd):Prop where
 e:bp base w ve n.es
 k:dB base w vk n.ks
 s:cI base w vs n.ss
theorem kT.r {base:Nat}{w:World}{ve vk vs:Value}{n:Nd}(h:kT base w ve vk vs n):iw w ve vk vs n:=⟨(bI (by decide) h.e).row,(bI (by decide) h.k).row,(bI (by decide) h.s).row⟩
theorem kT.mono {base base':Nat}{w:World}{ve vk vs:Value}{n:Nd}(h:kT base w ve vk vs n)(hb:base'<=base):kT base' w ve vk vs n:=⟨aH h.e hb,aH h.k hb,aH h.s hb⟩
theorem dB.empty (base:Nat)(W:World):dB base W (.slice none 0 0) []:=by unfold dB;simpa[flatK]using World.ownsRow_nil W base 3 1
theorem kT.zero (base:Nat)(w:World):kT base w (.slice none 0 0) (.slice none 0 0) (.slice none 0 0) nd0:=⟨bp.empty _ _,dB.empty _ _,cI.empty _ _⟩
structure Sm (n:Nd):Prop where
 e:n.es.length<=1000
 k:n.ks.length<=1000
 s:n.ss.length<=1000
 ez:cY n.es<=1000000
 sz:bV n.ss<=1000000
structure yz (n:Nd):Prop where
 e:n.es.length<=1000
 k:n.ks.length<=1000
 s:n.ss.length<=1000
theorem Sm.l {n:Nd}(h:Sm n):yz n:=⟨h.e,h.k,h.s⟩
end
section
theorem vF {α:Type}[Inhabited α]{ls:List (List α)}{i:Nat}(h:i<ls.length):(ls.take (i+1)).flatten=(ls.take i).flatten++ls[i]! :=by
 rw[bU h];simp
theorem Nj {α:Type}[Inhabited α]{ls:List (List α)}{i:Nat}(h:i<ls.length):(ls.take i).flatten.length+ls[i]!.length<=ls.flatten.length:=by
 rw[<-List.length_append,<-vF h];have:=congrArg (fun l=>l.flatten.length) (List.take_append_drop (i+1) ls);simp only[List.flatten_append,List.length_append]at this;omega
theorem jG:(∀(q:Nat) (t:TypeId) (vs:List Value) (ls:List (List En)) (m:Nat) (w:World) (hq:Cl w q vs.toArray t) (hv:vs.length=m) (hvl:ls.length=m) (hr:∀i,i<m->Row ax 2 w vs[i]! ls[i]!) (hN:ls.flatten.length<1000000) (hm:m<=1000) (out:List En) (hout:ls.flatten=out),Calls Tryz.prog 153 #[.slice (some ⟨q,0,none⟩) m m] w fun e w'=>∃ao n c,e=.returned (.slice ao n c)∧bp w.heap.size w' (.slice ao n c) out∧Below w.heap.size w w')∧
  (∀(q:Nat) (t:TypeId) (vs:List Value) (ls:List (List Int)) (m:Nat) (w:World) (hq:Cl w q vs.toArray t) (hv:vs.length=m) (hvl:ls.length=m) (hr:∀i,i<m->Row encI 1 w vs[i]! ls[i]!) (hN:ls.flatten.length<1000000) (hm:m<=1000) (out:List Int) (hout:ls.flatten=out),Calls Tryz.prog 177 #[.slice (some ⟨q,0,none⟩) m m] w fun e w'=>∃ao n c,e=.returned (.slice ao n c)∧dB w.heap.size w' (.slice ao n c) out∧Below w.heap.size w w')∧
  (∀(q:Nat) (t:TypeId) (vs:List Value) (ls:List (List ByteArray)) (m:Nat) (w:World) (hq:Cl w q vs.toArray t) (hv:vs.length=m) (hvl:ls.length=m) (hr:∀i,i<m->Row encS 1 w vs[i]! ls[i]!) (hN:ls.flatten.length<1000000) (hm:m<=1000) (out:List ByteArray) (hout:ls.flatten=out),Calls Tryz.prog 178 #[.slice (some ⟨q,0,none⟩) m m] w fun e w'=>∃ao n c,e=.returned (.slice ao n c)∧cI w.heap.size w' (.slice ao n c) out∧Below w.heap.size w w'):=by
 and_intros
 have jq:=trivial
 rotate_left
 have fC:=trivial
 rotate_left
 have Si:=trivial
 rotate_left
 all_goals
  intro q t vs ls m w hq hv hvl hr hN hm out hout;subst hout;have HQ:Aside (Cl w q vs.toArray t):=hq
  first
   |have zz:=jq
    have HR:Aside (∀i,i<m->Row ax 2 w vs[i]! ls[i]!):=hr
   |have zz:=fC
    have HR:Aside (∀i,i<m->Row encI 1 w vs[i]! ls[i]!):=hr
   |have HR:Aside (∀i,i<m->Row encS 1 w vs[i]! ls[i]!):=hr
  have HV:Hid (vs.length=m):=hv;have HL:Hid (ls.length=m):=hvl;have YZ:=hq.lt;clear hq hr hv hvl
  first
   |have zz:=jq
    go_enter Tryz.func153,Tryz.ntmps153
   |have zz:=fC
    go_enter Tryz.func177,Tryz.ntmps177
   |go_enter Tryz.func178,Tryz.ntmps178
  go_wp2
  first
   |have zz:=Si
    go_loopg [3,8] m (fun kx s3 s8 wr=>∃(i:Nat) (cT:Option Addr) (n' c':Nat) (out:List ByteArray),s3=.slice cT n' c'∧s8=.int .i64 i∧i<=m∧m-i<=kx∧Hid ((ls.take i).flatten=out)∧Aside (cI w.heap.size wr (.slice cT n' c') out)∧Hid (Below w.heap.size w wr))
    case atStart=>exact⟨0,none,0,0,[],rfl,rfl,Nat.zero_le _,Nat.le_refl _,rfl,cI.empty _ _,Below.refl _ _⟩
   |have zz:=fC
    go_loopg [3,8] m (fun kx s3 s8 wr=>∃(i:Nat) (cT:Option Addr) (n' c':Nat) (out:List Int),s3=.slice cT n' c'∧s8=.int .i64 i∧i<=m∧m-i<=kx∧Hid ((ls.take i).flatten=out)∧Aside (dB w.heap.size wr (.slice cT n' c') out)∧Hid (Below w.heap.size w wr))
    case atStart=>exact⟨0,none,0,0,[],rfl,rfl,Nat.zero_le _,Nat.le_refl _,rfl,dB.empty _ _,Below.refl _ _⟩
   |go_loopg [3,8] m (fun kx s3 s8 wr=>∃(i:Nat) (cT:Option Addr) (n' c':Nat) (out:List En),s3=.slice cT n' c'∧s8=.int .i64 i∧i<=m∧m-i<=kx∧Hid ((ls.take i).flatten=out)∧Aside (bp w.heap.size wr (.slice cT n' c') out)∧Hid (Below w.heap.size w wr))
    case atStart=>exact⟨0,none,0,0,[],rfl,rfl,Nat.zero_le _,Nat.le_refl _,rfl,bp.empty _ _,Below.refl _ _⟩
  case round=>
   obtain⟨i,cT,n',c',out,rfl,rfl,hi,hki,HD,HO,HB⟩:=hrel;by_cases hil:i<m
   ·have dO:(i:Int)< (m:Int):=by omega
    have Fo:i<ls.length:=by rw[HL.out];exact hil
    have T:Hid _:=vF Fo;have hle:=Nj Fo;rw[HD.out]at T hle;have R0:=(HR.out i hil).below HB.out;have c0:wr.cell? ⟨q,i,none⟩=some vs[i]! :=by
     rw[HB.out.cell (p:=⟨q,i,none⟩) YZ,HQ.out.cell i,List.getElem?_toArray,List.getElem?_eq_getElem (by rw[HV.out];exact hil),getElem!_pos vs i (by rw[HV.out];exact hil)]
    generalize vs[i]! =u at*;generalize ls[i]! =x at*
    first
     |have zz:=jq
      have RX:Aside (Row ax 2 wr u x):=R0
     |have zz:=fC
      have RX:Aside (Row encI 1 wr u x):=R0
     |have RX:Aside (Row encS 1 wr u x):=R0
    obtain⟨au,cu,rfl,_⟩:=aG R0;obtain⟨o2,ho2⟩:∃o2,out++x=o2:=⟨_,rfl⟩;have E2:Hid (out++x=o2):=ho2;rw[ho2]at T;have hsz:=HB.out.size;clear ho2 R0
    first
     |have zz:=jq
      go_wp2_with (at_builtin;refine YX rfl _ _ rfl w.heap.size _ out rfl HO.out _ x rfl RX.out (by omega) hsz o2 E2.out ?_)
     |have zz:=fC
      go_wp2_with (at_builtin;refine Sh rfl _ _ rfl w.heap.size _ out rfl HO.out _ x rfl RX.out (by omega) hsz o2 E2.out ?_)
     |go_wp2_with (at_builtin;refine YY rfl _ _ rfl w.heap.size _ out rfl HO.out _ x rfl RX.out (by omega) hsz o2 E2.out ?_)
    intro a6 n6 c6 w6 P6 Q6
    first
     |have zz:=jq
      have O7:Aside (bp w.heap.size w6 (.slice a6 n6 c6) o2):=P6
     |have zz:=fC
      have O7:Aside (dB w.heap.size w6 (.slice a6 n6 c6) o2):=P6
     |have O7:Aside (cI w.heap.size w6 (.slice a6 n6 c6) o2):=P6
    have B7:Hid (Below w.heap.size w w6):=Q6 _ HB.out;clear P6 Q6 HO HB RX E2 hsz hle;go_wp2
    go_roundg (m- (i+1))
    case measure=>omega
    case rel=>exact⟨i+1,a6,n6,c6,o2,rfl,by go_num,by omega,Nat.le_refl _,T,O7,B7⟩
   ·have dO:¬(i:Int)< (m:Int):=by omega
    obtain rfl:i=m:=by omega
    have E:(ls.take i).flatten=ls.flatten:=by rw[List.take_of_length_le (by rw[HL.out];exact Nat.le_refl _)]
    have E2:Hid (ls.flatten=out):=E.symm.trans HD.out;clear E;go_wp2;go_ret;exact⟨_,_,_,rfl,by rw[E2.out];exact HO.out,HB.out⟩
theorem nr (q:Nat)(t:TypeId)(v:Value)(l:List En)(w:World)(hq:Cl w q #[v] t)(h:Row ax 2 w v l)(hN:l.length<1000000):
  Calls Tryz.prog 153 #[.slice (some ⟨q,0,none⟩) 1 1] w fun e w'=>∃ao n c,e=.returned (.slice ao n c)∧bp w.heap.size w' (.slice ao n c) l∧Below w.heap.size w w':=
 jG.1 q t [v] [l] 1 w hq rfl rfl (fun i hi=>by
  rcases(by omega:i=0)with rfl
  exact h) (by simpa using hN) (by decide) l (by simp)
theorem Jb (q:Nat)(t:TypeId)(v u:Value)(l m:List En)(w:World)(hq:Cl w q #[v,u] t)(h:Row ax 2 w v l)(h2:Row ax 2 w u m)(hN:l.length+m.length<1000000):
  Calls Tryz.prog 153 #[.slice (some ⟨q,0,none⟩) 2 2] w fun e w'=>∃ao n c,e=.returned (.slice ao n c)∧bp w.heap.size w' (.slice ao n c) (l++m)∧Below w.heap.size w w':=
 jG.1 q t [v,u] [l,m] 2 w hq rfl rfl (fun i hi=>by
  rcases(by omega:i=0∨i=1)with rfl|rfl
  ·exact h
  ·exact h2) (by simpa using hN) (by decide) (l++m) (by simp)
theorem sK (q:Nat)(t:TypeId)(v:Value)(l:List Int)(w:World)(hq:Cl w q #[v] t)(h:Row encI 1 w v l)(hN:l.length<1000000):
  Calls Tryz.prog 177 #[.slice (some ⟨q,0,none⟩) 1 1] w fun e w'=>∃ao n c,e=.returned (.slice ao n c)∧dB w.heap.size w' (.slice ao n c) l∧Below w.heap.size w w':=
 jG.2.1 q t [v] [l] 1 w hq rfl rfl (fun i hi=>by
  rcases(by omega:i=0)with rfl
  exact h) (by simpa using hN) (by decide) l (by simp)
theorem Jc (q:Nat)(t:TypeId)(v u:Value)(l m:List Int)(w:World)(hq:Cl w q #[v,u] t)(h:Row encI 1 w v l)(h2:Row encI 1 w u m)(hN:l.length+m.length<1000000):
  Calls Tryz.prog 177 #[.slice (some ⟨q,0,none⟩) 2 2] w fun e w'=>∃ao n c,e=.returned (.slice ao n c)∧dB w.heap.size w' (.slice ao n c) (l++m)∧Below w.heap.size w w':=
 jG.2.1 q t [v,u] [l,m] 2 w hq rfl rfl (fun i hi=>by
  rcases(by omega:i=0∨i=1)with rfl|rfl
  ·exact h
  ·exact h2) (by simpa using hN) (by decide) (l++m) (by simp)
theorem Jd (q:Nat)(t:TypeId)(v u z:Value)(l m n:List Int)(w:World)(hq:Cl w q #[v,u,z] t)(h:Row encI 1 w v l)(h2:Row encI 1 w u m)(h3:Row encI 1 w z n)(hN:l.length+m.length+n.length<1000000):
  Calls Tryz.prog 177 #[.slice (some ⟨q,0,none⟩) 3 3] w fun e w'=>∃ao n' c,e=.returned (.slice ao n' c)∧dB w.heap.size w' (.slice ao n' c) (l++m++n)∧Below w.heap.size w w':=
 jG.2.1 q t [v,u,z] [l,m,n] 3 w hq rfl rfl (fun i hi=>by
  rcases(by omega:i=0∨i=1∨i=2)with rfl|rfl|rfl
  ·exact h
  ·exact h2
  ·exact h3) (by simp;omega) (by decide) (l++m++n) (by simp)
theorem sL (q:Nat)(t:TypeId)(v:Value)(l:List ByteArray)(w:World)(hq:Cl w q #[v] t)(h:Row encS 1 w v l)(hN:l.length<1000000):
  Calls Tryz.prog 178 #[.slice (some ⟨q,0,none⟩) 1 1] w fun e w'=>∃ao n c,e=.returned (.slice ao n c)∧cI w.heap.size w' (.slice ao n c) l∧Below w.heap.size w w':=
 jG.2.2 q t [v] [l] 1 w hq rfl rfl (fun i hi=>by
  rcases(by omega:i=0)with rfl
  exact h) (by simpa using hN) (by decide) l (by simp)
theorem sN (q:Nat)(t:TypeId)(v u z:Value)(l m n:List ByteArray)(w:World)(hq:Cl w q #[v,u,z] t)(h:Row encS 1 w v l)(h2:Row encS 1 w u m)(h3:Row encS 1 w z n)(hN:l.length+m.length+n.length<1000000):
  Calls Tryz.prog 178 #[.slice (some ⟨q,0,none⟩) 3 3] w fun e w'=>∃ao n' c,e=.returned (.slice ao n' c)∧cI w.heap.size w' (.slice ao n' c) (l++m++n)∧Below w.heap.size w w':=
 jG.2.2 q t [v,u,z] [l,m,n] 3 w hq rfl rfl (fun i hi=>by
  rcases(by omega:i=0∨i=1∨i=2)with rfl|rfl|rfl
  ·exact h
  ·exact h2
  ·exact h3) (by simp;omega) (by decide) (l++m++n) (by simp)
end
section
theorem jH {W X Y:World}(h2:Below X.heap.size X Y)(h1:Below W.heap.size W X):Below W.heap.size W Y:=h1.trans (h2.mono h1.size)
theorem aq {W X:World}(o:Obj)(h1:Below W.heap.size W X):Below W.heap.size W (X.alloc o):=h1.alloc h1.size _
theorem _root_.Go.Proofs.YtcenfooehjcddaaGreatDoor.Cl.lY (w:World)(cs:Array Value)(t:TypeId):Cl (w.alloc (.cells cs t)) w.heap.size cs t:=Cl.new w cs t
theorem _root_.Go.Proofs.YtcenfooehjcddaaGreatDoor.Cl.pU (w:World)(cs:Array Value)(t:TypeId)(o:Obj):Cl ((w.alloc o).alloc (.cells cs t)) (w.heap.size+1) cs t:=by
 have:=Cl.new (w.alloc o) cs t
 rwa [show(w.alloc o).heap.size=w.heap.size+1 by simp]at this
theorem _root_.Go.Proofs.YtcenfooehjcddaaGreatDoor.Cl.Bv (w:World)(cs:Array Value)(t:TypeId)(o o':Obj):Cl (((w.alloc o).alloc o').alloc (.cells cs t)) (w.heap.size+2) cs t:=by
 have:=Cl.new ((w.alloc o).alloc o') cs t
 rwa [show((w.alloc o).alloc o').heap.size=w.heap.size+2 by simp]at this
theorem _root_.Go.Proofs.YtcenfooehjcddaaGreatDoor.Cl.dr {w:World}{q:Nat}{cs:Array Value}{t:TypeId}(h:Cl w q cs t):Cl w.drew q cs t:=h
theorem _root_.Go.Proofs.YtcenfooehjcddaaGreatDoor.Cl.four {w:World}{q:Nat}{t:TypeId}{a b c d:Value}(h:Cl w q #[a,b,c,d] t):w.cell? ⟨q,0,none⟩=some a∧w.cell? ⟨q,1,none⟩=some b∧w.cell? ⟨q,2,none⟩=some c∧w.cell? ⟨q,3,none⟩=some d:=⟨h.cell 0,h.cell 1,h.cell 2,h.cell 3⟩
theorem _root_.Go.Proofs.YtcenfooehjcddaaGreatDoor.Cl.thaw {w:World}{q:Nat}{t:TypeId}{cs:Array Value}(h:Cl w q cs t):w.frozen? ⟨q,0,none⟩=false∧w.frozen? ⟨q,1,none⟩=false∧w.frozen? ⟨q,2,none⟩=false∧w.frozen? ⟨q,3,none⟩=false:=by
 unfold Cl at h;simp[World.frozen?,h]
def RB (W:World)(r:Nat)(t:TypeId)(X:World):Prop:=Below r W X∧∃a b c d,Cl X r #[a,b,c,d] t
theorem RB.lt {W X:World}{r:Nat}{t:TypeId}(h:RB W r t X):r+1<=X.heap.size:=by
 obtain⟨_,a,b,c,d,k⟩:=h;exact k.lt
theorem RB.alloc {W X:World}{r:Nat}{t:TypeId}(h:RB W r t X)(o:Obj):RB W r t (X.alloc o):=by
 have:=h.lt;obtain⟨h1,a,b,c,d,k⟩:=h;exact⟨h1.alloc (by omega) _,a,b,c,d,k.alloc _⟩
theorem RB.call {W X Y:World}{r:Nat}{t:TypeId}(h:RB W r t X)(hb:Below X.heap.size X Y):RB W r t Y:=by
 have:=h.lt;obtain⟨h1,a,b,c,d,k⟩:=h;exact⟨h1.trans (hb.mono (by omega)),a,b,c,d,k.on hb⟩
theorem RB.four {W X:World}{r:Nat}{t:TypeId}(h:RB W r t X):(∃a,X.cell? ⟨r,0,none⟩=some a)∧(∃a,X.cell? ⟨r,1,none⟩=some a)∧(∃a,X.cell? ⟨r,2,none⟩=some a)∧(∃a,X.cell? ⟨r,3,none⟩=some a)∧X.frozen? ⟨r,0,none⟩=false∧X.frozen? ⟨r,1,none⟩=false∧X.frozen? ⟨r,2,none⟩=false∧X.frozen? ⟨r,3,none⟩=false:=by
 obtain⟨_,a,b,c,d,k⟩:=h;refine⟨⟨a,k.cell 0⟩,⟨b,k.cell 1⟩,⟨c,k.cell 2⟩,⟨d,k.cell 3⟩,?_⟩;unfold Cl at k;simp[World.frozen?,k]
def fk (w:World)(q:Nat)(a b c d:Value):World:=(((w.setCell ⟨q,0,none⟩ a).setCell ⟨q,1,none⟩ b).setCell ⟨q,2,none⟩ c).setCell ⟨q,3,none⟩ d
theorem _root_.Go.Proofs.YtcenfooehjcddaaGreatDoor.Cl.fk {w:World}{q:Nat}{t:TypeId}{a b c d:Value}(h:Cl w q #[a,b,c,d] t)(a' b' c' d':Value):Cl (fk w q a' b' c' d') q #[a',b',c',d'] t:=(((h.set 0 a').set 1 b').set 2 c').set 3 d'
theorem bF {base q:Nat}{w:World}{e:TypeId}{k:Nat}{v a b c d:Value}{n:Nat}{xs:List Value}(h:w.ownsRow base e k v n xs)(hq:q<base):(fk w q a b c d).ownsRow base e k v n xs:=
 ownsRow_setCell_below (ownsRow_setCell_below (ownsRow_setCell_below (ownsRow_setCell_below h (a:=⟨q,0,none⟩) hq a) (a:=⟨q,1,none⟩) hq b) (a:=⟨q,2,none⟩) hq c) (a:=⟨q,3,none⟩) hq d
theorem dg {B q:Nat}{w0 w:World}{a b c d:Value}(h:Below B w0 w)(hq:B<=q):Below B w0 (fk w q a b c d):=
 (((h.setCell (p:=⟨q,0,none⟩) hq a).setCell (p:=⟨q,1,none⟩) hq b).setCell (p:=⟨q,2,none⟩) hq c).setCell (p:=⟨q,3,none⟩) hq d
end
section
attribute [local go_sem ↓] Go.wp_at_zero Go.wp_at_succ
def Sk (W:World)(p:Nat)(lf:Bool)(ae ak az:Option Addr)(ce ck cz:Nat)(es:List En)(ks:List Int)(ss:List ByteArray)(C:List Bool->Act->Prop)(w:World):Prop:=∀{f0 f1 f2 f3 f4 f5 f6 f7 f8 f9 f10 f11 f12 f13 f14 f15:Bool}{x3 x4 x5 x6 x7 x8 x9 oK uo qI uq uE G9 DM uF:Value},f15=false->RB W (p+1) 170 w->Hid (f0=true->x3=.pointer (some ⟨p,0,none⟩))->Hid (f1=true->x4=.bool lf)->Hid (f2=true->x5=.pointer (some ⟨p,1,none⟩))->Hid (f3=true->x6=.slice ae es.length ce)->Hid (f4=true->∃qq,x7=.slice (some ⟨qq,0,none⟩) 1 1∧Cl w qq #[.slice ae es.length ce] 49)->Hid (f5=true->∃ao n c,x8=.slice ao n c∧bp (p+2) w x8 (es))->Hid (f6=true->x9=.pointer (some ⟨p,2,none⟩))->Hid (f7=true->oK=.slice ak ks.length ck)->Hid (f8=true->∃qq,uo=.slice (some ⟨qq,0,none⟩) 1 1∧Cl w qq #[.slice ak ks.length ck] 85)->Hid (f9=true->∃ao n c,qI=.slice ao n c∧dB (p+2) w qI (ks))->Hid (f10=true->uq=.pointer (some ⟨p,3,none⟩))->Hid (f11=true->uE=.slice az ss.length cz)->Hid (f12=true->∃qq,G9=.slice (some ⟨qq,0,none⟩) 1 1∧Cl w qq #[.slice az ss.length cz] 48)->Hid (f13=true->∃ao n c,DM=.slice ao n c∧cI (p+2) w DM (ss))->Hid (f14=true->f5=true∧f9=true∧f13=true∧uF=.agg #[.bool lf,x8,qI,DM])->C [f0,f1,f2,f3,f4,f5,f6,f7,f8,f9,f10,f11,f12,f13,f14,f15] {tmps:=#[.agg #[.bool lf,.slice ae es.length ce,.slice ak ks.length ck,.slice az ss.length cz],.pointer (some ⟨p,0,none⟩),.pointer (some ⟨p+1,0,none⟩),x3,x4,x5,x6,x7,x8,x9,oK,uo,qI,uq,uE,G9,DM,uF],defers:=[]}
theorem iW (n:Nd)(ve vk vs:Value)(w:World)(h:iw w ve vk vs n)(hs:yz n):
  Calls Tryz.prog 152 #[.agg #[.bool n.leaf,ve,vk,vs]] w fun e w'=>∃AX AY vs',e=.returned (.agg #[.bool n.leaf,AX,AY,vs'])∧kT w.heap.size w' AX AY vs' n∧Below w.heap.size w w':=by
 obtain⟨lf,es,ks,ss⟩:=n;obtain⟨he,hk,hss⟩:=h;obtain⟨s1,s2,s3⟩:=hs;simp only at he hk hss s1 s2 s3;obtain⟨ae,ce,rfl,_⟩:=aG he;obtain⟨ak,ck,rfl,_⟩:=aG hk;obtain⟨az,cz,rfl,_⟩:=aG hss;have K1:Cl ((w.alloc (.cells #[.bool lf,.slice ae es.length ce,.slice ak ks.length ck,.slice az ss.length cz] 170)).alloc (.cells #[.bool false,.slice none 0 0,.slice none 0 0,.slice none 0 0] 170)) w.heap.size #[.bool lf,.slice ae es.length ce,.slice ak ks.length ck,.slice az ss.length cz] 170:=(Cl.lY _ _ _).alloc _;have K2:Cl ((w.alloc (.cells #[.bool lf,.slice ae es.length ce,.slice ak ks.length ck,.slice az ss.length cz] 170)).alloc (.cells #[.bool false,.slice none 0 0,.slice none 0 0,.slice none 0 0] 170)) (w.heap.size+1) #[.bool false,.slice none 0 0,.slice none 0 0,.slice none 0 0] 170:=Cl.pU _ _ _ _;have BW:Hid (Below w.heap.size w ((w.alloc (.cells #[.bool lf,.slice ae es.length ce,.slice ak ks.length ck,.slice az ss.length cz] 170)).alloc (.cells #[.bool false,.slice none 0 0,.slice none 0 0,.slice none 0 0] 170))):=aq _ (aq _ (Below.refl _ _));go_enter Tryz.func152,Tryz.ntmps152
 go_wp2_with fail
 generalize World.alloc _ _=W at*;obtain⟨p,hp⟩:∃p,w.heap.size=p:=⟨_,rfl⟩;rw[hp]at K1 K2 BW⊢;have R0:Hid (RB W (p+1) 170 W.drew):=⟨(Below.refl _ W).drew,_,_,_,_,K2⟩;have BX:∀X,RB W (p+1) 170 X->Below p w X:=fun X hX=>BW.out.trans (hX.1.mono (Nat.le_succ p));have RE:Hid (∀X,RB W (p+1) 170 X->Row ax 2 X (.slice ae es.length ce) es):=fun X hX=>he.below (by rw[hp];exact BX X hX);have RK:Hid (∀X,RB W (p+1) 170 X->Row encI 1 X (.slice ak ks.length ck) ks):=fun X hX=>hk.below (by rw[hp];exact BX X hX);have RS:Hid (∀X,RB W (p+1) 170 X->Row encS 1 X (.slice az ss.length cz) ss):=fun X hX=>hss.below (by rw[hp];exact BX X hX);have MK:Hid (∀X,RB W (p+1) 170 X->X.cell? ⟨p,0,none⟩=some (.bool lf)∧X.cell? ⟨p,1,none⟩=some (.slice ae es.length ce)∧X.cell? ⟨p,2,none⟩=some (.slice ak ks.length ck)∧X.cell? ⟨p,3,none⟩=some (.slice az ss.length cz)):=fun X hX=>(K1.below hX.1 (Nat.lt_succ_self p)).four;have U5:Hid (∀X,RB W (p+1) 170 X->Below p w X):=BX;clear he hk hss K1 K2 BW BX;refine bc 15 (Sk W p lf ae ak az ce ck cz es ks ss) (by kernel_rfl) (by kernel_rfl) (by kernel_rfl) (fun _ k=>k rfl R0.out ar ar ar ar ar ar ar ar ar ar ar ar ar ar ar) ?_ ?_ ?_
 ·intro i w' hne f0 f1 f2 f3 f4 f5 f6 f7 f8 f9 f10 f11 f12 f13 f14 f15 x3 x4 x5 x6 x7 x8 x9 oK uo qI uq uE G9 DM uF e15 hB h0 h1 h2 h3 h4 h5 h6 h7 h8 h9 h10 h11 h12 dN fP hi;obtain⟨hlt,hun,_⟩:=aP hi;have hlt':i<16:=hlt;clear hlt;rcases(by omega:i=0∨i=1∨i=2∨i=3∨i=4∨i=5∨i=6∨i=7∨i=8∨i=9∨i=10∨i=11∨i=12∨i=13∨i=14)with rfl|rfl|rfl|rfl|rfl|rfl|rfl|rfl|rfl|rfl|rfl|rfl|rfl|rfl|rfl
  refine ai rfl fun K HK=>?_;go_simp
  rotate_left
  cases h0 (ah 0 hi (by kernel_rfl));have cell:=(MK.out _ hB).1;refine ai rfl fun K HK=>?_;go_simp
  rotate_left
  refine ai rfl fun K HK=>?_;go_simp
  rotate_left
  cases h2 (ah 2 hi (by kernel_rfl));have cell:=(MK.out _ hB).2.1;refine ai rfl fun K HK=>?_;go_simp
  rotate_left
  ·cases h3 (ah 3 hi (by kernel_rfl));refine ai rfl fun K HK=>?_;go_simp;exact HK.out _ _ fun _ k=>k e15 (RB.alloc hB _) h0 h1 h2 h3 (fun _=>⟨_,rfl,Cl.new _ _ _⟩) (fun d=>let⟨ao,n,c,e,o⟩:=h5.out d;⟨ao,n,c,e,ownsRow_below o (aq _ (Below.refl _ _))⟩) h6 h7 (fun d=>let⟨q,e,c⟩:=h8.out d;⟨q,e,Cl.on c (aq _ (Below.refl _ _))⟩) (fun d=>let⟨ao,n,c,e,o⟩:=h9.out d;⟨ao,n,c,e,ownsRow_below o (aq _ (Below.refl _ _))⟩) h10 h11 (fun d=>let⟨q,e,c⟩:=h12.out d;⟨q,e,Cl.on c (aq _ (Below.refl _ _))⟩) (fun d=>let⟨ao,n,c,e,o⟩:=dN.out d;⟨ao,n,c,e,ownsRow_below o (aq _ (Below.refl _ _))⟩) fP
  ·have un:f5=false:=hun;obtain⟨q4,rfl,c4⟩:=h4.out (ah 4 hi (by kernel_rfl));refine ai rfl fun K HK=>?_;go_simp;refine Calls.mono (nr q4 49 (.slice ae es.length ce) es w' c4 (RE.out _ hB) (by omega)) ?_;rintro e w1 ⟨ao,nn,cc,rfl,ow,b1⟩;exact HK.out _ _ fun _ k=>k e15 (RB.call hB b1) h0 h1 h2 h3 (fun d=>let⟨q,e,c⟩:=h4.out d;⟨q,e,Cl.on c (b1)⟩) (fun _=>⟨ao,nn,cc,rfl,aH ow (RB.lt hB)⟩) h6 h7 (fun d=>let⟨q,e,c⟩:=h8.out d;⟨q,e,Cl.on c (b1)⟩) (fun d=>let⟨ao,n,c,e,o⟩:=h9.out d;⟨ao,n,c,e,ownsRow_below o (b1)⟩) h10 h11 (fun d=>let⟨q,e,c⟩:=h12.out d;⟨q,e,Cl.on c (b1)⟩) (fun d=>let⟨ao,n,c,e,o⟩:=dN.out d;⟨ao,n,c,e,ownsRow_below o (b1)⟩) (fun d=>by have e:=(fP.out d).1;rw[un]at e;cases e)
  refine ai rfl fun K HK=>?_;go_simp
  rotate_left
  cases h6 (ah 6 hi (by kernel_rfl));have cell:=(MK.out _ hB).2.2.1;refine ai rfl fun K HK=>?_;go_simp
  rotate_left
  ·cases h7 (ah 7 hi (by kernel_rfl));refine ai rfl fun K HK=>?_;go_simp;exact HK.out _ _ fun _ k=>k e15 (RB.alloc hB _) h0 h1 h2 h3 (fun d=>let⟨q,e,c⟩:=h4.out d;⟨q,e,Cl.on c (aq _ (Below.refl _ _))⟩) (fun d=>let⟨ao,n,c,e,o⟩:=h5.out d;⟨ao,n,c,e,ownsRow_below o (aq _ (Below.refl _ _))⟩) h6 h7 (fun _=>⟨_,rfl,Cl.new _ _ _⟩) (fun d=>let⟨ao,n,c,e,o⟩:=h9.out d;⟨ao,n,c,e,ownsRow_below o (aq _ (Below.refl _ _))⟩) h10 h11 (fun d=>let⟨q,e,c⟩:=h12.out d;⟨q,e,Cl.on c (aq _ (Below.refl _ _))⟩) (fun d=>let⟨ao,n,c,e,o⟩:=dN.out d;⟨ao,n,c,e,ownsRow_below o (aq _ (Below.refl _ _))⟩) fP
  ·have un:f9=false:=hun;obtain⟨q8,rfl,c8⟩:=h8.out (ah 8 hi (by kernel_rfl));refine ai rfl fun K HK=>?_;go_simp;refine Calls.mono (sK q8 85 (.slice ak ks.length ck) ks w' c8 (RK.out _ hB) (by omega)) ?_;rintro e w1 ⟨ao,nn,cc,rfl,ow,b1⟩;exact HK.out _ _ fun _ k=>k e15 (RB.call hB b1) h0 h1 h2 h3 (fun d=>let⟨q,e,c⟩:=h4.out d;⟨q,e,Cl.on c (b1)⟩) (fun d=>let⟨ao,n,c,e,o⟩:=h5.out d;⟨ao,n,c,e,ownsRow_below o (b1)⟩) h6 h7 (fun d=>let⟨q,e,c⟩:=h8.out d;⟨q,e,Cl.on c (b1)⟩) (fun _=>⟨ao,nn,cc,rfl,aH ow (RB.lt hB)⟩) h10 h11 (fun d=>let⟨q,e,c⟩:=h12.out d;⟨q,e,Cl.on c (b1)⟩) (fun d=>let⟨ao,n,c,e,o⟩:=dN.out d;⟨ao,n,c,e,ownsRow_below o (b1)⟩) (fun d=>by have e:=(fP.out d).2.1;rw[un]at e;cases e)
  refine ai rfl fun K HK=>?_;go_simp
  rotate_left
  cases h10 (ah 10 hi (by kernel_rfl));have cell:=(MK.out _ hB).2.2.2;refine ai rfl fun K HK=>?_;go_simp
  rotate_left
  ·cases h11 (ah 11 hi (by kernel_rfl));refine ai rfl fun K HK=>?_;go_simp;exact HK.out _ _ fun _ k=>k e15 (RB.alloc hB _) h0 h1 h2 h3 (fun d=>let⟨q,e,c⟩:=h4.out d;⟨q,e,Cl.on c (aq _ (Below.refl _ _))⟩) (fun d=>let⟨ao,n,c,e,o⟩:=h5.out d;⟨ao,n,c,e,ownsRow_below o (aq _ (Below.refl _ _))⟩) h6 h7 (fun d=>let⟨q,e,c⟩:=h8.out d;⟨q,e,Cl.on c (aq _ (Below.refl _ _))⟩) (fun d=>let⟨ao,n,c,e,o⟩:=h9.out d;⟨ao,n,c,e,ownsRow_below o (aq _ (Below.refl _ _))⟩) h10 h11 (fun _=>⟨_,rfl,Cl.new _ _ _⟩) (fun d=>let⟨ao,n,c,e,o⟩:=dN.out d;⟨ao,n,c,e,ownsRow_below o (aq _ (Below.refl _ _))⟩) fP
  ·have un:f13=false:=hun;obtain⟨DO,rfl,c12⟩:=h12.out (ah 12 hi (by kernel_rfl));refine ai rfl fun K HK=>?_;go_simp;refine Calls.mono (sL DO 48 (.slice az ss.length cz) ss w' c12 (RS.out _ hB) (by omega)) ?_;rintro e w1 ⟨ao,nn,cc,rfl,ow,b1⟩;exact HK.out _ _ fun _ k=>k e15 (RB.call hB b1) h0 h1 h2 h3 (fun d=>let⟨q,e,c⟩:=h4.out d;⟨q,e,Cl.on c (b1)⟩) (fun d=>let⟨ao,n,c,e,o⟩:=h5.out d;⟨ao,n,c,e,ownsRow_below o (b1)⟩) h6 h7 (fun d=>let⟨q,e,c⟩:=h8.out d;⟨q,e,Cl.on c (b1)⟩) (fun d=>let⟨ao,n,c,e,o⟩:=h9.out d;⟨ao,n,c,e,ownsRow_below o (b1)⟩) h10 h11 (fun d=>let⟨q,e,c⟩:=h12.out d;⟨q,e,Cl.on c (b1)⟩) (fun _=>⟨ao,nn,cc,rfl,aH ow (RB.lt hB)⟩) (fun d=>by have e:=(fP.out d).2.2.1;rw[un]at e;cases e)
  ·cases h1 (ah 1 hi (by kernel_rfl));have d5:f5=true:=ah 5 hi (by kernel_rfl);obtain⟨a5,n5,m5,rfl,o5⟩:=h5.out d5;have d9:f9=true:=ah 9 hi (by kernel_rfl);obtain⟨a9,n9,m9,rfl,o9⟩:=h9.out d9;have d13:f13=true:=ah 13 hi (by kernel_rfl);obtain⟨uG,n13,m13,rfl,U6⟩:=dN.out d13;refine ai rfl fun K HK=>?_;go_simp;exact HK.out _ _ fun _ k=>k e15 hB h0 h1 h2 h3 h4 h5 h6 h7 h8 h9 h10 h11 h12 dN (fun _=>⟨d5,d9,d13,rfl⟩)
  all_goals exact HK.out _ _ fun _ k=>by apply k<;>first|assumption|exact hidR|(repeat' first|apply Exists.intro|assumption|rfl|apply And.intro|exact fun _=>rfl)
 ·intro w' f0 f1 f2 f3 f4 f5 f6 f7 f8 f9 f10 f11 f12 f13 f14 f15 x3 x4 x5 x6 x7 x8 x9 oK uo qI uq uE G9 DM uF e15 hB h0 h1 h2 h3 h4 h5 h6 h7 h8 h9 h10 h11 h12 dN fP hi;have d14:f14=true:=ah 14 hi (by kernel_rfl);obtain⟨_,_,_,rfl⟩:=fP.out d14;have d5:f5=true:=ah 5 hi (by kernel_rfl);obtain⟨a5,n5,m5,rfl,o5⟩:=h5.out d5;have d9:f9=true:=ah 9 hi (by kernel_rfl);obtain⟨a9,n9,m9,rfl,o9⟩:=h9.out d9;have d13:f13=true:=ah 13 hi (by kernel_rfl);obtain⟨uG,n13,m13,rfl,U6⟩:=dN.out d13;clear hi;obtain⟨⟨z0,y0⟩,⟨z1,y1⟩,⟨z2,y2⟩,⟨z3,y3⟩,g0,g1,g2,g3⟩:=hB.four;refine ai rfl fun K HK=>?_;go_simp;refine HK.out _ _ ?_;have KF:Cl ((((w'.setCell ⟨p+1,0,none⟩ (.bool lf)).setCell ⟨p+1,1,none⟩ (.slice a5 n5 m5)).setCell ⟨p+1,2,none⟩ (.slice a9 n9 m9)).setCell ⟨p+1,3,none⟩ (.slice uG n13 m13)) (p+1) #[.bool lf,.slice a5 n5 m5,.slice a9 n9 m9,.slice uG n13 m13] 170:=by
   obtain⟨_,u0,u1,u2,u3,kc⟩:=hB;exact kc.fk _ _ _ _
  have BF:Hid (Below p w ((((w'.setCell ⟨p+1,0,none⟩ (.bool lf)).setCell ⟨p+1,1,none⟩ (.slice a5 n5 m5)).setCell ⟨p+1,2,none⟩ (.slice a9 n9 m9)).setCell ⟨p+1,3,none⟩ (.slice uG n13 m13))):=dg (U5.out _ hB) (Nat.le_succ p);have OF:Hid (kT p ((((w'.setCell ⟨p+1,0,none⟩ (.bool lf)).setCell ⟨p+1,1,none⟩ (.slice a5 n5 m5)).setCell ⟨p+1,2,none⟩ (.slice a9 n9 m9)).setCell ⟨p+1,3,none⟩ (.slice uG n13 m13)) (.slice a5 n5 m5) (.slice a9 n9 m9) (.slice uG n13 m13) ⟨lf,es,ks,ss⟩):=⟨aH (bF o5 (Nat.lt_succ_self _)) (by omega),aH (bF o9 (Nat.lt_succ_self _)) (by omega),aH (bF U6 (Nat.lt_succ_self _)) (by omega)⟩;generalize World.setCell _ _ _=X at*;obtain⟨k0,k1,k2,k3⟩:=KF.four;clear y0 y1 y2 y3 g0 g1 g2 g3 hB h0 h1 h2 h3 h4 h5 h6 h7 h8 h9 h10 h11 h12 dN fP;go_wp2;refine bodyPost_ret (v:=.agg #[.bool lf,.slice a5 n5 m5,.slice a9 n9 m9,.slice uG n13 m13]) ?_ rfl ⟨_,_,_,rfl,by rw[hp];exact OF.out,by rw[hp];exact BF.out⟩;rw[bC rfl];go_simp
 ·intro _ _;intros;assumption
end
end N
end Go.Proofs.YtcenfooehjcddaaGreatDoor
namespace Go.Proofs.YtcenfooehjcddaaGreatDoor
namespace P
open Go.Deep Go.ChangeShapes Go.WideShapes Go.ChangeAt Go.RowKit Go.ChangeMaps Go.Shelf Go.Lib Go.Sort
structure Qn where
 k:Int
 u:Int
 v:Int
 t:Bool
def a17:Qn:=⟨0,0,0,false⟩
def AcC (w:World)(r o:Nat)(x:Qn):Prop:=w.cell? ⟨r,o,none⟩=some (.int .i64 x.k)∧w.cell? ⟨r,o+1,none⟩=some (.int .i64 x.u)∧w.cell? ⟨r,o+2,none⟩=some (.int .i64 x.v)∧w.cell? ⟨r,o+3,none⟩=some (.bool x.t)∧(-9223372036854775808<=x.u∧x.u<=9223372036854775807)∧(-9223372036854775808<=x.v∧x.v<=9223372036854775807)
def ActR17 (w:World)(v:Value)(l:List Qn):Prop:=∃ao cap,v=.slice ao l.length cap∧(l≠[]->∃r o,ao=some ⟨r,o,none⟩∧r<w.heap.size∧∀j,j<l.length->AcC w r (o+j*4) (l.getD j a17))
theorem ActR17.at {w:World}{ao:Option Addr}{n cap:Nat}{l:List Qn}(h:ActR17 w (.slice ao n cap) l){j:Nat}(hj:j<l.length):
  ∃r o,ao=some ⟨r,o,none⟩∧r<w.heap.size∧∀u,Below w.heap.size w u->AcC u r (o+j*4) (l.getD j a17):=by
 obtain⟨cT,cap',e,h1⟩:=h;cases e;obtain⟨r,o,e2,hr,hc⟩:=h1 (by intro e;rw[e]at hj;simp at hj);refine⟨r,o,e2,hr,fun u hb=>?_⟩;have k:∀j,u.cell? ⟨r,j,none⟩=w.cell? ⟨r,j,none⟩:=fun j=>World.cell?_of_block (a:=⟨r,j,none⟩) (hb.block r hr);obtain⟨a,b,c,d,z⟩:=hc j hj;exact⟨by rw[k];exact a,by rw[k];exact b,by rw[k];exact c,by rw[k];exact d,z⟩
variable {H:Type}{enc:TypeId×Value->H}{W:World}{base:Nat}{spare:Nat->Bool}{held:Bool}{fuel:Nat}{x:DataW H×List MemPlace}
theorem VD {W:World}{b o:Nat}{v:Value}(h:W.cell? ⟨b,o,none⟩=some v):b<W.heap.size:=by
 rcases Nat.lt_or_ge b W.heap.size with hb|hb
 ·exact hb
 ·have e:W.heap[b]? =none:=Array.getElem?_eq_none hb;simp[World.cell?,e]at h
theorem Sl {P:Program}{w:World}{t:TypeId}{f0 f1 f2 f3:Field}{fuel:Nat}{cs:List Value}{x:DataW H×List MemPlace}(ht:P.underlying t=some (.struct #[f0,f1,f2,f3]))(h:DataW.trod enc P w base spare held fuel t cs=some x):
  ∃y0 y1 y2 y3 n,cs.length=P.cellsOf t∧DataW.trod enc P w base spare held n f0.type ((cs.drop f0.offset).take (P.cellsOf f0.type))=some y0∧
   DataW.trod enc P w base spare held n f1.type ((cs.drop f1.offset).take (P.cellsOf f1.type))=some y1∧DataW.trod enc P w base spare held n f2.type ((cs.drop f2.offset).take (P.cellsOf f2.type))=some y2∧
   DataW.trod enc P w base spare held n f3.type ((cs.drop f3.offset).take (P.cellsOf f3.type))=some y3:=by
 obtain⟨xs,n,_,rfl,hl,hlen,hf⟩:=DataW.trod_struct ht h
 match xs,hlen with
 |[y0,y1,y2,y3],_=>exact⟨y0,y1,y2,y3,n,hl,by simpa using hf 0 f0 rfl,by simpa using hf 1 f1 rfl,by simpa using hf 2 f2 rfl,by simpa using hf 3 f3 rfl⟩
theorem VE {n:Int}(h:(Lit.int .i64 n).wf=true):-9223372036854775808<=n∧n<=9223372036854775807:=by
 unfold Lit.wf at h;rw[Bool.and_eq_true,decide_eq_true_eq,decide_eq_true_eq,show IntKind.min .i64=-9223372036854775808 by decide,show IntKind.max .i64=9223372036854775807 by decide]at h;exact h
theorem open_acts17 {a:Option Addr}{len cap:Nat}(h:DataW.trod enc Tryz.prog W base spare held fuel 22 (Value.slice a len cap).cells.toList=some x):∃l:List Qn,ActR17 W (.slice a len cap) l:=by
 rcases open_slice Tryz.underlying22 h with⟨hcs,_⟩| ⟨ad,l,c,m,n,D,Pl,hcs,_,hl,_,hm,_,hcell⟩
 ·simp[Value.cells]at hcs;obtain⟨rfl,rfl,rfl⟩:=hcs;exact⟨[],none,0,rfl,fun h=>absurd rfl h⟩
 ·simp[Value.cells]at hcs;obtain⟨rfl,rfl,rfl⟩:=hcs;have ce:Tryz.prog.cellsOf 33=4:=by kernel_rfl
  have ci:Tryz.prog.cellsOf 3=1:=by kernel_rfl
  have cb:Tryz.prog.cellsOf 4=1:=by kernel_rfl
  have each:∀i,i<len->∃q:Qn,W.cell? (ad.add (i*4))=some (.int .i64 q.k)∧W.cell? (ad.add (i*4+1))=some (.int .i64 q.u)∧W.cell? (ad.add (i*4+2))=some (.int .i64 q.v)∧W.cell? (ad.add (i*4+3))=some (.bool q.t)∧(-9223372036854775808<=q.u∧q.u<=9223372036854775807)∧(-9223372036854775808<=q.v∧q.v<=9223372036854775807):=by
   intro i hi;obtain⟨cs',h1,h2⟩:=hcell i (by rw[hm];split<;>omega);rw[ce]at h1;obtain⟨_,hlen,hc⟩:=World.cells?_some h1;obtain⟨y0,y1,y2,y3,k,_,g0,g1,g2,g3⟩:=Sl Tryz.underlying33 h2
   match cs',hlen with
   |[v0,v1,v2,v3],_=>
    simp[ci,cb]at g0 g1 g2 g3;obtain⟨z0,e0,_⟩:=DataW.trod_int Tryz.underlying3 g0;obtain⟨z1,e1,_,l1⟩:=DataW.trod_int Tryz.underlying3 g1;obtain⟨z2,e2,_,l2⟩:=DataW.trod_int Tryz.underlying3 g2;obtain⟨z3,e3,_⟩:=DataW.trod_bool Tryz.underlying4 g3;have c0:=hc 0 (by omega);have c1:=hc 1 (by omega);have c2:=hc 2 (by omega);have c3:=hc 3 (by omega);rw[add_add]at c0 c1 c2 c3;simp only[List.cons.injEq,and_true]at e0 e1 e2 e3;subst e0 e1 e2 e3;exact⟨⟨z0,z1,z2,z3⟩,by simpa using c0,by simpa using c1,by simpa using c2,by simpa using c3,VE l1,VE l2⟩
  haveI:Inhabited Qn:=⟨a17⟩
  obtain⟨q,hq⟩:=choose_lt each;have hg:∀j,j<len->((List.range len).map q).getD j a17=q j:=fun j hj=>by simp[List.getD_eq_getElem?_getD,hj]
  refine⟨(List.range len).map q,some ad,cap,by simp,fun hne=>?_⟩;have hpos:0<len:=by
   rcases Nat.eq_zero_or_pos len with e|e
   ·subst e;exact absurd rfl hne
   ·exact e
  obtain⟨b,off,spot⟩:=ad;have c0:=(hq 0 hpos).1;have hspot:spot=none:=by simpa[Addr.add]using World.cell?_spot c0
  subst hspot;rw[add_plain]at c0;refine⟨b,off,rfl,VD c0,fun j hj=>?_⟩;have hj2:j<len:=by simpa using hj
  rw[hg j hj2];obtain⟨x0,x1,x2,x3,x4⟩:=hq j hj2;simp only[add_plain]at x0 x1 x2 x3;exact⟨x0,x1,x2,x3,x4⟩
end P
section
section
open Go.RowKit
abbrev Wr:=Nat×ByteArray
structure Dk where
 sure:List ByteArray
 pend:List Wr
 brk:Option Nat
 down:Bool
 reads:Int
 writes:Int
def Je (l:List Wr)(k:Nat):Wr:=l.getD k (0,ByteArray.empty)
def Ha (l:List ByteArray)(i:Nat):ByteArray:=l.getD i ByteArray.empty
def vG (sure:List ByteArray)(pend:List Wr)(i:Nat)(n:Nat):ByteArray:=(List.range n).foldl (fun s k=>if(Je pend k).1=i then(Je pend k).2 else s) (Ha sure i)
def Dk.now (d:Dk)(i:Nat):ByteArray:=vG d.sure d.pend i d.pend.length
def jI (pend:List Wr)(i:Nat)(n:Nat):Option ByteArray:=(List.range n).foldl (fun s k=>if(Je pend k).1=i then some (Je pend k).2 else s) none
def kf:ByteArray:=⟨Array.replicate 256 0⟩
def Dk.new (n:Int):Dk:=⟨List.replicate (min (max n 0) 16384).toNat kf,[],none,false,0,0⟩
def Dk.has (d:Dk)(i:Int):Bool:=decide (0<=i∧i<d.sure.length)
def Dk.get (d:Dk)(i:Int):(ByteArray×Int)×Dk:=
 if d.down then((ByteArray.empty,4),d)else if d.has i then((d.now i.toNat,0),{d with reads:=wrap64 (d.reads+1)})else((ByteArray.empty,40),d)
structure Dk.Ok (d:Dk):Prop where
 len:d.sure.length<=16384
 sz:∀s∈d.sure,s.size=256
 pd:∀p∈d.pend,p.1<d.sure.length∧p.2.size=256
 brk:∀k,d.brk=some k->k<=9223372036854775807
theorem Jf {l:List ByteArray}(h:∀s∈l,s.size=256){i:Nat}(hi:i<l.length):(Ha l i).size=256:=by
 unfold Ha;rw[List.getD_eq_getElem?_getD,List.getElem?_eq_getElem hi];exact h _ (List.getElem_mem hi)
theorem Sn {d:Dk}(h:d.Ok){k:Nat}(hk:k<d.pend.length):(Je d.pend k).1<d.sure.length∧(Je d.pend k).2.size=256:=by
 unfold Je;rw[List.getD_eq_getElem?_getD,List.getElem?_eq_getElem hk];exact h.pd _ (List.getElem_mem hk)
theorem sO (s:List ByteArray)(p:List Wr)(i n:Nat):vG s p i (n+1)=if(Je p n).1=i then(Je p n).2 else vG s p i n:=by simp[vG,List.range_succ]
theorem zJ (p:List Wr)(i n:Nat):jI p i (n+1)=if(Je p n).1=i then some (Je p n).2 else jI p i n:=by simp[jI,List.range_succ]
theorem sP (s:List ByteArray)(p:List Wr)(i:Nat):∀n,vG s p i n=(jI p i n).getD (Ha s i)
 |0=>rfl
 |n+1=>by rw[sO,zJ,sP s p i n];split<;>rfl
theorem Bw:kf.size=256:=by decide+kernel
theorem Dk.Bx (n:Int):(Dk.new n).Ok:=by
 refine⟨?_,fun s hs=>?_,fun p hp=>?_,fun k hk=>?_⟩
 ·simp[Dk.new];omega
 ·simp only[Dk.new,List.mem_replicate]at hs;rw[hs.2];exact Bw
 ·simp[Dk.new]at hp
 ·simp[Dk.new]at hk
end
section
open Go.RowKit
open Go.ChangeMaps (setBlock)
def isKey (k:Int)(e:MapEntry):Bool:=match e.key with| .int .i64 j=>k==j|_=>false
def kg (w:World)(m:Nat)(g:Int->Option Value):Prop:=
 ∃es clock,w.heap[m]? =some (.map es clock)∧(∀e∈es.toList,∃k,e.key=.int .i64 k)∧∀k,(es.toList.find? (isKey k)).map (·.val)=g k
theorem pH (k:Int):∀(es:List MapEntry) (i:Nat),(∀e∈es,∃k,e.key=.int .i64 k)->
  (es.find? (isKey k)=none∧Instr.findNow (.int .i64) (.int .i64 k) es i=some none)∨
  ∃j e,es[j]? =some e∧es.find? (isKey k)=some e∧(∀n,n<j->∀x,es[n]? =some x->isKey k x=false)∧Instr.findNow (.int .i64) (.int .i64 k) es i=some (some (i+j,e.val))
 |[],_,_=>.inl ⟨rfl,rfl⟩
 |e::es,i,h=>by
  obtain⟨q,hq⟩:=h e (by simp);by_cases hk:k=q
  ·refine .inr ⟨0,e,rfl,?_,(fun n hn=>by omega),?_⟩
   ·simp[List.find?,isKey,hq,hk]
   ·simp[Instr.findNow,Instr.sameNow,hq,hk]
  ·have hkq:(k==q)=false:=beq_eq_false_iff_ne.2 hk;have hik:isKey k e=false:=by simp[isKey,hq,hkq]
   rcases pH k es (i+1) (fun x hx=>h x (by simp[hx]))with⟨h1,h2⟩| ⟨j,x,h1,h2,h3,h4⟩
   ·refine .inl ⟨?_,?_⟩
    ·rw[List.find?_cons,hik];exact h1
    ·simpa[Instr.findNow,Instr.sameNow,hq,hkq]using h2
   ·refine .inr ⟨j+1,x,by simpa using h1,?_,?_,?_⟩
    ·rw[List.find?_cons,hik];exact h2
    ·intro n hn y hy;cases n with
     |zero=>simp at hy;subst hy;exact hik
     |succ n=>exact h3 n (by omega) y (by simpa using hy)
    ·have e1:i+(j+1)=i+1+j:=by omega
     rw[e1];simpa[Instr.findNow,Instr.sameNow,hq,hkq]using h4
theorem pI (k:Int)(es:List MapEntry)(w:World)(r:Option (Nat×Value))(h:Instr.findNow (.int .i64) (.int .i64 k) es 0=some r):(Instr.findKey 3 (.int .i64 k) es).run Tryz.prog w=.ok r w:=by
 simp[Instr.findKey,run_underlying Tryz.underlying3,h,Result.andThen]
theorem nt (k:Int)(b:Bool)(w:World):(Instr.checkKey b 10000 3 (.int .i64 k)).run Tryz.prog w=.ok () w:=by
 exact MapKept.run_checkKey (n:=9999) Tryz.underlying3 (by simp[MapKept.IsKey]) b
def VF:Value:=.agg #[.int .i64 0,.string ByteArray.empty]
theorem kg.look {w:World}{m:Nat}{g:Int->Option Value}(h:kg w m g)(k:Int):
  (Instr.lookup 118 (.map (some m)) (.int .i64 k) true).run Tryz.prog w=.ok (.tuple #[(g k).getD VF,.bool (g k).isSome]) w:=by
 obtain⟨es,clock,hb,hk,hg⟩:=h;rcases pH k es.toList 0 hk with⟨h1,h2⟩| ⟨j,e,h1,h2,h3,h4⟩
 ·have e:=hg k;rw[h1]at e;rw[<-e];simp[Instr.lookup,run_underlying Tryz.underlying118,MapKept.run_getObj_map hb,nt,pI k _ w _ h2,Result.andThen];rfl
 ·have e1:=hg k;rw[h2]at e1;rw[<-e1];simp[Instr.lookup,run_underlying Tryz.underlying118,MapKept.run_getObj_map hb,nt,pI k _ w _ h4,Result.andThen]
theorem kg.kept {w w':World}{m:Nat}{g:Int->Option Value}(h:kg w m g)(e:w'.heap[m]? =w.heap[m]?):kg w' m g:=by
 obtain⟨es,clock,hb,r⟩:=h;exact⟨es,clock,e.trans hb,r⟩
theorem kg.lt {w:World}{m:Nat}{g:Int->Option Value}(h:kg w m g):m<w.heap.size:=by
 obtain⟨es,clock,hb,_⟩:=h;exact(Array.getElem?_eq_some_iff.1 hb).1
theorem kg.empty {w:World}{m clock:Nat}(h:w.heap[m]? =some (.map #[] clock)):kg w m (fun _=>none):=⟨_,_,h,(fun e he=>by simp at he),fun k=>by simp⟩
theorem sQ (w:World){m k:Nat}(h:k≠m)(o:Obj):(setBlock w m o).heap[k]? =w.heap[k]? :=by simp[setBlock,Ne.symm h]
def VG (l:List Wr):List Value:=l.flatMap fun p=>[.int .i64 p.1,.string p.2]
def mapOf (pend:List Wr)(k:Int):Option Value:=if k<0 then none else(jI pend k.toNat pend.length).map fun s=>.agg #[.int .i64 k,.string s]
theorem Fq:mapOf []=fun _=>none:=by funext k;simp[mapOf,jI]
structure Mem (w:World)(b m g:Nat)(pv:Value)(br:Bool)(lf:Int)(d:Dk):Prop where
 blk:w.heap[b]? =some (.cells #[.slice (some ⟨g,0,none⟩) d.sure.length d.sure.length,pv,.map (some m),.bool br,.int .i64 lf,.bool d.down,.int .i64 d.reads,.int .i64 d.writes] 125 (0,0))
 row:w.heap[g]? =some (.cells (d.sure.map Value.string).toArray 9 (0,0))
 Y0:w.ownsRow 0 306 2 pv d.pend.length (VG d.pend)
 map:kg w m (mapOf d.pend)
 enc:d.down=false->(d.brk=none∧br=false)∨∃k:Nat,d.brk=some k∧br=true∧lf=k
 ok:d.Ok
 bg:b≠g
 bm:b≠m
 gm:g≠m
 pb:pv.ownBlock≠some b
 pg:pv.ownBlock≠some g
 pm:pv.ownBlock≠some m
structure dw (X:Nat->Prop)(w w':World):Prop where
 os:w'.os=w.os
 tape:w'.tape=w.tape
 output:w'.output=w.output
 size:w.heap.size<=w'.heap.size
 block:∀k,k<w.heap.size->¬X k->w'.heap[k]? =w.heap[k]?
def Mine (X:Nat->Prop)(w:World)(b:Nat)(d:Dk):Prop:=
 (∃m g pv br lf,Mem w b m g pv br lf d∧X b∧X m∧X g∧∀k,pv.ownBlock=some k->X k)∧∀k,X k->k<w.heap.size
theorem dw.refl (X:Nat->Prop)(w:World):dw X w w:=⟨rfl,rfl,rfl,Nat.le_refl _,fun _ _ _=>rfl⟩
theorem dw.trans {X Y:Nat->Prop}{u v w:World}(h:dw X u v)(k:dw Y v w)(hY:∀k,Y k->X k∨u.heap.size<=k):dw X u w:=
 ⟨k.os.trans h.os,k.tape.trans h.tape,k.output.trans h.output,Nat.le_trans h.size k.size,fun i hi hx=>(k.block i (Nat.lt_of_lt_of_le hi h.size) (fun hy=>(hY i hy).elim hx (fun h1=>by omega))).trans (h.block i hi hx)⟩
theorem dw.alloc (X:Nat->Prop)(w:World)(o:Obj):dw X w (w.alloc o):=⟨rfl,rfl,rfl,by simp,fun k hk _=>Below.heap_alloc _ _ _ hk⟩
theorem dw.setCell {X:Nat->Prop}(w:World){b o:Nat}(hb:X b)(v:Value):dw X w (w.setCell ⟨b,o,none⟩ v):=
 ⟨rfl,rfl,rfl,by simp[World.setCell],fun k _ hx=>Below.heap_setCell _ _ _ _ (fun e=>hx (by rw[e];exact hb))⟩
theorem dw.setBlock {X:Nat->Prop}(w:World){b:Nat}(hb:X b)(o:Obj):dw X w (setBlock w b o):=
 ⟨rfl,rfl,rfl,by simp[Go.ChangeMaps.setBlock],fun k _ hx=>sQ w (fun e=>hx (by rw[e];exact hb)) o⟩
theorem dw.grown {X:Nat->Prop}{w w':World}{row:Option Nat}(h:w.grownBy w' row)(hX:∀k,row=some k->X k):dw X w w':=
 ⟨h.os,h.tape,h.output,h.size,fun k hk hx=>h.block k hk (fun e=>hx (hX k e.symm))⟩
theorem dw.below {X:Nat->Prop}{B:Nat}{a w w':World}(hb:Below B a w)(h:dw X w w')(hB:B<=w.heap.size)(hX:∀k,X k->B<=k):Below B a w':=
 hb.trans ⟨h.os,h.tape,h.output,h.size,fun k hk=>h.block k (by omega) (fun hx=>by have:=hX k hx;omega)⟩
theorem gH {w w':World}{base:Nat}{e:TypeId}{size:Nat}{v:Value}{n:Nat}{xs:List Value}(h:w.ownsRow base e size v n xs)(hk:∀k,v.ownBlock=some k->w'.heap[k]? =w.heap[k]?):w'.ownsRow base e size v n xs:=by
 refine⟨h.1,?_⟩;rcases h.2 with hn| ⟨g,cap,cur,rfl,hb,hg,rest⟩
 ·exact .inl hn
 ·exact .inr ⟨g,cap,cur,rfl,hb,(hk g rfl).trans hg,rest⟩
theorem Mem.kept {w w':World}{b m g:Nat}{pv:Value}{br:Bool}{lf:Int}{d:Dk}(h:Mem w b m g pv br lf d)(hb:w'.heap[b]? =w.heap[b]?)(hm:w'.heap[m]? =w.heap[m]?)(hg:w'.heap[g]? =w.heap[g]?)(hp:∀k,pv.ownBlock=some k->w'.heap[k]? =w.heap[k]?):Mem w' b m g pv br lf d:=
 ⟨hb.trans h.blk,hg.trans h.row,gH h.Y0 hp,h.map.kept hm,h.enc,h.ok,h.bg,h.bm,h.gm,h.pb,h.pg,h.pm⟩
theorem Mem.pk {w:World}{b m g:Nat}{pv:Value}{br:Bool}{lf:Int}{d:Dk}(h:Mem w b m g pv br lf d){k:Nat}(hk:pv.ownBlock=some k):k<w.heap.size∧k≠b∧k≠g∧k≠m:=
 ⟨(h.Y0.lt k hk).2,fun e=>h.pb (by rw[hk,e]),fun e=>h.pg (by rw[hk,e]),fun e=>h.pm (by rw[hk,e])⟩
theorem Mem.bl {w:World}{b m g:Nat}{pv:Value}{br:Bool}{lf:Int}{d:Dk}(h:Mem w b m g pv br lf d):b<w.heap.size:=(Array.getElem?_eq_some_iff.1 h.blk).1
theorem Mem.gl {w:World}{b m g:Nat}{pv:Value}{br:Bool}{lf:Int}{d:Dk}(h:Mem w b m g pv br lf d):g<w.heap.size:=(Array.getElem?_eq_some_iff.1 h.row).1
end
section
open Go.RowKit
open Go.ChangeMaps (setBlock)
abbrev ptr (b:Nat):Value:=.pointer (some ⟨b,0,none⟩)
theorem vH {a b:Bool}(h:a=b):Ending.returned (.bool a)=.returned (.bool b):=by rw[h]
section
variable {w:World}{b m g:Nat}{pv:Value}{br:Bool}{lf:Int}{d:Dk}
theorem Mem.c0 (h:Mem w b m g pv br lf d):w.cell? ⟨b,0,none⟩=some (.slice (some ⟨g,0,none⟩) d.sure.length d.sure.length):=by simp[World.cell?,h.blk]
theorem Mem.c2 (h:Mem w b m g pv br lf d):w.cell? ⟨b,2,none⟩=some (.map (some m)):=by simp[World.cell?,h.blk]
theorem Mem.c5 (h:Mem w b m g pv br lf d):w.cell? ⟨b,5,none⟩=some (.bool d.down):=by simp[World.cell?,h.blk]
theorem Mem.c6 (h:Mem w b m g pv br lf d):w.cell? ⟨b,6,none⟩=some (.int .i64 d.reads):=by simp[World.cell?,h.blk]
theorem Mem.fz (h:Mem w b m g pv br lf d)(o:Nat):w.frozen? ⟨b,o,none⟩=false:=by simp[World.frozen?,h.blk]
theorem Sp (h:Mem w b m g pv br lf d):Calls Tryz.prog 228 #[ptr b] w fun e w'=>e=.returned (.bool d.down)∧w=w':=by
 have c5:=h.c5;have lt:=h.bl;clear h;go_enter Tryz.func228,Tryz.ntmps228;go_wp2;go_ret;exact⟨rfl,rfl⟩
theorem vI (h:Mem w b m g pv br lf d):Calls Tryz.prog 77 #[ptr b] w fun e w'=>e=.returned (.int .i64 d.sure.length)∧w=w':=by
 have c0:=h.c0;have lt:=h.bl;clear h;go_enter Tryz.func77,Tryz.ntmps77;go_wp2;go_ret;exact⟨rfl,rfl⟩
theorem VH (h:Mem w b m g pv br lf d)(i:Int):Calls Tryz.prog 229 #[ptr b,.int .i64 i] w fun e w'=>e=.returned (.bool (d.has i))∧w=w':=by
 have C:Hid (Calls Tryz.prog 77 #[ptr b] w fun e w'=>e=.returned (.int .i64 d.sure.length)∧w=w'):=vI h;have lt:=h.bl;clear h;by_cases h0:0<=i
 ·go_enter Tryz.func229,Tryz.ntmps229
  go_wp2_with fail
  refine Calls.mono C.out ?_;rintro e w1 ⟨rfl,rfl⟩;go_wp2;go_ret;exact⟨vH (by unfold Dk.has;simp[h0]),rfl⟩
 ·have h1:i<0:=by omega
  go_enter Tryz.func229,Tryz.ntmps229;go_wp2;go_ret;exact⟨vH (by unfold Dk.has;simp;omega),rfl⟩
theorem Mem.VJ (h:Mem w b m g pv br lf d){i:Nat}(hi:i<d.sure.length):w.cell? ⟨g,i,none⟩=some (.string (Ha d.sure i)):=by
 simp[World.cell?,h.row,hi,Ha]
theorem VK (o:Nat)(x y:Int)(c:w.cell? ⟨b,o,none⟩=some (.int .i64 x))(f:w.frozen? ⟨b,o,none⟩=false):Calls Tryz.prog 230 #[.pointer (some ⟨b,o,none⟩),.int .i64 y] w fun e w'=>e=.returned (.int .i64 (wrap64 (x+y)))∧w'=w.setCell ⟨b,o,none⟩ (.int .i64 (wrap64 (x+y))):=by
 have hl:=run_call_add (P:=Tryz.prog) Tryz.func239 (by kernel_rfl) (by kernel_rfl) (by kernel_rfl) .i64 (by kernel_rfl) (y:=y) (s:=wrap64 (x+y)) c f (by simp[go_sem,wrap64,IntKind.wrap_i64]);go_enter Tryz.func230,Tryz.ntmps230;go_wp2;go_ret;exact⟨rfl,rfl⟩
end
end
section
open Go.RowKit
open Go.ChangeMaps (setBlock)
structure iX (b:Nat)(w w':World):Prop where
 os:w'.os=w.os
 tape:w'.tape=w.tape
 output:w'.output=w.output
 size:w'.heap.size=w.heap.size
 block:∀k,k≠b->w'.heap[k]? =w.heap[k]?
theorem iX.refl (b:Nat)(w:World):iX b w w:=⟨rfl,rfl,rfl,rfl,fun _ _=>rfl⟩
theorem iX.trans {b:Nat}{u v w:World}(h:iX b u v)(k:iX b v w):iX b u w:=
 ⟨k.os.trans h.os,k.tape.trans h.tape,k.output.trans h.output,k.size.trans h.size,fun i hi=>(k.block i hi).trans (h.block i hi)⟩
theorem iX.setCell (b o:Nat)(w:World)(v:Value):iX b w (w.setCell ⟨b,o,none⟩ v):=
 ⟨rfl,rfl,rfl,by simp[World.setCell],fun k hk=>Below.heap_setCell _ _ _ _ hk⟩
section
variable {w w':World}{b m g:Nat}{pv:Value}{br:Bool}{lf:Int}{d:Dk}
theorem Mem.upd (h:Mem w b m g pv br lf d)(o:iX b w w'){XL:Bool}{Y5:Int}{d':Dk}(hs:d'.sure=d.sure)(hp:d'.pend=d.pend)
  (hb:w'.heap[b]? =some (.cells #[.slice (some ⟨g,0,none⟩) d.sure.length d.sure.length,pv,.map (some m),.bool XL,.int .i64 Y5,.bool d'.down,.int .i64 d'.reads,.int .i64 d'.writes] 125 (0,0)))
  (enc:d'.down=false->(d'.brk=none∧XL=false)∨∃k:Nat,d'.brk=some k∧XL=true∧Y5=k)(ok:d'.Ok):Mem w' b m g pv XL Y5 d':=
 ⟨by rw[hs];exact hb,by rw[hs];exact(o.block g h.bg.symm).trans h.row,by rw[hp];exact gH h.Y0 (fun k hk=>o.block k (h.pk hk).2.1),by rw[hp];exact h.map.kept (o.block m h.bm.symm),enc,ok,h.bg,h.bm,h.gm,h.pb,h.pg,h.pm⟩
def VL (w:World)(b m g:Nat)(pv:Value)(d:Dk):Prop:=∃br lf,Mem w b m g pv br lf d
theorem Mem.Y6 (h:Mem w b m g pv br lf d)(x:Int):Mem (w.setCell ⟨b,6,none⟩ (.int .i64 x)) b m g pv br lf {d with reads:=x}:=
 h.upd (iX.setCell b 6 w _) rfl rfl (by simp[World.setCell,Array.getElem?_modify,h.blk]) h.enc ⟨h.ok.len,h.ok.sz,h.ok.pd,h.ok.brk⟩
theorem Mem.alloc (h:Mem w b m g pv br lf d)(o:Obj):Mem (w.alloc o) b m g pv br lf d:=
 h.kept (Below.heap_alloc _ _ _ h.bl) (Below.heap_alloc _ _ _ h.map.lt) (Below.heap_alloc _ _ _ h.gl) (fun k hk=>Below.heap_alloc _ _ _ (h.pk hk).1)
end
end
section
open Go.RowKit
open Go.ChangeMaps (setBlock)
section
variable {w w':World}{b m g:Nat}{pv:Value}{br:Bool}{lf:Int}{d:Dk}
theorem Sq (h:Mem w b m g pv br lf d)(i:Int):Calls Tryz.prog 206 #[ptr b,.int .i64 i] w fun e w'=>e=.returned (.tuple #[.string (d.get i).1.1,.int .i64 (d.get i).1.2])∧dw (fun k=>k=b) w w'∧VL w' b m g pv (d.get i).2:=by
 have H:Hid (Mem w b m g pv br lf d):=h;have C1:Hid (Calls Tryz.prog 228 #[ptr b] w fun e w'=>e=.returned (.bool d.down)∧w=w'):=Sp h;have C2:Hid (Calls Tryz.prog 229 #[ptr b,.int .i64 i] w fun e w'=>e=.returned (.bool (d.has i))∧w=w'):=VH h i;have lt:=h.bl;have hl:=h.ok.len;by_cases hd:d.down=true
 ·have HG:Hid (d.get i=((ByteArray.empty,4),d)):=by show d.get i=_;unfold Dk.get;rw[if_pos hd]
  clear h;go_enter Tryz.func206,Tryz.ntmps206
  go_wp2_with fail
  refine Calls.mono C1.out ?_;rintro e w1 ⟨rfl,rfl⟩;go_wp2;go_ret2;rw[HG.out];exact⟨rfl,dw.refl _ _,br,lf,H.out⟩
 ·have hf:d.down=false:=by simpa using hd
  by_cases hi:d.has i=true
  ·have HG:Hid (d.get i=((d.now i.toNat,0),{d with reads:=wrap64 (d.reads+1)})):=by show d.get i=_;unfold Dk.get;rw[if_neg hd,if_pos hi]
   obtain⟨h0,h1⟩:=of_decide_eq_true hi;obtain⟨n,rfl⟩:∃n:Nat,i=n:=⟨i.toNat,by omega⟩;have hn:n<d.sure.length:=by omega
   have C3:Hid (Calls Tryz.prog 230 #[.pointer (some ⟨b,6,none⟩),.int .i64 1] w fun e w'=>e=.returned (.int .i64 (wrap64 (d.reads+1)))∧w'=w.setCell ⟨b,6,none⟩ (.int .i64 (wrap64 (d.reads+1)))):=VK 6 _ _ h.c6 (h.fz 6);obtain⟨w2,e2⟩:∃w2,w2=w.setCell ⟨b,6,none⟩ (.int .i64 (wrap64 (d.reads+1))):=⟨_,rfl⟩;have h2:Mem w2 b m g pv br lf {d with reads:=wrap64 (d.reads+1)}:=by rw[e2];exact h.Y6 _
   have H2:Hid (Mem w2 b m g pv br lf {d with reads:=wrap64 (d.reads+1)}):=h2;have T2:Hid (dw (fun k=>k=b) w w2):=by show dw _ _ _;rw[e2];exact dw.setCell (X:=fun k=>k=b) w rfl _
   rw[<-e2]at C3;have c0:=h2.c0;have c2:=h2.c2;have lt2:=h2.bl;have gl2:=h2.gl;have cg:=h2.VJ (i:=n) hn;have hlk:=h2.map.look n;have HN:Hid (d.now (n:Int).toNat=(jI d.pend n d.pend.length).getD (Ha d.sure n)):=sP _ _ _ _;have em:mapOf d.pend n=(jI d.pend n d.pend.length).map fun s=>.agg #[.int .i64 n,.string s]:=by unfold mapOf;rw[if_neg (by omega)];rfl
   clear h h2 e2;cases hlast:jI d.pend n d.pend.length with
   |none=>
    rw[hlast]at em HN;rw[em]at hlk;have HLK:(Instr.lookup 118 (.map (some m)) (.int .i64 n) true).run Tryz.prog w2=.ok (.tuple #[.agg #[.int .i64 0,.string ByteArray.empty],.bool false]) w2:=hlk;clear hlast em hlk;go_enter Tryz.func206,Tryz.ntmps206
    go_wp2_with fail
    refine Calls.mono C1.out ?_;rintro e w1 ⟨rfl,rfl⟩
    go_wp2_with fail
    refine Calls.mono C2.out ?_;rintro e w1 ⟨rfl,rfl⟩
    go_wp2_with fail
    refine Calls.mono C3.out ?_;rintro e w1 ⟨rfl,rfl⟩;go_wp2;go_ret2;rw[HG.out];refine⟨?_,T2.out.trans (dw.alloc (fun k=>k=b) _ _) (fun _ hk=>.inl hk),br,lf,H2.out.alloc _⟩;rw[HN.out];rfl
   |some s=>
    rw[hlast]at em HN;rw[em]at hlk;have HLK:(Instr.lookup 118 (.map (some m)) (.int .i64 n) true).run Tryz.prog w2=.ok (.tuple #[.agg #[.int .i64 n,.string s],.bool true]) w2:=hlk;clear hlast em hlk;go_enter Tryz.func206,Tryz.ntmps206
    go_wp2_with fail
    refine Calls.mono C1.out ?_;rintro e w1 ⟨rfl,rfl⟩
    go_wp2_with fail
    refine Calls.mono C2.out ?_;rintro e w1 ⟨rfl,rfl⟩
    go_wp2_with fail
    refine Calls.mono C3.out ?_;rintro e w1 ⟨rfl,rfl⟩;go_wp2;go_ret2;rw[HG.out];refine⟨?_,T2.out.trans (dw.alloc (fun k=>k=b) _ _) (fun _ hk=>.inl hk),br,lf,H2.out.alloc _⟩;rw[HN.out];rfl
  ·have hif:d.has i=false:=by simpa using hi
   have HG:Hid (d.get i=((ByteArray.empty,40),d)):=by show d.get i=_;unfold Dk.get;rw[if_neg hd,if_neg hi]
   clear h;go_enter Tryz.func206,Tryz.ntmps206
   go_wp2_with fail
   refine Calls.mono C1.out ?_;rintro e w1 ⟨rfl,rfl⟩
   go_wp2_with fail
   refine Calls.mono C2.out ?_;rintro e w1 ⟨rfl,rfl⟩;go_wp2;go_ret2;rw[HG.out];exact⟨rfl,dw.refl _ _,br,lf,H.out⟩
end
end
section
open Go.RowKit
open Go.ChangeMaps (setBlock)
section
variable {w w':World}{b m g:Nat}{pv:Value}{br:Bool}{lf:Int}{d:Dk}
abbrev bx (n:Nat)(s:ByteArray):Obj:=.cells #[.int .i64 n,.string s] 306
end
end
section
open Go.RowKit
open Go.ChangeMaps (setBlock)
section
variable {w w':World}{b m g:Nat}{pv:Value}{br:Bool}{lf:Int}{d:Dk}
end
end
section
open Go.RowKit
open Go.ChangeMaps (setBlock)
def oL (w:World)(v:Value)(l:List Int):Prop:=
 ∃ao cap,v=.slice ao l.length cap∧(l≠[]->∃r o,ao=some ⟨r,o,none⟩∧r<w.heap.size∧∀j,j<l.length->w.cell? ⟨r,o+j,none⟩=some (.int .i64 (l.getD j 0)))
theorem vJ {keep:List Int}{t:Nat}(ht:t<keep.length):keep.take (t+1)=keep.take t++[keep.getD t 0]:=by
 rw[List.take_add_one,List.getElem?_eq_getElem ht,List.getD_eq_getElem?_getD,List.getElem?_eq_getElem ht];rfl
section
variable {w w':World}{b m g:Nat}{pv:Value}{br:Bool}{lf:Int}{d:Dk}
end
end
section
open Go.RowKit
end
section
open Go.RowKit
open Go.ChangeMaps (setBlock)
theorem Bz:(Tryz.prog.info? 9).map (fun i=>(i.zero,i.size,i.bytes))=some (some (.string ByteArray.empty),1,16):=by kernel_rfl
def dV (N t:Nat):List ByteArray:=List.replicate t kf++List.replicate (N-t) ByteArray.empty
theorem uH {N t:Nat}(h:t<=N):(dV N t).length=N:=by simp[dV];omega
theorem BA {N t:Nat}(h:t<N):dV N (t+1)=(dV N t).set t kf:=by
 unfold dV;rw[List.set_append_right _ _ (by simp),show N-t=(N- (t+1))+1 by omega,List.replicate_succ' (n:=t),List.replicate_succ (n:=N- (t+1))];simp
theorem BC (N:Nat):dV N N=List.replicate N kf:=by simp[dV]
theorem Fs (w:World)(N:Nat)(hN:N<1000000):(Instr.makeSlice 48 (.int .i64 N) (.int .i64 N)).run Tryz.prog w=.ok (.slice (some ⟨w.heap.size,0,none⟩) N N) (w.alloc (.cells ((dV N 0).map Value.string).toArray 9)):=by
 obtain⟨i0,hi,hz0,hz1,hz2⟩:=info_parts Bz;have h:=run_make (P:=Tryz.prog) w 48 9 i0 _ Tryz.underlying48 hi hz0 .i64 .i64 N N (by omega) (Int.le_refl _) (by rw[hz2];omega) (by omega);rw[h];have e:madeCells (Value.string ByteArray.empty).cells ((N:Int).toNat*i0.size)=((dV N 0).map Value.string).toArray:=by
  rw[hz1,Int.toNat_natCast,Nat.mul_one];apply Array.toList_inj.1;rw[show(Value.string ByteArray.empty).cells=#[Value.string ByteArray.empty]from rfl,toList_madeCells_one];simp[dV]
 rw[e];simp
theorem xo:(⟨(Lib.repeatL [0] 256).toArray⟩:ByteArray)=kf:=by decide+kernel
theorem VN (n:Int)(w:World):Calls Tryz.prog 30 #[.int .i64 n] w fun e w'=>∃b,e=.returned (ptr b)∧Below w.heap.size w w'∧Mine (fun k=>w.heap.size<=k∧k<w'.heap.size) w' b (Dk.new n):=by
 obtain⟨N,hN⟩:∃N:Nat,N=(min (max n 0) 16384).toNat:=⟨_,rfl⟩;have hNl:N<=16384:=by omega
 have HD:Hid (Dk.new n=⟨List.replicate N kf,[],none,false,0,0⟩):=by show Dk.new n=_;unfold Dk.new;rw[hN]
 have OKD:Hid ((Dk.new n).Ok):=Dk.Bx n;have hmk:=Fs w N (by omega);have hmm:=@run_makeMap Tryz.prog;obtain⟨w1,e1⟩:∃w1,w1=w.alloc (.cells ((dV N 0).map Value.string).toArray 9):=⟨_,rfl⟩;rw[<-e1]at hmk;have Q1:Hid (w1.heap[w.heap.size]? =some (.cells ((dV N 0).map Value.string).toArray 9 (0,0))):=by show _=_;rw[e1];exact heap_alloc_new w _
 have B1:Hid (Below w.heap.size w w1):=by show Below _ _ _;rw[e1];exact(Below.refl _ _).alloc (Nat.le_refl _) _
 have S1:w1.heap.size=w.heap.size+1:=by rw[e1];simp
 clear e1;have hmx:min (max n 0) 16384=(N:Int):=by omega
 clear hN;go_enter Tryz.func30,Tryz.ntmps30
 go_wp2_with fail
 obtain⟨w3,e3⟩:∃w3,w3=(w1.alloc (.map #[] 0)).alloc (.cells #[.slice (some ⟨w.heap.size,0,none⟩) N N,.slice none 0 0,.map (some (w.heap.size+1)),.bool false,.int .i64 0,.bool false,.int .i64 0,.int .i64 0] 125):=⟨_,rfl⟩;rw[<-e3];have hA:(w1.alloc (.map #[] 0)).heap.size=w.heap.size+1+1:=by simp[S1]
 have P3:Hid (w3.heap[w.heap.size+1+1]? =some (.cells #[.slice (some ⟨w.heap.size,0,none⟩) N N,.slice none 0 0,.map (some (w.heap.size+1)),.bool false,.int .i64 0,.bool false,.int .i64 0,.int .i64 0] 125 (0,0))):=by
  show _=_;rw[e3,<-hA];exact heap_alloc_new _ _
 have K3:Hid (∀k,k<w1.heap.size->w3.heap[k]? =w1.heap[k]?):=fun k hk=>by
  rw[e3];exact(Below.heap_alloc _ _ k (by rw[hA];omega)).trans (Below.heap_alloc _ _ k hk)
 have N3:Hid (w3.heap[w.heap.size+1]? =some (.map #[] 0)):=by
  show _=_;rw[e3,Below.heap_alloc _ _ _ (by rw[hA];omega),<-S1];exact heap_alloc_new _ _
 have S3:w3.heap.size=w.heap.size+3:=by rw[e3];simp[S1]
 have B3:Hid (Below w.heap.size w w3):=by show Below _ _ _;rw[e3];exact(B1.out.alloc (by omega) _).alloc (by rw[hA];omega) _
 clear e3 hA;have RC:Hid (Calls Tryz.prog 57 #[.string ⟨#[0]⟩,.int .i64 (256:Nat)] w3 fun e w'=>e=.returned (.string ⟨(Lib.repeatL [0] 256).toArray⟩)∧Below w3.heap.size w3 w'):=Tryz.strings_Repeat ⟨#[0]⟩ 256 w3 (by omega) (by show 1*256<=_;omega);refine Calls.mono RC.out ?_;rintro e w4 ⟨rfl,b4⟩;rw[xo];have B4:Hid (Below w3.heap.size w3 w4):=b4;have s4:w.heap.size+3<=w4.heap.size:=by rw[<-S3];exact b4.size
 have P4:Hid (w4.heap[w.heap.size+1+1]? =some (.cells #[.slice (some ⟨w.heap.size,0,none⟩) N N,.slice none 0 0,.map (some (w.heap.size+1)),.bool false,.int .i64 0,.bool false,.int .i64 0,.int .i64 0] 125 (0,0))):=(b4.block _ (by omega)).trans P3.out;have N4:Hid (w4.heap[w.heap.size+1]? =some (.map #[] 0)):=(b4.block _ (by omega)).trans N3.out;have Q4:Hid (w4.heap[w.heap.size]? =some (.cells ((dV N 0).map Value.string).toArray 9 (0,0))):=(b4.block _ (by omega)).trans ((K3.out _ (by omega)).trans Q1.out);have c0:w4.cell? ⟨w.heap.size+1+1,0,none⟩=some (.slice (some ⟨w.heap.size,0,none⟩) N N):=by simp[World.cell?,P4.out]
 have lt4:w.heap.size+1+1<w4.heap.size:=by omega
 clear b4 RC hmm hmk hmx;obtain⟨z,hz⟩:∃z,z=kf:=⟨_,rfl⟩;rw[<-hz];have HZ:Hid (z=kf):=hz;clear hz;go_wp2
 go_loopg [19] N (fun gk s19 wr=>∃t:Nat,s19=.int .i64 t∧t<=N∧N-t<=gk∧Aside (wr.heap[w.heap.size]? =some (.cells ((dV N t).map Value.string).toArray 9 (0,0)))∧Hid (iX w.heap.size w4 wr))
 case atStart=>exact⟨0,rfl,Nat.zero_le _,Nat.le_refl _,Q4.out,iX.refl _ _⟩
 case round=>
  obtain⟨t,rfl,ht,hgt,HQ,HO⟩:=hrel;have cr:wr.cell? ⟨w.heap.size+1+1,0,none⟩=some (.slice (some ⟨w.heap.size,0,none⟩) N N):=(World.cell?_of_block (a:=⟨w.heap.size+1+1,0,none⟩) (HO.out.block _ (by show w.heap.size+1+1≠w.heap.size;omega))).trans c0;have ltr:w.heap.size+1+1<wr.heap.size:=by rw[HO.out.size];exact lt4
  by_cases htl:t<N
  ·have htz:(t:Int)< (N:Int):=by omega
   have q0:wr.cell? ⟨w.heap.size,t,none⟩=some (.string (Ha (dV N t) t)):=by
    have hl:t< (dV N t).length:=by rw[uH ht];exact htl
    simp only[World.cell?,HQ.out];simp[Ha,hl]
   have qf:wr.frozen? ⟨w.heap.size,t,none⟩=false:=by simp[World.frozen?,HQ.out]
   have Hfs:Hid (dV N (t+1)=(dV N t).set t kf):=BA htl;generalize Ha (dV N t) t=old at*;go_wp2
   go_roundg (N- (t+1))
   case measure=>omega
   case rel=>
    refine⟨t+1,by go_num,by omega,Nat.le_refl _,?_,HO.out.trans (iX.setCell _ _ _ _)⟩;show _=_;rw[Hfs.out,HZ.out];simp[World.setCell,Array.getElem?_modify,HQ.out]
  ·have htz:¬(t:Int)< (N:Int):=by omega
   obtain rfl:t=N:=by omega
   have fin:Below w.heap.size w wr∧Mine (fun k=>w.heap.size<=k∧k<wr.heap.size) wr (w.heap.size+1+1) (Dk.new n):=by
    refine⟨B3.out.trans ⟨HO.out.os.trans B4.out.os,HO.out.tape.trans B4.out.tape,HO.out.output.trans B4.out.output,by rw[HO.out.size];omega,fun k hk=>(HO.out.block k (by omega)).trans (B4.out.block k (by omega))⟩,⟨w.heap.size+1,w.heap.size,.slice none 0 0,false,0,?_,by omega,by omega,by omega,fun k hk=>by simp[Value.ownBlock]at hk⟩,fun k hk=>hk.2⟩;have OK:=OKD.out;rw[HD.out]at OK⊢;refine⟨?_,?_,World.ownsRow_nil _ _ _ _,?_,fun _=>.inl ⟨rfl,rfl⟩,OK,by omega,by omega,by omega,by simp[Value.ownBlock],by simp[Value.ownBlock],by simp[Value.ownBlock]⟩
    ·rw[HO.out.block _ (by omega),P4.out];simp
    ·rw[HQ.out,BC]
    ·rw[Fq];exact kg.empty ((HO.out.block _ (by omega)).trans N4.out)
   have FIN:Hid (Below w.heap.size w wr∧Mine (fun k=>w.heap.size<=k∧k<wr.heap.size) wr (w.heap.size+1+1) (Dk.new n)):=fin;clear fin HQ HO;go_wp2;go_ret;exact⟨_,rfl,FIN.out⟩
end
section
open Go.RowKit
def Goes (X:Nat->Prop)(w w':World)(b:Nat)(d':Dk):Prop:=∃X',Mine X' w' b d'∧dw X w w'∧∀k,X' k->X k∨w.heap.size<=k
section
variable {X:Nat->Prop}{w w':World}{b m g:Nat}{pv pv':Value}{br:Bool}{lf:Int}{d d':Dk}
theorem Nk (hl:∀k,X k->k<w.heap.size)(hM:VL w' b m g pv' d')(xb:X b)(xm:X m)(xg:X g)(hp:∀k,pv'.ownBlock=some k->X k∨w.heap.size<=k)(ht:dw X w w'):Goes X w w' b d':=by
 obtain⟨br,lf,h⟩:=hM;refine⟨fun k=>X k∨(w.heap.size<=k∧k<w'.heap.size),⟨⟨m,g,pv',br,lf,h,.inl xb,.inl xm,.inl xg,fun k hk=>(hp k hk).elim .inl (fun h1=>.inr ⟨h1,(h.pk hk).1⟩)⟩,fun k hk=>?_⟩,ht,fun k hk=>hk.elim .inl (fun h=>.inr h.1)⟩;rcases hk with h1|h1
 ·exact Nat.lt_of_lt_of_le (hl k h1) ht.size
 ·exact h1.2
theorem dw.sub {Y:Nat->Prop}(t:dw Y w w')(h:∀k,Y k->X k):dw X w w':=⟨t.os,t.tape,t.output,t.size,fun k hk hx=>t.block k hk (fun hy=>hx (h k hy))⟩
theorem Fu (h:Mine X w b d):Calls Tryz.prog 77 #[ptr b] w fun e w'=>e=.returned (.int .i64 d.sure.length)∧w=w':=by
 obtain⟨⟨m,g,pv,br,lf,hM,_⟩,_⟩:=h;exact vI hM
theorem Sr (h:Mine X w b d)(i:Int):Calls Tryz.prog 206 #[ptr b,.int .i64 i] w fun e w'=>e=.returned (.tuple #[.string (d.get i).1.1,.int .i64 (d.get i).1.2])∧Goes X w w' b (d.get i).2:=by
 obtain⟨⟨m,g,pv,br,lf,hM,xb,xm,xg,xp⟩,hl⟩:=h;refine(Sq hM i).mono ?_;rintro e w' ⟨he,ht,hm⟩;exact⟨he,Nk hl hm xb xm xg (fun k hk=>.inl (xp k hk)) (ht.sub (fun k hk=>by subst hk;exact xb))⟩
end
end
section
open Go.RowKit
abbrev aM:=World->(Nat->Prop)->Prop
structure Good (r:aM):Prop where
 kept:∀w w' X,r w X->(∀k,X k->w'.heap[k]? =w.heap[k]?)->w.heap.size<=w'.heap.size->r w' X
 lt:∀w X,r w X->∀k,X k->k<w.heap.size
def Hp (w:World):List aM->(Nat->Prop)->Prop
 |[],Y=>∀k,¬Y k
 |r::l,Y=>Good r∧∃X Z,r w X∧Hp w l Z∧(∀k,X k->¬Z k)∧∀k,Y k↔X k∨Z k
def Sep (B:Nat)(w0 w:World)(l:List aM):Prop:=B<=w.heap.size∧Below B w0 w∧∃Y,Hp w l Y∧∀k,Y k->B<=k
theorem Hp.lt {w:World}:∀ {l:List aM} {Y:Nat->Prop},Hp w l Y->∀k,Y k->k<w.heap.size
 |[],_,h,k,hk=>absurd hk (h k)
 |r::l,_,⟨g,X,Z,hr,hl,_,hy⟩,k,hk=>by
  rcases(hy k).1 hk with h|h
  ·exact g.lt w X hr k h
  ·exact hl.lt k h
theorem Hp.kept {w w':World}(hs:w.heap.size<=w'.heap.size):∀ {l:List aM} {Y:Nat->Prop},Hp w l Y->(∀k,Y k->w'.heap[k]? =w.heap[k]?)->Hp w' l Y
 |[],_,h,_=>h
 |r::l,_,⟨g,X,Z,hr,hl,hd,hy⟩,hk=>⟨g,X,Z,g.kept w w' X hr (fun k h=>hk k ((hy k).2 (.inl h))) hs,hl.kept hs (fun k h=>hk k ((hy k).2 (.inr h))),hd,hy⟩
theorem Hp.swap {w:World}{a b:aM}{l:List aM}{Y:Nat->Prop}(h:Hp w (a::b::l) Y):Hp w (b::a::l) Y:=by
 obtain⟨ga,X,Z,ha,⟨gb,X2,Z2,hb,hl,hd2,hy2⟩,hd,hy⟩:=h;refine⟨gb,X2,fun k=>X k∨Z2 k,hb,⟨ga,X,Z2,ha,hl,fun k hk h2=>hd k hk ((hy2 k).2 (.inr h2)),fun k=>Iff.rfl⟩,fun k hk h2=>?_,fun k=>?_⟩
 ·rcases h2 with h2|h2
  ·exact hd k h2 ((hy2 k).2 (.inl hk))
  ·exact hd2 k hk h2
 ·rw[hy k,hy2 k];constructor
  ·rintro(h|h|h)
   ·exact .inr (.inl h)
   ·exact .inl h
   ·exact .inr (.inr h)
  ·rintro(h|h|h)
   ·exact .inr (.inl h)
   ·exact .inl h
   ·exact .inr (.inr h)
theorem Hp.under {w:World}{a:aM}{l l':List aM}{Y:Nat->Prop}(h:Hp w (a::l) Y)(f:∀Z,Hp w l Z->Hp w l' Z):Hp w (a::l') Y:=by
 obtain⟨ga,X,Z,ha,hl,hd,hy⟩:=h;exact⟨ga,X,Z,ha,f Z hl,hd,hy⟩
section
variable {B:Nat}{w0 w w':World}{a b c e:aM}{l:List aM}
theorem Sep.map {l l':List aM}(h:Sep B w0 w l)(f:∀Z,Hp w l Z->Hp w l' Z):Sep B w0 w l':=by
 obtain⟨hB,hb,Y,hl,hY⟩:=h;exact⟨hB,hb,Y,f Y hl,hY⟩
theorem Sep.sR (h:Sep B w0 w (a::b::l)):Sep B w0 w (b::a::l):=h.map fun _=>Hp.swap
theorem Sep.Qo (h:Sep B w0 w (a::b::c::l)):Sep B w0 w (c::a::b::l):=(h.map fun _ h=>Hp.under h fun _=>Hp.swap).sR
theorem Sep.up3 (h:Sep B w0 w (a::b::c::e::l)):Sep B w0 w (e::a::b::c::l):=(h.map fun _ h=>Hp.under h fun _ h=>Hp.under h fun _=>Hp.swap).Qo
theorem Sep.VO (h:Sep B w0 w (c::a::b::l)):Sep B w0 w (a::b::c::l):=h.sR.map fun _ h=>Hp.under h fun _=>Hp.swap
theorem Sep.dn3 (h:Sep B w0 w (e::a::b::c::l)):Sep B w0 w (a::b::c::e::l):=h.VO.map fun _ h=>Hp.under h fun _ h=>Hp.under h fun _=>Hp.swap
theorem Sep.Y7 {f:aM}(h:Sep B w0 w (f::a::b::c::e::l)):Sep B w0 w (a::b::c::e::f::l):=h.dn3.map fun _ h=>Hp.under h fun _ h=>Hp.under h fun _ h=>Hp.under h fun _=>Hp.swap
theorem Sep.Ss (h:Sep B w0 w l):Below B w0 w:=h.2.1
theorem Sep.below {l:List aM}(h:Sep B w0 w l)(hb:Below w.heap.size w w'):Sep B w0 w' l:=by
 obtain⟨hB,hb0,Y,hl,hY⟩:=h;exact⟨Nat.le_trans hB hb.size,hb0.trans (hb.mono hB),Y,hl.kept hb.size (fun k hk=>hb.block k (hl.lt k hk)),hY⟩
theorem Sep.alloc {l:List aM}(h:Sep B w0 w l)(o:Obj):Sep B w0 (w.alloc o) l:=h.below ((Below.refl _ _).alloc (Nat.le_refl _) o)
theorem Sep.drew {l:List aM}(h:Sep B w0 w l):Sep B w0 w.drew l:=h.below (Below.refl _ _).drew
theorem Sep.nil (hB:B<=w.heap.size)(hb:Below B w0 w):Sep B w0 w []:=⟨hB,hb,fun _=>False,fun _ h=>h,fun _ h=>h.elim⟩
theorem Sep.step {a':aM}(h:Sep B w0 w (a::l))(g':Good a')(f:∀X,a w X->∃X',a' w' X'∧dw X w w'∧∀k,X' k->X k∨w.heap.size<=k):Sep B w0 w' (a'::l):=by
 obtain⟨hB,hb,Y,⟨ga,X,Z,ha,hl,hd,hy⟩,hY⟩:=h;obtain⟨X',ha',ht,hx⟩:=f X ha;have hlt:=hl.lt;refine⟨Nat.le_trans hB ht.size,ht.below hb hB (fun k hk=>hY k ((hy k).2 (.inl hk))),fun k=>X' k∨Z k,⟨g',X',Z,ha',hl.kept ht.size (fun k hk=>ht.block k (hlt k hk) (fun hx=>hd k hx hk)),fun k hk hz=>?_,fun k=>Iff.rfl⟩,fun k hk=>?_⟩
 ·rcases hx k hk with h1|h1
  ·exact hd k h1 hz
  ·have:=hlt k hz;omega
 ·rcases hk with h1|h1
  ·rcases hx k h1 with h2|h2
   ·exact hY k ((hy k).2 (.inl h2))
   ·omega
  ·exact hY k ((hy k).2 (.inr h1))
theorem Sep.add {a':aM}(h:Sep B w0 w l)(hb:Below w.heap.size w w')(g':Good a'){X:Nat->Prop}(ha:a' w' X)(hX:∀k,X k->w.heap.size<=k):Sep B w0 w' (a'::l):=by
 have h':=h.below hb;obtain⟨hB,_,Y,hl,hY⟩:=h;have hlt:=hl.lt;obtain⟨hB',hb',_⟩:=h';refine⟨hB',hb',fun k=>X k∨Y k,⟨g',X,Y,ha,hl.kept hb.size (fun k hk=>hb.block k (hlt k hk)),fun k hk hz=>?_,fun k=>Iff.rfl⟩,fun k hk=>?_⟩
 ·have:=hX k hk;have:=hlt k hz;omega
 ·rcases hk with h1|h1
  ·have:=hX k h1;omega
  ·exact hY k h1
end
def pV (b:Nat)(d:Dk):aM:=fun w X=>Mine X w b d
theorem oM (b:Nat)(d:Dk):Good (pV b d):=
 ⟨fun w w' X h hk hs=>by
  obtain⟨⟨m,g,pv,br,lf,hM,xb,xm,xg,xp⟩,hl⟩:=h
  exact⟨⟨m,g,pv,br,lf,hM.kept (hk _ xb) (hk _ xm) (hk _ xg) (fun k h=>hk k (xp k h)),xb,xm,xg,xp⟩,fun k hk=>Nat.lt_of_lt_of_le (hl k hk) hs⟩,fun w X h=>h.2⟩
section
variable {B:Nat}{w0 w w':World}{b:Nat}{d d':Dk}{l:List aM}
theorem Sep.mine (h:Sep B w0 w (pV b d::l)):∃X,Mine X w b d:=by
 obtain⟨_,_,Y,⟨_,X,_,ha,_⟩,_⟩:=h;exact⟨X,ha⟩
theorem Sep.ok (h:Sep B w0 w (pV b d::l)):d.Ok:=by
 obtain⟨X,⟨m,g,pv,br,lf,hM,_⟩,_⟩:=h.mine;exact hM.ok
theorem Calls.Nl {P:Program}{f:Nat}{args:Array Value}{Q:Ending->World->Prop}{v:Value}(h:Sep B w0 w (pV b d::l))(hQ:∀X,Mine X w b d->Calls P f args w (fun e w'=>e=.returned v∧Goes X w w' b d')):Calls P f args w fun e w'=>e=.returned v∧Sep B w0 w' (pV b d'::l):=by
 obtain⟨hB,hb,Y,⟨ga,X,Z,ha,hl,hd,hy⟩,hY⟩:=h;refine(hQ X ha).mono ?_;rintro e w' ⟨he,X',hm,ht,hx⟩;refine⟨he,Nat.le_trans hB ht.size,ht.below hb hB (fun k hk=>hY k ((hy k).2 (.inl hk))),fun k=>X' k∨Z k,⟨oM b d',X',Z,hm,hl.kept ht.size (fun k hk=>ht.block k (hl.lt k hk) (fun hx=>hd k hx hk)),fun k hk hz=>?_,fun k=>Iff.rfl⟩,fun k hk=>?_⟩
 ·rcases hx k hk with h1|h1
  ·exact hd k h1 hz
  ·have:=hl.lt k hz;omega
 ·rcases hk with h1|h1
  ·rcases hx k h1 with h2|h2
   ·exact hY k ((hy k).2 (.inl h2))
   ·omega
  ·exact hY k ((hy k).2 (.inr h1))
theorem VP (n:Int)(h:Sep B w0 w l):Calls Tryz.prog 30 #[.int .i64 n] w fun e w'=>∃b,e=.returned (ptr b)∧Sep B w0 w' (pV b (Dk.new n)::l):=by
 refine(VN n w).mono ?_;rintro e w' ⟨b,he,hbl,hm⟩;exact⟨b,he,h.add hbl (oM _ _) hm (fun k hk=>hk.1)⟩
theorem Fv (h:Sep B w0 w (pV b d::l)):Calls Tryz.prog 77 #[ptr b] w fun e w'=>e=.returned (.int .i64 d.sure.length)∧w=w':=by obtain⟨X,hm⟩:=h.mine;exact Fu hm
theorem Su (h:Sep B w0 w (pV b d::l))(i:Int):Calls Tryz.prog 206 #[ptr b,.int .i64 i] w fun e w'=>e=.returned (.tuple #[.string (d.get i).1.1,.int .i64 (d.get i).1.2])∧Sep B w0 w' (pV b (d.get i).2::l):=Calls.Nl (Q:=fun _ _=>True) h fun _ hm=>Sr hm i
end
def aR (e:TypeId)(v:Value)(cs:List Value):aM:=fun w X=>w.ownsRow 0 e 1 v cs.length cs∧∀k,X k↔v.ownBlock=some k
theorem good_row (e:TypeId)(v:Value)(cs:List Value):Good (aR e v cs):=
 ⟨fun w w' X h hk _=>⟨gH h.1 (fun k hk'=>hk k ((h.2 k).2 hk')),h.2⟩,fun w X h k hk=>(h.1.lt k ((h.2 k).1 hk)).2⟩
section
variable {B:Nat}{w0 w w':World}{l:List aM}{e:TypeId}{v:Value}{cs:List Value}
theorem Sep.sS (h:Sep B w0 w l)(e:TypeId):Sep B w0 w (aR e (.slice none 0 0) []::l):=
 h.add (Below.refl _ _) (good_row _ _ _) (X:=fun _=>False) ⟨by simpa using World.ownsRow_nil w 0 e 1,fun k=>by simp[Value.ownBlock]⟩ (fun _ h=>h.elim)
theorem Sep.row (h:Sep B w0 w (aR e v cs::l)):w.ownsRow 0 e 1 v cs.length cs:=by
 obtain⟨_,_,Y,⟨_,X,_,ha,_⟩,_⟩:=h;exact ha.1
theorem Sep.cell (h:Sep B w0 w (aR e v cs::l)){j:Nat}(hj:j<cs.length):∃r c,v=.slice (some ⟨r,0,none⟩) cs.length c∧cs.length<=c∧r<w.heap.size∧w.cell? ⟨r,j,none⟩=cs[j]? ∧w.frozen? ⟨r,j,none⟩=false:=by
 have hr:=h.row;rcases hr.2 with⟨_,h2⟩| ⟨g,cap,cur,h1,_,hg,hc,_⟩
 ·omega
 ·rw[h1]at hr;exact⟨g,cap,h1,hc,(Array.getElem?_eq_some_iff.1 hg).1,hr.cellAt j (by omega),hr.frozenAt j⟩
theorem Sep.shape (h:Sep B w0 w (aR e v cs::l)):∃ao c,v=.slice ao cs.length c:=by
 rcases h.row.2 with⟨h1,h2⟩| ⟨g,cap,cur,h1,_⟩
 ·exact⟨none,0,by rw[h1,h2]⟩
 ·exact⟨_,_,h1⟩
end
theorem mY:(Tryz.prog.info? 9).map (fun i=>(i.zero,i.size,i.bytes))=some (some (.string ByteArray.empty),1,16):=by kernel_rfl
theorem qH:(Tryz.prog.info? 3).map (fun i=>(i.zero,i.size,i.bytes))=some (some (.int .i64 0),1,8):=by kernel_rfl
section
variable {ops:Array Oper}{rest:List Oper}{o:Oper}{a:Act}{Q:Exit->Act->World->Prop}{B:Nat}{w0 w:World}{l:List aM}
theorem Sep.appended {e:TypeId}{v v':Value}{cs:List Value}{u:Value}{w':World}(h:Sep B w0 w (aR e v cs::l))(h2:w'.ownsRow 0 e 1 v' (cs.length+1) (cs++[u]))(hg:w.grownBy w' v.ownBlock)(hloc:v'.ownBlock=v.ownBlock∨v'.ownBlock=some w.heap.size):Sep B w0 w' (aR e v' (cs++[u])::l):=by
 refine h.step (good_row _ _ _) fun X hX=>⟨fun k=>v'.ownBlock=some k,⟨by rw[List.length_append];exact h2,fun k=>Iff.rfl⟩,dw.grown hg (fun k hk=>(hX.2 k).2 hk),fun k hk=>?_⟩;rcases hloc with e1|e1
 ·exact .inl ((hX.2 k).2 (e1▸hk))
 ·rw[e1]at hk;exact .inr (Nat.le_of_eq (Option.some.inj hk))
theorem zK {e:TypeId}{v:Value}{n:Nat}{cs:List Value}(h:w.ownsRow 0 e 1 v n cs):∃ao c,v=.slice ao n c:=by
 rcases h.2 with⟨h1,h2⟩| ⟨g,cap,cur,h1,_⟩
 ·exact⟨none,0,by rw[h1,h2]⟩
 ·exact⟨_,_,h1⟩
theorem Nn (hgd:o.guard=.none)(s x:Operand)(ho:o.op=.call {callee:=.builtin .append,args:=#[s,x],argTypes:=#[48,48]})(v:Value)(cs:List Value)(hs:a.eval s=v)(h:Sep B w0 w (aR 9 v cs::l))
  (r c:Nat)(t:ByteArray)(hx:a.eval x=.slice (some ⟨r,0,none⟩) 1 c)(c0:w.cell? ⟨r,0,none⟩=some (.string t))(hl:cs.length<100000)
  (hK:∀ao n' c' w',Sep B w0 w' (aR 9 (.slice ao n' c') (cs++[.string t])::l)->wpList Tryz.prog ops Q rest (a.put o.dst (.slice ao n' c')) w'):wpList Tryz.prog ops Q (o::rest) a w:=by
 obtain⟨i0,hi,hz0,hz1,hz2⟩:=info_parts mY;refine wpList_append_own_at w hgd s x 48 ho 0 9 i0 _ 1 16 Tryz.underlying48 hi hz0 hz1 hz2 rfl (by decide) v cs.length cs hs h.row ⟨r,0,none⟩ 1 c [.string t] hx rfl (fun j u hj=>?_) (fun u hu=>by simp at hu;subst hu;rfl) (by unfold maxLen;omega) (by omega) (Nat.zero_le _) ?_
 ·match j,hj with
  |0,hj=>simp at hj;subst hj;exact c0
  |j+1,hj=>simp at hj
 ·intro v' w' h2 h3 _ h5;obtain⟨ao,c',rfl⟩:=zK h2;exact hK _ _ _ _ (h.appended h2 h3 h5)
theorem nu (hgd:o.guard=.none)(s x:Operand)(ho:o.op=.call {callee:=.builtin .append,args:=#[s,x],argTypes:=#[85,85]})(v:Value)(cs:List Value)(hs:a.eval s=v)(h:Sep B w0 w (aR 3 v cs::l))
  (r c:Nat)(t:Int)(hx:a.eval x=.slice (some ⟨r,0,none⟩) 1 c)(c0:w.cell? ⟨r,0,none⟩=some (.int .i64 t))(hl:cs.length<100000)
  (hK:∀ao n' c' w',Sep B w0 w' (aR 3 (.slice ao n' c') (cs++[.int .i64 t])::l)->wpList Tryz.prog ops Q rest (a.put o.dst (.slice ao n' c')) w'):wpList Tryz.prog ops Q (o::rest) a w:=by
 obtain⟨i0,hi,hz0,hz1,hz2⟩:=info_parts qH;refine wpList_append_own_at w hgd s x 85 ho 0 3 i0 _ 1 8 Tryz.underlying85 hi hz0 hz1 hz2 rfl (by decide) v cs.length cs hs h.row ⟨r,0,none⟩ 1 c [.int .i64 t] hx rfl (fun j u hj=>?_) (fun u hu=>by simp at hu;subst hu;rfl) (by unfold maxLen;omega) (by omega) (Nat.zero_le _) ?_
 ·match j,hj with
  |0,hj=>simp at hj;subst hj;exact c0
  |j+1,hj=>simp at hj
 ·intro v' w' h2 h3 _ h5;obtain⟨ao,c',rfl⟩:=zK h2;exact hK _ _ _ _ (h.appended h2 h3 h5)
end
end
section
open Go.RowKit
structure Up (n:Nat)(d:Dk):Prop where
 dn:d.down=false
 br:d.brk=none
 sl:d.sure.length=n
end
section
open Go.RowKit
theorem Sep.drewN {B:Nat}{w0 w:World}{l:List aM}(h:Sep B w0 w l)(n:Nat):Sep B w0 (w.drewN n) l:=h.below ⟨rfl,rfl,rfl,Nat.le_refl _,fun _ _=>rfl⟩
end
section
open Go.RowKit
def Both (r s:aM):aM:=fun w X=>∃X1 X2,r w X1∧s w X2∧(∀k,X1 k->¬X2 k)∧∀k,X k↔X1 k∨X2 k
theorem aQ {r s:aM}(gr:Good r)(gs:Good s):Good (Both r s):=
 ⟨fun w w' X ⟨X1,X2,h1,h2,hd,hx⟩ hk hs=>⟨X1,X2,gr.kept w w' X1 h1 (fun k h=>hk k ((hx k).2 (.inl h))) hs,gs.kept w w' X2 h2 (fun k h=>hk k ((hx k).2 (.inr h))) hs,hd,hx⟩,
  fun w X ⟨X1,X2,h1,h2,_,hx⟩ k hk=>((hx k).1 hk).elim (gr.lt w X1 h1 k) (gs.lt w X2 h2 k)⟩
theorem Hp.join {w:World}{r s:aM}{l:List aM}{Y:Nat->Prop}(h:Hp w (r::s::l) Y):Hp w (Both r s::l) Y:=by
 obtain⟨gr,X1,Z1,hr,⟨gs,X2,Z2,hs,hl,hd2,hy2⟩,hd1,hy1⟩:=h;refine⟨aQ gr gs,fun k=>X1 k∨X2 k,Z2,⟨X1,X2,hr,hs,fun k h1 h2=>hd1 k h1 ((hy2 k).2 (.inl h2)),fun _=>Iff.rfl⟩,hl,fun k hk hz=>?_,fun k=>?_⟩
 ·rcases hk with h1|h1
  ·exact hd1 k h1 ((hy2 k).2 (.inr hz))
  ·exact hd2 k h1 hz
 ·rw[hy1 k,hy2 k,or_assoc]
theorem Hp.part {w:World}{r s:aM}{l:List aM}{Y:Nat->Prop}(gr:Good r)(gs:Good s)(h:Hp w (Both r s::l) Y):Hp w (r::s::l) Y:=by
 obtain⟨_,X,Z,⟨X1,X2,hr,hs,hd,hx⟩,hl,hdz,hy⟩:=h;refine⟨gr,X1,fun k=>X2 k∨Z k,hr,⟨gs,X2,Z,hs,hl,fun k h1 h2=>hdz k ((hx k).2 (.inr h1)) h2,fun _=>Iff.rfl⟩,fun k h1 h2=>?_,fun k=>?_⟩
 ·rcases h2 with h2|h2
  ·exact hd k h1 h2
  ·exact hdz k ((hx k).2 (.inl h1)) h2
 ·rw[hy k,hx k,or_assoc]
theorem Sep.join {B:Nat}{w0 w:World}{r s:aM}{l:List aM}(h:Sep B w0 w (r::s::l)):Sep B w0 w (Both r s::l):=h.map fun _=>Hp.join
def aF (q:Nat)(o:Obj):aM:=fun w X=>w.heap[q]? =some o∧∀k,X k↔k=q
theorem aU (q:Nat)(o:Obj):Good (aF q o):=
 ⟨fun w w' X h hk _=>⟨(hk q ((h.2 q).2 rfl)).trans h.1,h.2⟩,fun w X h k hk=>by rw[(h.2 k).1 hk];exact(Array.getElem?_eq_some_iff.1 h.1).1⟩
theorem Sep.aO {B:Nat}{w0 w:World}{l:List aM}(h:Sep B w0 w l)(o:Obj):Sep B w0 (w.alloc o) (aF w.heap.size o::l):=
 h.add ((Below.refl _ _).alloc (Nat.le_refl _) _) (aU _ _) (X:=fun k=>k=w.heap.size) ⟨heap_alloc_new w o,fun _=>Iff.rfl⟩ (fun k hk=>Nat.le_of_eq hk.symm)
theorem Sep.blk {B:Nat}{w0 w:World}{l:List aM}{q:Nat}{o:Obj}(h:Sep B w0 w (aF q o::l)):w.heap[q]? =some o:=by
 obtain⟨_,_,Y,⟨_,X,_,ha,_⟩,_⟩:=h;exact ha.1
theorem Sep.drop {B:Nat}{w0 w:World}{l:List aM}{a:aM}(h:Sep B w0 w (a::l)):Sep B w0 w l:=by
 obtain⟨hB,hb,Y,⟨_,X,Z,_,hl,_,hy⟩,hY⟩:=h;exact⟨hB,hb,Z,hl,fun k hk=>hY k ((hy k).2 (.inr hk))⟩
theorem Sep.Sv {B:Nat}{w0 w:World}{l:List aM}(h:Sep B w0 w l)(e:TypeId)(cs:List Value)(n:Nat)(hn:cs.length=n)(hm:n<=1000):Sep B w0 (w.alloc (.cells cs.toArray e)) (aR e (.slice (some ⟨w.heap.size,0,none⟩) n n) cs::l):=by
 subst hn;exact h.add ((Below.refl _ _).alloc (Nat.le_refl _) _) (good_row _ _ _) (X:=fun k=>k=w.heap.size) ⟨World.ownsRow_lit w _ cs.length (Nat.zero_le _) (by unfold maxLen;omega) (by simp),fun k=>by simp[Value.ownBlock,eq_comm]⟩ (fun k hk=>Nat.le_of_eq hk.symm)
def bAt (l:List Bool)(i:Nat):Bool:=l.getD i false
def kAt (l:List UInt8)(i:Nat):UInt8:=l.getD i 0
end
end
section
section
open Go.RowKit
def uI (d:Dk)(id:Int):Bool:=decide (2<=id∧id<d.sure.length)
def sT (kind:UInt8)(o:UInt8×List UInt8×Int):ByteArray×Int:=if o.2.2=0∧o.1=kind then(⟨o.2.1.toArray⟩,0)else(ByteArray.empty,3)
def Dk.rd (d:Dk)(id:Int)(kind:UInt8):(ByteArray×Int)×Dk:=
 if uI d id then(if(d.get id).1.2=0 then sT kind (opn id (d.get id).1.1.data.toList)else(ByteArray.empty,(d.get id).1.2),(d.get id).2)else((ByteArray.empty,40),d)
def VQ (id:Int)(kind:UInt8)(b:ByteArray):ByteArray:=⟨(cP id.toNat kind b.data.toList).toArray⟩
def Dk.room (d:Dk):Nat:=max d.sure.length 2
end
section
open Go.RowKit
def vK (b:Nat):Obj:=.cells #[ptr b] 117 (0,0)
def File (f b:Nat)(d:Dk):aM:=Both (pV b d) (aF f (vK b))
def bW (B:Nat)(w0:World):Prop:=∀u,Below B w0 u->uX u
theorem Np {w:World}(h:uX w):bW w.heap.size w:=fun _ hu=>h.below hu
section
variable {B:Nat}{w0 w w':World}{f b:Nat}{d d':Dk}{l:List aM}
theorem Sep.part (h:Sep B w0 w (File f b d::l)):Sep B w0 w (pV b d::aF f (vK b)::l):=h.map fun _=>Hp.part (oM _ _) (aU _ _)
theorem Sep.Qp (h:Sep B w0 w (File f b d::l)):w.cell? ⟨f,0,none⟩=some (ptr b)∧f<w.heap.size:=by
 have hb:=h.part.sR.blk;exact⟨by simp[World.cell?,hb,vK],(Array.getElem?_eq_some_iff.1 hb).1⟩
theorem Sep.fok (h:Sep B w0 w (File f b d::l)):d.Ok:=h.part.ok
theorem sU (ok:d.Ok){i:Nat}(hi:i<d.sure.length):∀n,n<=d.pend.length->(vG d.sure d.pend i n).size=256
 |0,_=>Jf ok.sz hi
 |n+1,hn=>by
  rw[sO];split
  ·exact(Sn ok (by omega)).2
  ·exact sU ok hi n (by omega)
theorem Dk.Jg (ok:d.Ok)(i:Int):(d.get i).1.1.size<=maxLen:=by
 unfold Dk.get;split
 ·unfold maxLen;simp
 ·split
  ·rename_i h
   have:=of_decide_eq_true h;show(d.now i.toNat).size<=maxLen;unfold Dk.now;rw[sU ok (by omega) _ (Nat.le_refl _)];decide
  ·unfold maxLen;simp
theorem VR (h:Sep B w0 w (pV b d::l)):Calls Tryz.prog 29 #[ptr b] w fun e w'=>∃f,e=.returned (ptr f)∧Sep B w0 w' (File f b d::l):=by
 have S1:Hid (Sep B w0 (w.alloc (vK b)) (File w.heap.size b d::l)):=(h.aO (vK b)).sR.join;unfold vK at S1;clear h;go_enter Tryz.func29,Tryz.ntmps29;go_wp2;go_ret;exact⟨_,rfl,S1.out⟩
theorem BG (h:Sep B w0 w (File f b d::l)):Calls Tryz.prog 55 #[ptr f] w fun e w'=>e=.returned (.int .i64 d.room)∧w=w':=by
 obtain⟨c0,hf⟩:=h.Qp;have C:Hid _:=Fv h.part;have hl:Hid (d.sure.length<=16384):=h.fok.len;clear h;go_enter Tryz.func55,Tryz.ntmps55
 go_wp2_with fail
 refine Calls.mono C.out ?_;rintro e w1 ⟨rfl,rfl⟩;clear C;go_wp2;go_ret;exact⟨gW (by unfold Dk.room;omega),rfl⟩
theorem Fw (h:Sep B w0 w (File f b d::l))(id:Int):Calls Tryz.prog 205 #[ptr f,.int .i64 id] w fun e w'=>e=.returned (.bool (uI d id))∧w=w':=by
 have C:Hid _:=BG h;clear h;by_cases h2:2<=id
 ·have E:Hid (decide (id< (d.room:Int))=uI d id):=by
   show _=_;unfold uI Dk.room;rw[decide_eq_decide];omega
  generalize uI d id=y at E;generalize d.room=R at*;go_enter Tryz.func205,Tryz.ntmps205
  go_wp2_with fail
  refine Calls.mono C.out ?_;rintro e w1 ⟨rfl,rfl⟩;clear C;go_wp2;go_ret;exact⟨iP E.out,rfl⟩
 ·have E:Hid (uI d id=false):=by
   show _=_;unfold uI;rw[decide_eq_false_iff_not];omega
  go_enter Tryz.func205,Tryz.ntmps205;go_wp2;go_ret;exact⟨iP E.out.symm,rfl⟩
theorem zL (kind:UInt8)(id:Int)(s:List UInt8):((opn id s).2.2≠0∧sT kind (opn id s)=(ByteArray.empty,3)∧opn id s=(0,[],3))∨
  ((opn id s).2.2=0∧(opn id s).1≠kind∧sT kind (opn id s)=(ByteArray.empty,3))∨((opn id s).2.2=0∧(opn id s).1=kind∧sT kind (opn id s)=(⟨(opn id s).2.1.toArray⟩,0)):=by
 unfold sT;by_cases h:(opn id s).2.2=0
 ·by_cases hk:(opn id s).1=kind
  ·exact .inr (.inr ⟨h,hk,by rw[if_pos ⟨h,hk⟩]⟩)
  ·exact .inr (.inl ⟨h,hk,by rw[if_neg (fun c=>hk c.2)]⟩)
 ·exact .inl ⟨h,by rw[if_neg (fun c=>h c.1)],Mx h⟩
theorem Nq {a b:UInt8}(h:a≠b):((a.toNat:Int)==(b.toNat:Int))=false:=by
 rw[beq_eq_false_iff_ne];intro e;exact h (UInt8.toNat_inj.1 (by omega))
theorem Sw (T:bW B w0)(h:Sep B w0 w (File f b d::l))(id:Int)(kind:UInt8):
  Calls Tryz.prog 171 #[ptr f,.int .i64 id,.int .u8 (kind.toNat:Int)] w fun e w'=>e=.returned (.tuple #[.string (d.rd id kind).1.1,.int .i64 (d.rd id kind).1.2])∧Sep B w0 w' (File f b (d.rd id kind).2::l):=by
 have U7:=Fw h id;have HS:Hid (Sep B w0 w (File f b d::l)):=h;obtain⟨c0,hf⟩:=h.Qp;cases hp:uI d id with
 |false=>
  rw[hp]at U7;have CH:Hid _:=U7;have E:Hid (d.rd id kind=((ByteArray.empty,40),d)):=by show _=_;unfold Dk.rd;rw[hp];rfl
  rw[E.out];clear h U7 hp;go_enter Tryz.func171,Tryz.ntmps171
  go_wp2_with fail
  refine Calls.mono CH.out ?_;rintro e w1 ⟨rfl,rfl⟩;clear CH;go_wp2;go_ret2;exact⟨rfl,HS.out⟩
 |true=>
  rw[hp]at U7;have CH:Hid _:=U7;have U8:=Su h.part id;have hz:=Dk.Jg h.fok id;have E:d.rd id kind=(if(d.get id).1.2=0 then sT kind (opn id (d.get id).1.1.data.toList)else(ByteArray.empty,(d.get id).1.2),(d.get id).2):=by unfold Dk.rd;rw[hp];rfl
  rw[E];clear h U7 hp E HS;generalize(d.get id).1.1=s at*;generalize(d.get id).1.2=er at*;generalize(d.get id).2=d2 at*;have CR:Hid _:=U8;clear U8;by_cases he:er=0
  ·subst he;rw[if_pos rfl];have CO:Hid (∀u,uX u->_):=fun u hu=>Hy id s u hu hz;rcases zL kind id s.data.toList with⟨h1,h2,h3⟩| ⟨h1,h2,h3⟩| ⟨h1,h2,h3⟩
   ·rw[h2];rw[h3]at CO;clear h1 h2 h3;go_enter Tryz.func171,Tryz.ntmps171
    go_wp2_with fail
    refine Calls.mono CH.out ?_;rintro e w1 ⟨rfl,rfl⟩;clear CH
    go_wp2_with fail
    refine Calls.mono CR.out ?_;rintro e w2 ⟨rfl,s2⟩;have S2:Hid (Sep B w0 w2 (File f b d2::l)):=s2.join;have C3:Hid _:=CO.out w2 (T w2 s2.Ss);clear CR s2 CO
    go_wp2_with fail
    refine Calls.mono C3.out ?_;rintro e w3 ⟨rfl,b3⟩;have S3:Hid (Sep B w0 w3 (File f b d2::l)):=S2.out.below b3;clear b3 C3 S2;go_wp2;go_ret2;exact⟨rfl,S3.out⟩
   ·rw[h3];have hne:=Nq h2;rw[h1]at CO;clear h1 h2 h3;generalize(opn id s.data.toList).1.toNat=K at*;generalize(opn id s.data.toList).2.1.toArray=bo at*;go_enter Tryz.func171,Tryz.ntmps171
    go_wp2_with fail
    refine Calls.mono CH.out ?_;rintro e w1 ⟨rfl,rfl⟩;clear CH
    go_wp2_with fail
    refine Calls.mono CR.out ?_;rintro e w2 ⟨rfl,s2⟩;have S2:Hid (Sep B w0 w2 (File f b d2::l)):=s2.join;have C3:Hid _:=CO.out w2 (T w2 s2.Ss);clear CR s2 CO
    go_wp2_with fail
    refine Calls.mono C3.out ?_;rintro e w3 ⟨rfl,b3⟩;have S3:Hid (Sep B w0 w3 (File f b d2::l)):=S2.out.below b3;clear b3 C3 S2;go_wp2;go_ret2;exact⟨rfl,S3.out⟩
   ·rw[h3];rw[h1,h2]at CO;clear h1 h2 h3;generalize(opn id s.data.toList).2.1.toArray=bo at*;go_enter Tryz.func171,Tryz.ntmps171
    go_wp2_with fail
    refine Calls.mono CH.out ?_;rintro e w1 ⟨rfl,rfl⟩;clear CH
    go_wp2_with fail
    refine Calls.mono CR.out ?_;rintro e w2 ⟨rfl,s2⟩;have S2:Hid (Sep B w0 w2 (File f b d2::l)):=s2.join;have C3:Hid _:=CO.out w2 (T w2 s2.Ss);clear CR s2 CO
    go_wp2_with fail
    refine Calls.mono C3.out ?_;rintro e w3 ⟨rfl,b3⟩;have S3:Hid (Sep B w0 w3 (File f b d2::l)):=S2.out.below b3;clear b3 C3 S2;go_wp2;go_ret2;exact⟨rfl,S3.out⟩
  ·rw[if_neg he];have hne:(er != 0)=true:=by rw[bne_iff_ne];exact he
   clear he;go_enter Tryz.func171,Tryz.ntmps171
   go_wp2_with fail
   refine Calls.mono CH.out ?_;rintro e w1 ⟨rfl,rfl⟩;clear CH
   go_wp2_with fail
   refine Calls.mono CR.out ?_;rintro e w2 ⟨rfl,s2⟩;have S2:Hid (Sep B w0 w2 (File f b d2::l)):=s2.join;clear CR s2;go_wp2;go_ret2;exact⟨rfl,S2.out⟩
end
end
section
open Go.RowKit
def zs (s:ByteArray)(n:Nat):ByteArray:=⟨(s.data.toList++List.replicate n 0).toArray⟩
def ab:ByteArray:=⟨#[97,98]⟩
structure A1 where
 k:Int
 i:Int
 kd:UInt8
 s:ByteArray
def a0:A1:=⟨0,0,0,ByteArray.empty⟩
end
section
open Go.RowKit
structure aao (d:Dk)(kinds:List UInt8)(bodies:List ByteArray)(there:List Bool):Prop where
 kl:kinds.length=12
 bl:bodies.length=12
 tl:there.length=12
 yes:∀j,2<=j->j<12->bAt there j=true->d.now j=VQ j (kAt kinds j) (Ha bodies j)∧(Ha bodies j).size<=240
 no:∀j,2<=j->j<12->bAt there j=false->d.now j=kf
end
end
section
open Go.RowKit
def dC (v:Int):Bool:=decide (0<=v∧v<1048576)
def lZ (v:Int):Int:=if dC v=true then 0 else 30
theorem l7 (v:Int)(w:World):Calls Tryz.prog 73 #[.int .i64 v] w fun e w'=>e=.returned (.int .i64 (lZ v))∧w=w':=by
 by_cases h1:v<0
 ·have E:Hid (lZ v=30):=by
   have:dC v=false:=by simp[dC];omega
   simp[Hid,lZ,this]
  go_enter Tryz.func73,Tryz.ntmps73;go_wp2;go_ret;exact⟨gW E.out.symm,rfl⟩
 ·by_cases h2:1048576<=v
  ·have E:Hid (lZ v=30):=by
    have:dC v=false:=by simp[dC];omega
    simp[Hid,lZ,this]
   go_enter Tryz.func73,Tryz.ntmps73;go_wp2;go_ret;exact⟨gW E.out.symm,rfl⟩
  ·have E:Hid (lZ v=0):=by
    have:dC v=true:=by simp[dC];omega
    simp[Hid,lZ,this]
   go_enter Tryz.func73,Tryz.ntmps73;go_wp2;go_ret;exact⟨gW E.out.symm,rfl⟩
theorem sV (u v:Int)(w:World):Calls Tryz.prog 58 #[.int .i64 u,.int .i64 v] w fun e w'=>e=.returned (.bool (dC u&&dC v))∧w=w':=by
 have VU:Aside (∀w,Calls Tryz.prog 73 #[.int .i64 u] w fun e w'=>e=.returned (.int .i64 (lZ u))∧w=w'):=fun w=>l7 u w;have VV:Aside (∀w,Calls Tryz.prog 73 #[.int .i64 v] w fun e w'=>e=.returned (.int .i64 (lZ v))∧w=w'):=fun w=>l7 v w;have eu:lZ u=if dC u=true then 0 else 30:=rfl;have ev:lZ v=if dC v=true then 0 else 30:=rfl;rw[eu]at VU;rw[ev]at VV;clear eu ev;cases hu:dC u
 ·rw[hu]at VU;simp only[Bool.false_eq_true,if_false]at VU;go_enter Tryz.func58,Tryz.ntmps58
  go_wp2_with fail
  refine Calls.mono (VU.out _) ?_;rintro e w' ⟨rfl,rfl⟩;go_wp2;go_ret;exact⟨iP (by simp),rfl⟩
 ·rw[hu]at VU;simp only[if_true]at VU;cases hv:dC v
  ·rw[hv]at VV;simp only[Bool.false_eq_true,if_false]at VV;go_enter Tryz.func58,Tryz.ntmps58
   go_wp2_with fail
   refine Calls.mono (VU.out _) ?_;rintro e w' ⟨rfl,rfl⟩
   go_wp2_with fail
   refine Calls.mono (VV.out _) ?_;rintro e w' ⟨rfl,rfl⟩;go_wp2;go_ret;exact⟨iP (by simp),rfl⟩
  ·rw[hv]at VV;simp only[if_true]at VV;go_enter Tryz.func58,Tryz.ntmps58
   go_wp2_with fail
   refine Calls.mono (VU.out _) ?_;rintro e w' ⟨rfl,rfl⟩
   go_wp2_with fail
   refine Calls.mono (VV.out _) ?_;rintro e w' ⟨rfl,rfl⟩;go_wp2;go_ret;exact⟨iP (by simp),rfl⟩
def bR (u v:Int):Int×Int:=if(dC u&&dC v)=true∧u≠v then(min u v,max u v)else(0,0)
def dy (u v:Int):Int:=if(dC u&&dC v)=true then(if u=v then 31 else 0)else 30
theorem nw (u v:Int)(w:World):Calls Tryz.prog 33 #[.int .i64 u,.int .i64 v] w fun e w'=>e=.returned (.tuple #[.agg #[.int .i64 (bR u v).1,.int .i64 (bR u v).2],.int .i64 (dy u v)])∧Below w.heap.size w w':=by
 have A:Aside (∀w,Calls Tryz.prog 58 #[.int .i64 u,.int .i64 v] w fun e w'=>e=.returned (.bool (dC u&&dC v))∧w=w'):=fun w=>sV u v w;cases hv:(dC u&&dC v)
 ·have E1:Hid (bR u v=(0,0)):=by simp[Hid,bR,hv]
  have E2:Hid (dy u v=30):=by simp[Hid,dy,hv]
  rw[hv]at A;clear hv;go_enter Tryz.func33,Tryz.ntmps33
  go_wp2_with (go_at_call 58;refine Calls.mono (A.out _) ?_;rintro e w' ⟨rfl,rfl⟩)
  (try simp only[Exit.inBlock,Exit.then])
  refine bodyPost_ret (v:=.tuple #[.agg #[.int .i64 0,.int .i64 0],.int .i64 30]) ?_ rfl ⟨?_,?_⟩
  ·rw[results_cell_tmp rfl];go_simp
  ·rw[E1.out,E2.out]
  ·exact(Below.refl _ _).alloc (Nat.le_refl _) _
 ·by_cases he:u=v
  ·subst he;have E1:Hid (bR u u=(0,0)):=by simp[Hid,bR]
   have E2:Hid (dy u u=31):=by show dy u u=31;unfold dy;rw[if_pos hv,if_pos rfl]
   rw[hv]at A;clear hv;go_enter Tryz.func33,Tryz.ntmps33
   go_wp2_with (go_at_call 58;refine Calls.mono (A.out _) ?_;rintro e w' ⟨rfl,rfl⟩)
   (try simp only[Exit.inBlock,Exit.then])
   refine bodyPost_ret (v:=.tuple #[.agg #[.int .i64 0,.int .i64 0],.int .i64 31]) ?_ rfl ⟨?_,?_⟩
   ·rw[results_cell_tmp rfl];go_simp
   ·rw[E1.out,E2.out]
   ·exact(Below.refl _ _).alloc (Nat.le_refl _) _
  ·have hb:(u==v)=false:=beq_eq_false_iff_ne.2 he;have E2:Hid (dy u v=0):=by simp[Hid,dy,hv,he]
   have E1:Hid (bR u v=(min u v,max u v)):=by show bR u v=_;unfold bR;rw[if_pos ⟨hv,he⟩]
   rw[hv]at A;clear hv;by_cases hl:u<v
   ·have hl2:¬v<u:=by omega
    have E3:Hid (min u v=u∧max u v=v):=⟨by omega,by omega⟩;clear he;go_enter Tryz.func33,Tryz.ntmps33
    go_wp2_with (go_at_call 58;refine Calls.mono (A.out _) ?_;rintro e w' ⟨rfl,rfl⟩)
    (try simp only[Exit.inBlock,Exit.then])
    refine bodyPost_ret (v:=.tuple #[.agg #[.int .i64 u,.int .i64 v],.int .i64 0]) ?_ rfl ⟨?_,?_⟩
    ·rw[results_cell_tmp rfl];go_simp;exact E3.out
    ·rw[E1.out,E2.out,E3.out.1,E3.out.2]
    ·exact(Below.refl _ _).alloc (Nat.le_refl _) _
   ·have hl2:v<u:=by omega
    have E3:Hid (min u v=v∧max u v=u):=⟨by omega,by omega⟩;clear he;go_enter Tryz.func33,Tryz.ntmps33
    go_wp2_with (go_at_call 58;refine Calls.mono (A.out _) ?_;rintro e w' ⟨rfl,rfl⟩)
    (try simp only[Exit.inBlock,Exit.then])
    refine bodyPost_ret (v:=.tuple #[.agg #[.int .i64 v,.int .i64 u],.int .i64 0]) ?_ rfl ⟨?_,?_⟩
    ·rw[results_cell_tmp rfl];go_simp;exact E3.out
    ·rw[E1.out,E2.out,E3.out.1,E3.out.2]
    ·exact(Below.refl _ _).alloc (Nat.le_refl _) _
def gA (u v:Int):List UInt8:=if(dC u&&dC v)=true then beBytes 4 u.toNat++beBytes 4 v.toNat else []
def xq (u v:Int):Int:=if(dC u&&dC v)=true then 0 else 30
theorem xr {u:Int}(h:dC u=true):∃n:Nat,u=n∧n<1048576:=by
 have:0<=u∧u<1048576:=by simpa[dC]using h
 exact⟨u.toNat,by omega,by omega⟩
theorem qJ {u:Int}(h:dC u=true):ij 4 u=beBytes 4 u.toNat∧jt 4 u=0:=by
 obtain⟨n,rfl,hn⟩:=xr h;have:fN 4 (n:Int)=true:=by simp[fN,bQ];omega
 simp[ij,jt,this]
theorem Nr {a b:List UInt8}{c d:Int}(h:a=b)(k:c=d):Ending.returned (.tuple #[.string ⟨a.toArray⟩,.int .i64 c])=.returned (.tuple #[.string ⟨b.toArray⟩,.int .i64 d]):=by rw[h,k]
theorem DR (u v:Int)(w:World):Calls Tryz.prog 54 #[.int .i64 u,.int .i64 v] w fun e w'=>e=.returned (.tuple #[.string ⟨(gA u v).toArray⟩,.int .i64 (xq u v)])∧Below w.heap.size w w':=by
 have A:Aside (∀w,Calls Tryz.prog 58 #[.int .i64 u,.int .i64 v] w fun e w'=>e=.returned (.bool (dC u&&dC v))∧w=w'):=fun w=>sV u v w;cases hv:(dC u&&dC v)
 ·have E1:Hid (gA u v=[]):=by simp[Hid,gA,hv]
  have E2:Hid (xq u v=30):=by simp[Hid,xq,hv]
  rw[hv]at A;clear hv;go_enter Tryz.func54,Tryz.ntmps54
  go_wp2_with (go_at_call 58;refine Calls.mono (A.out _) ?_;rintro e w' ⟨rfl,rfl⟩)
  go_ret2;rw[E1.out,E2.out];exact⟨rfl,Below.refl _ _⟩
 ·have h2:=Bool.and_eq_true_iff.1 hv;have E1:Hid (gA u v=ij 4 u++ij 4 v):=by rw[(qJ h2.1).1,(qJ h2.2).1];simp[Hid,gA,hv]
  have E2:Hid (xq u v=0):=by simp[Hid,xq,hv]
  have L1:(ij 4 u).length=4:=by rw[(qJ h2.1).1,beBytes_length]
  have L2:(ij 4 v).length=4:=by rw[(qJ h2.2).1,beBytes_length]
  have P1:Hid (∀w,Calls Tryz.prog 75 #[.int .i64 4,.int .i64 u] w fun r w'=>r=.returned (.tuple #[.string ⟨(ij 4 u).toArray⟩,.int .i64 (jt 4 u)])∧Below w.heap.size w w'):=fun w=>ju 4 u w;have P2:Hid (∀w,Calls Tryz.prog 75 #[.int .i64 4,.int .i64 v] w fun r w'=>r=.returned (.tuple #[.string ⟨(ij 4 v).toArray⟩,.int .i64 (jt 4 v)])∧Below w.heap.size w w'):=fun w=>ju 4 v w;generalize ij 4 u=X at*;generalize ij 4 v=Y at*;generalize jt 4 u=x at*;generalize jt 4 v=y at*;rw[hv]at A;clear hv h2;go_enter Tryz.func54,Tryz.ntmps54
  go_wp2_with (go_at_call 58;refine Calls.mono (A.out _) ?_;rintro e w' ⟨rfl,rfl⟩)
  refine Calls.mono (P1.out _) ?_;rintro e w1 ⟨rfl,hb1⟩
  go_wp2_with fail
  refine Calls.mono (P2.out _) ?_;rintro e w2 ⟨rfl,hb2⟩
  go_wp2_with fail
  refine(Qh ⟨X.toArray⟩ ⟨Y.toArray⟩ w2 (by rw[fu,fu];omega)).mono ?_;rintro e w3 ⟨rfl,hb3⟩;go_wp2;go_ret2;have k1:=hb1.size;have k2:=hb2.size;exact⟨Nr (by rw[E1.out]) E2.out.symm,(hb1.trans (hb2.mono k1)).trans (hb3.mono (by omega))⟩
def qK (s:ByteArray):Int×Int×Int:=
 if eI (bh (bh s 0 4).2.1 (bh s 0 4).2.2 4).2.1 (bh (bh s 0 4).2.1 (bh s 0 4).2.2 4).2.2=0∧(dC (bh s 0 4).1&&dC (bh (bh s 0 4).2.1 (bh s 0 4).2.2 4).1)=true then((bh s 0 4).1,(bh (bh s 0 4).2.1 (bh s 0 4).2.2 4).1,0)else(0,0,30)
theorem BH {s:ByteArray}{u v e1 e2:Int}{s1 s2:ByteArray}(hA:bh s 0 4=(u,s1,e1))(hB:bh s1 e1 4=(v,s2,e2)):
  qK s=if eI s2 e2=0∧(dC u&&dC v)=true then(u,v,0)else(0,0,30):=by
 unfold qK;rw[hA];simp only;rw[hB]
theorem Fx (s:ByteArray):(∃x y,qK s=(x,y,0)∧dC x=true∧dC y=true∧s=⟨(gA x y).toArray⟩)∨qK s=(0,0,30):=by
 obtain⟨u,s1,e1,hA⟩:∃u s1 e1,bh s 0 4=(u,s1,e1):=⟨_,_,_,rfl⟩;obtain⟨v,s2,e2,hB⟩:∃v s2 e2,bh s1 e1 4=(v,s2,e2):=⟨_,_,_,rfl⟩;rw[BH hA hB];by_cases h:eI s2 e2=0∧(dC u&&dC v)=true
 ·rw[if_pos h];left;have hv:=Bool.and_eq_true_iff.1 h.2;have he:e2=0∧s2.size=0:=by
   have h1:=h.1;unfold eI at h1;by_cases a:e2=0
   ·by_cases b:s2.size=0
    ·exact⟨a,b⟩
    ·simp[a,b]at h1
   ·simp[a]at h1
  obtain⟨e1z,_,l2,r2,hs1,hn2,hI2⟩:=iQ s1 e1 4 (by rw[hB];exact he.1);obtain⟨_,_,l1,r1,hs,hn1,hI1⟩:=iQ s 0 4 (by rw[hA];exact e1z);rw[hA]at hI1;rw[hB]at hI2;simp only[Prod.mk.injEq]at hI1 hI2;obtain⟨rfl,hr1,_⟩:=hI1;obtain⟨rfl,hr2,_⟩:=hI2;have hr:r1=l2++r2:=by
   have h1:=hr1.symm.trans hs1;have h2:=congrArg (fun b:ByteArray=>b.data.toList) h1;simpa using h2
  have hz:r2=[]:=by
   have:=he.2;rw[hr2,fu]at this;exact List.length_eq_zero_iff.1 this
  subst hz;rw[List.append_nil]at hr;subst hr;refine⟨_,_,rfl,hv.1,hv.2,?_⟩;have k:gA (beNat l1) (beNat r1)=l1++r1:=by
   unfold gA;rw[if_pos h.2,Int.toNat_natCast,Int.toNat_natCast,jR 4 l1 (by omega),jR 4 r1 (by omega)]
  rw[k];exact hs
 ·rw[if_neg h];exact Or.inr rfl
theorem Ns {u v:Int}(hu:dC u=true)(hv:dC v=true):qK ⟨(gA u v).toArray⟩=(u,v,0):=by
 have hc:(dC u&&dC v)=true:=by rw[hu,hv];rfl
 have e:gA u v=beBytes 4 u.toNat++beBytes 4 v.toNat:=by unfold gA;rw[if_pos hc]
 obtain⟨n,rfl,hn⟩:=xr hu;obtain⟨m,rfl,hm⟩:=xr hv;rw[Int.toNat_natCast,Int.toNat_natCast]at e;have hA:=fH (beBytes 4 n) (beBytes 4 m) 4 (by rw[beBytes_length];rfl) rfl;have hB:=fH (beBytes 4 m) [] 4 (by rw[beBytes_length];rfl) rfl;rw[List.append_nil]at hB;rw[dJ 4 n (by omega)]at hA;rw[dJ 4 m (by omega)]at hB;rw[e,BH hA hB,if_pos ⟨rfl,hc⟩]
theorem Fy (s:ByteArray)(w:World)(hs:s.size<=maxLen):Calls Tryz.prog 89 #[.string s] w fun e w'=>e=.returned (.tuple #[.int .i64 (qK s).1,.int .i64 (qK s).2.1,.int .i64 (qK s).2.2])∧Below w.heap.size w w':=by
 obtain⟨u,s1,e1,hA⟩:∃u s1 e1,bh s 0 4=(u,s1,e1):=⟨_,_,_,rfl⟩;obtain⟨v,s2,e2,hB⟩:∃v s2 e2,bh s1 e1 4=(v,s2,e2):=⟨_,_,_,rfl⟩;have P:Hid (qK s=if eI s2 e2=0∧(dC u&&dC v)=true then(u,v,0)else(0,0,30)):=BH hA hB;have C1:=js _ s 0 4 _ (Rd.made s hs w);rw[hA]at C1;have D1:Hid _:=C1;have C2:Hid (∀b W,Rd b s1 e1 W->Calls Tryz.prog 115 #[.pointer (some ⟨b,0,none⟩),.int .i64 4] W fun r w'=>r=.returned (.int .i64 v)∧Rd b s2 e2 w'∧Only b W w'):=fun b W h=>by
  have:=js b s1 e1 4 W h;rw[hB]at this;exact this
 have AV:Hid (∀w,Calls Tryz.prog 58 #[.int .i64 u,.int .i64 v] w fun e w'=>e=.returned (.bool (dC u&&dC v))∧w=w'):=fun w=>sV u v w;clear hA hB C1;go_enter Tryz.func89,Tryz.ntmps89
 go_wp2_with fail
 refine(mM _ _).mono ?_;rintro e w1 ⟨rfl,rfl⟩
 go_wp2_with fail
 refine Calls.mono D1.out ?_;rintro e w2 ⟨rfl,hr2,ho2⟩;have R2:Hid (Rd _ _ _ _):=hr2;have O2:Hid (Only _ _ _):=ho2;clear hr2 ho2
 go_wp2_with fail
 refine Calls.mono (C2.out _ _ R2.out) ?_;rintro e w3 ⟨rfl,hr3,ho3⟩;have R3:Hid (Rd _ _ _ _):=hr3;have O3:Hid (Only _ _ _):=ho3;clear hr3 ho3;have B:Hid (Below w.heap.size w w3):=((((Below.refl _ w).alloc (Nat.le_refl _) _).trans (O2.out.below (Nat.le_refl _))).trans (O3.out.below (Nat.le_refl _)))
 go_wp2_with fail
 refine(mN _ _ _ _ R3.out).mono ?_;rintro e w4 ⟨rfl,rfl⟩;by_cases hz:eI s2 e2=0
 ·rw[hz]at P⊢;clear hz
  go_wp2_with fail
  refine Calls.mono (AV.out _) ?_;rintro e w5 ⟨rfl,rfl⟩;cases hv:(dC u&&dC v)
  ·rw[hv]at P;go_wp2
   go_ret3
   rw[P.out,if_neg (by simp)];exact⟨rfl,B.out⟩
  ·rw[hv]at P;go_wp2
   go_ret3
   rw[P.out,if_pos (by simp)];exact⟨rfl,B.out⟩
 ·have hz':(eI s2 e2 != 0)=true:=by rw[bne_iff_ne];exact hz
  have P':Hid (qK s=(0,0,30)):=by have:=P.out;rw[if_neg (fun h=>hz h.1)]at this;exact this
  generalize eI s2 e2=z at*;clear hz P;go_wp2
  go_ret3
  rw[P'.out];exact⟨rfl,B.out⟩
end
end Go.Proofs.YtcenfooehjcddaaGreatDoor
