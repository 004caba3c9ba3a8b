/- Walks of the package cowtree and of what it stands on: lemmas, made short. -/
import Derived.Test.YtceoeaemenhbhaaGreatDoorR3
import Derived.Test.YtceoeaemenhbhaaGreatDoorR1
import Derived.Orders
import Derived.Deep.RegionHeld3
import Derived.Deep.DrawnRows
set_option maxHeartbeats 16000000
set_option maxRecDepth 100000
set_option linter.unusedVariables false
set_option linter.unusedSimpArgs false
namespace Go.Proofs.YtceoeaemenhbhaaGreatDoor
open Go.Shelf Go.RowKit Go.Lib Go.Sort
namespace N
section
structure Nd where
 leaf:Bool
 es:List En
 ks:List Int
 ss:List ByteArray
def nd0:Nd:=⟨false,[],[],[]⟩
def oF (k:Int):Bool:=decide (2<=k∧k<=4294967295)
theorem lZ {k:Int}:oF k=true↔2<=k∧k<=4294967295:=by simp[oF]
def kE (s:ByteArray):En:=(s,⟨#[]⟩)
def zK (ss:List ByteArray):Bool:=fX (ss.map kE)
theorem Bj {α β:Type}[Inhabited α][Inhabited β]{f:α->β}{l:List α}{i:Nat}(h:i<l.length):(l.map f)[i]! =f l[i]! :=by
 rw[getElem!_pos (l.map f) i (by simpa using h),getElem!_pos l i h];simp
def Lb (ss:List ByteArray)(i:Nat):Bool:=dg ss[i]! ⟨#[]⟩&&(i==0||bD ss[i-1]! ss[i]!)
theorem Bk {ss:List ByteArray}{i:Nat}(h:i<ss.length):wW (ss.map kE) i=Lb ss i:=by
 unfold wW Lb;rw[Bj h,Bj (show i-1<ss.length by omega)];rfl
theorem Lc {ss:List ByteArray}(h:∀j,j<ss.length->Lb ss j=true):zK ss=true:=
 oX fun j hj=>by
  have hj':j<ss.length:=by simpa using hj
  rw[Bk hj'];exact h j hj'
theorem Gf {ss:List ByteArray}(j:Nat)(hj:j<ss.length)(h:Lb ss j=false):zK ss=false:=
 qR j (by simpa using hj) (by rw[Bk hj];exact h)
theorem uR {ss:List ByteArray}{i:Nat}{b c:Bool}(h1:dg ss[i]! ⟨#[]⟩=b)(h2:(i==0||bD ss[i-1]! ss[i]!)=c):Lb ss i=(b&&c):=by
 unfold Lb;rw[h1,h2]
theorem l7 {ss:List ByteArray}(h:zK ss=true){s:ByteArray}(hs:s∈ss):1<=s.size∧s.size<=16:=by
 have:=cF.1 ((rg_of h).may (kE s) (List.mem_map_of_mem hs));exact⟨this.1,this.2.1⟩
def EB (ks:List Int):Bool:=ks.all oF
theorem Bl {ks:List Int}(h:∀k∈ks,oF k=true):EB ks=true:=List.all_eq_true.2 h
theorem Gg {ks:List Int}{k:Int}(h:k∈ks)(hk:oF k=false):EB ks=false:=by
 cases e:EB ks
 ·rfl
 ·rw[List.all_eq_true.1 e k h]at hk;cases hk
theorem o0 {ks:List Int}(h:EB ks=true){k:Int}(hk:k∈ks):oF k=true:=List.all_eq_true.1 h k hk
def cQ (n:Nd):Bool:=
 if n.leaf=true then decide (n.ks.length=0)&&(decide (n.ss.length=0)&&fX n.es)
 else decide (n.es.length=0)&&(decide (0<n.ks.length)&&(decide (n.ss.length+1=n.ks.length)&&(EB n.ks&&zK n.ss)))
theorem dJ {n:Nd}(h:n.leaf=true):cQ n=true↔n.ks=[]∧n.ss=[]∧Rg n.es:=by
 unfold cQ;rw[if_pos h];simp only[Bool.and_eq_true,decide_eq_true_eq,List.length_eq_zero_iff,Kt]
theorem cX {n:Nd}(h:n.leaf=false):cQ n=true↔n.es=[]∧0<n.ks.length∧n.ss.length+1=n.ks.length∧EB n.ks=true∧zK n.ss=true:=by
 unfold cQ;rw[if_neg (by rw[h];simp)];simp only[Bool.and_eq_true,decide_eq_true_eq,List.length_eq_zero_iff]
def bN:List ByteArray->Nat
 |[]=>0
 |s::l=>5+s.size+bN l
theorem dA (l m:List ByteArray):bN (l++m)=bN l+bN m:=by
 induction l with
 |nil=>simp[bN]
 |cons x l ih=>simp[bN,ih];omega
theorem Gh {l:List ByteArray}{i:Nat}(h:i<l.length):bN (l.take (i+1))=bN (l.take i)+(5+l[i]!.size):=by
 rw[List.take_add_one,List.getElem?_eq_getElem h,dA,getElem!_pos l i h];simp[bN]
theorem og (l:List ByteArray)(i:Nat):bN (l.take i)<=bN l:=by
 have:=dA (l.take i) (l.drop i);rw[List.take_append_drop]at this;omega
theorem tO {l:List ByteArray}{b:Nat}(h:∀x∈l,x.size<=b):bN l<=l.length*(5+b):=by
 induction l with
 |nil=>simp[bN]
 |cons x l ih=>
  have h1:=h x (List.mem_cons_self ..);have h2:=ih fun y hy=>h y (List.mem_cons_of_mem _ hy);simp only[bN,List.length_cons,Nat.add_mul,Nat.one_mul];omega
def dM (n:Nd):Nat:=if n.leaf=true then cx n.es else 4+bN n.ss
def cA (n:Nd):Bool:=cQ n&&decide (dM n<=240)
abbrev Pk:=ByteArray×Int
def b4 (k:Int):List UInt8:=beBytes 4 k.toNat
theorem fp (k:Int):(b4 k).length=4:=beBytes_length 4 _
def xq:List Pk->List UInt8
 |[]=>[]
 |p::l=>lC p.1++b4 p.2++xq l
theorem rj (l:List Pk):(xq l).length=bN (l.map (·.1)):=by
 induction l with
 |nil=>rfl
 |cons x l ih=>
  simp only[xq,bN,List.length_append,List.map_cons,ih,kS,fp];omega
def l8 (k:Int)(ps:List Pk):Nd:=⟨false,[],k::ps.map (·.2),ps.map (·.1)⟩
theorem tP:∀ {ss:List ByteArray} {ks:List Int},ss.length=ks.length->(ss.zip ks).map (·.1)=ss∧(ss.zip ks).map (·.2)=ks
 |[],[],_=>⟨rfl,rfl⟩
 |s::ss,k::ks,h=>by
  have ih:=tP (ss:=ss) (ks:=ks) (by simpa using h);simp[ih.1,ih.2]
theorem nt {n:Nd}(h:cQ n=true)(hl:n.leaf=false):∃k ps,n=l8 k ps∧oF k=true∧(∀p∈ps,oF p.2=true)∧zK (ps.map (·.1))=true:=by
 obtain⟨h1,h2,h3,h4,h5⟩:=(cX hl).1 h;obtain⟨lf,es,ks,ss⟩:=n;simp only at hl h1 h2 h3 h4 h5;subst hl h1;cases ks with
 |nil=>simp at h2
 |cons k ks=>
  obtain⟨z1,z2⟩:=tP (ss:=ss) (ks:=ks) (by simpa using h3);refine⟨k,ss.zip ks,?_,o0 h4 (List.mem_cons_self ..),fun p hp=>?_,by rw[z1];exact h5⟩
  ·unfold l8;rw[z1,z2]
  ·refine o0 h4 (List.mem_cons_of_mem _ ?_);have:=List.mem_map_of_mem (f:=(·.2)) hp;rw[z2]at this;exact this
def vY (n:Nd):List UInt8:=if n.leaf=true then xa n.es else b4 (n.ks.headD 0)++xq (n.ss.zip n.ks.tail)
theorem uS (k:Int)(ps:List Pk):vY (l8 k ps)=b4 k++xq ps:=by
 have:∀l:List Pk,(l.map (·.1)).zip (l.map (·.2))=l:=by
  intro l
  induction l with
  |nil=>rfl
  |cons x l ih=>simp[ih]
 unfold vY l8;simp[this]
theorem l9 {n:Nd}(h:n.leaf=true):vY n=xa n.es:=by unfold vY;rw[if_pos h]
theorem gR {n:Nd}(h:cQ n=true):(vY n).length=dM n:=by
 cases hl:n.leaf
 ·obtain⟨k,ps,rfl,_⟩:=nt h hl;rw[uS,List.length_append,fp,rj];rfl
 ·rw[l9 hl,qY];unfold dM;rw[if_pos hl]
def vZ (n:Nd):Int:=if n.leaf=true then 1 else 2
theorem Gi {k:Int}(h:oF k=true):((beNat (b4 k):Nat):Int)=k:=by
 have:=lZ.1 h;unfold b4;rw[jy 4 _ (by omega)];omega
theorem NQ {l:List UInt8}(h:l.length=4):b4 ((beNat l:Nat):Int)=l:=by
 unfold b4;rw[Int.toNat_natCast];exact wF 4 l h
def jo:List UInt8->Option (Pk×List UInt8)
 |[]=>none
 |c::r=>if r.length<c.toNat+4 then none else some ((⟨(r.take c.toNat).toArray⟩,((beNat ((r.drop c.toNat).take 4):Nat):Int)),r.drop (c.toNat+4))
theorem Bn (c:UInt8)(a b r:List UInt8)(h1:c.toNat=a.length)(h2:b.length=4):jo (c::(a++(b++r)))=some ((⟨a.toArray⟩,((beNat b:Nat):Int)),r):=by
 simp only[jo];have e1:¬(a++(b++r)).length<c.toNat+4:=by rw[List.length_append,List.length_append];omega
 have e2:(a++(b++r)).drop c.toNat=b++r:=by rw[h1];simp
 have e3:(a++(b++r)).take c.toNat=a:=by rw[h1];simp
 have e4:(b++r).take 4=b:=by rw[<-h2];simp
 have e5:(a++(b++r)).drop (c.toNat+4)=r:=by rw[<-List.drop_drop,e2,<-h2];simp
 rw[if_neg e1,e2,e3,e4,e5]
theorem Gj {p:Pk}(r:List UInt8)(h1:p.1.size<=255)(h2:oF p.2=true):jo (lC p.1++b4 p.2++r)=some (p,r):=by
 have s1:=Lib.size_eq p.1;have:=Bn (UInt8.ofNat p.1.size) p.1.data.toList (b4 p.2) r (by rw[ofNat_size h1];exact s1) (fp _);rw[Gi h2]at this;have e:lC p.1++b4 p.2++r=UInt8.ofNat p.1.size::(p.1.data.toList++(b4 p.2++r)):=by simp[lC]
 rw[e,this]
theorem xr {s r:List UInt8}{p:Pk}(h:jo s=some (p,r)):s=lC p.1++b4 p.2++r:=by
 cases s with
 |nil=>simp[jo]at h
 |cons c t=>
  simp only[jo]at h;by_cases h1:t.length<c.toNat+4
  ·rw[if_pos h1]at h;cases h
  ·rw[if_neg h1]at h;cases h;have l1:c.toNat=(t.take c.toNat).length:=by simp;omega
   have l2:((t.drop c.toNat).take 4).length=4:=by simp;omega
   simp only;rw[NQ l2,List.append_assoc,zD l1,<-List.drop_drop,List.take_append_drop,List.take_append_drop]
theorem nu {s r:List UInt8}{p:Pk}(h:jo s=some (p,r)):r.length<s.length:=by
 rw[xr h,List.length_append,List.length_append,fp];omega
def PH:Nat->List UInt8->Option (List Pk)
 |0,s=>if s.isEmpty then some []else none
 |n+1,s=>if s.isEmpty then some []else
  match jo s with
  |none=>none
  |some (x,r)=>(PH n r).map (x:: ·)
def Dy (s:List UInt8):Option (List Pk):=PH s.length s
theorem Bo:∀(n m:Nat) (s:List UInt8),s.length<=n->s.length<=m->PH n s=PH m s
 |0,m,s,h,_=>by
  obtain rfl:s=[]:=List.length_eq_zero_iff.1 (by omega);cases m<;>rfl
 |n+1,0,s,_,h=>by
  obtain rfl:s=[]:=List.length_eq_zero_iff.1 (by omega);rfl
 |n+1,m+1,s,h1,h2=>by
  unfold PH;cases hs:s.isEmpty
  ·cases ht:jo s with
   |none=>rfl
   |some p=>
    obtain⟨x,r⟩:=p;have:=nu ht;simp only;rw[Bo n m r (by omega) (by omega)]
  ·rfl
theorem Bp:Dy []=some []:=rfl
theorem xt {s:List UInt8}(hs:s≠[])(h:jo s=none):Dy s=none:=by
 cases s with
 |nil=>exact absurd rfl hs
 |cons c t=>unfold Dy;simp only[List.length_cons,PH,h];rfl
theorem rk {s r:List UInt8}{x:Pk}(h:jo s=some (x,r)):Dy s=(Dy r).map (x:: ·):=by
 have hl:=nu h;cases s with
 |nil=>simp[jo]at h
 |cons c t=>
  unfold Dy;simp only[List.length_cons,PH,h];rw[Bo t.length r.length r (by simpa using Nat.lt_succ_iff.1 hl) (Nat.le_refl _)];rfl
theorem Ld {l:List Pk}(h:∀p∈l,p.1.size<=255∧oF p.2=true):Dy (xq l)=some l:=by
 induction l with
 |nil=>rfl
 |cons x l ih=>
  have h1:=h x (List.mem_cons_self ..);unfold xq;rw[rk (Gj (xq l) h1.1 h1.2),ih fun y hy=>h y (List.mem_cons_of_mem _ hy)];rfl
theorem Bq:∀(n:Nat) (s:List UInt8) (l:List Pk),s.length<=n->Dy s=some l->xq l=s
 |n,[],l,_,h=>by rw[Bp]at h;cases h;rfl
 |0,c::t,l,hn,_=>by simp at hn
 |n+1,c::t,l,hn,h=>by
  cases hs:jo (c::t)with
  |none=>rw[xt (by simp) hs]at h;cases h
  |some p=>
   obtain⟨x,r⟩:=p;have hl:=nu hs;rw[rk hs]at h;cases hd:Dy r with
   |none=>rw[hd]at h;cases h
   |some m=>
    rw[hd]at h;cases h;rw[xq,Bq n r m (by simp at hn hl⊢;omega) hd,<-xr hs]
def Br (s:List UInt8):Option Nd:=if s.length<4 then none else(Dy (s.drop 4)).map (l8 ((beNat (s.take 4):Nat):Int))
def sO (kind:Int)(s:List UInt8):Option Nd:=
 if 240<s.length then none
 else if kind=1 then(if Dv s=true then some ⟨true,xh s,[],[]⟩else none)
 else if kind=2 then(match Br s with|none=>none|some n=>if cQ n=true then some n else none)
 else none
theorem Le {s:List UInt8}{n:Nd}(h:Br s=some n):∃k ps,n=l8 k ps∧vY n=s:=by
 unfold Br at h;by_cases c:s.length<4
 ·rw[if_pos c]at h;cases h
 ·rw[if_neg c]at h;cases hd:Dy (s.drop 4)with
  |none=>rw[hd]at h;cases h
  |some ps=>
   rw[hd]at h;cases h;refine⟨_,ps,rfl,?_⟩;rw[uS,Bq _ _ _ (Nat.le_refl _) hd,NQ (by simp;omega),List.take_append_drop]
theorem Gk {k:Int}{ps:List Pk}(hk:oF k=true)(h:∀p∈ps,p.1.size<=255∧oF p.2=true):Br (vY (l8 k ps))=some (l8 k ps):=by
 rw[uS];unfold Br;have e1:(b4 k++xq ps).drop 4=xq ps:=by rw[<-fp k];simp
 have e2:(b4 k++xq ps).take 4=b4 k:=by rw[<-fp k];simp
 rw[if_neg (by rw[List.length_append,fp];omega),e1,e2,Ld h,Gi hk];rfl
theorem xu {n:Nd}(h:cQ n=true)(hs:dM n<=240):sO (vZ n) (vY n)=some n:=by
 unfold sO;rw[if_neg (by rw[gR h];omega)];cases hl:n.leaf
 ·have ek:vZ n=2:=by unfold vZ;rw[hl];rfl
  rw[ek,if_neg (by decide),if_pos rfl];obtain⟨k,ps,rfl,h1,h2,h3⟩:=nt h hl;rw[Gk h1 fun p hp=>⟨by have:=l7 h3 (List.mem_map_of_mem (f:=(·.1)) hp);omega,h2 p hp⟩];simp only;rw[if_pos h]
 ·have ek:vZ n=1:=by unfold vZ;rw[hl];rfl
  obtain⟨a,b,c⟩:=(dJ hl).1 h;obtain⟨d1,d2⟩:=KH c;rw[ek,if_pos rfl,l9 hl,d2,if_pos rfl,d1];obtain⟨lf,es,ks,ss⟩:=n;simp only at hl a b;subst hl a b;rfl
theorem xv {kind:Int}{s:List UInt8}{n:Nd}(h:sO kind s=some n):cQ n=true∧dM n<=240∧vY n=s∧vZ n=kind:=by
 unfold sO at h;by_cases c:240<s.length
 ·rw[if_pos c]at h;cases h
 ·rw[if_neg c]at h;by_cases c1:kind=1
  ·rw[if_pos c1]at h;cases hb:Dv s
   ·rw[hb,if_neg (by simp)]at h;cases h
   ·rw[hb,if_pos rfl]at h;cases h;obtain⟨d1,d2⟩:=Dw hb;have r:cQ ⟨true,xh s,[],[]⟩=true:=(dJ rfl).2 ⟨rfl,rfl,d1⟩;have e:vY ⟨true,xh s,[],[]⟩=s:=by rw[l9 rfl];exact d2
    refine⟨r,?_,e,by rw[c1];rfl⟩;rw[<-gR r,e];omega
  ·rw[if_neg c1]at h;by_cases c2:kind=2
   ·rw[if_pos c2]at h;cases hd:Br s with
    |none=>rw[hd]at h;cases h
    |some m=>
     rw[hd]at h;simp only at h;cases hr:cQ m
     ·rw[hr,if_neg (by simp)]at h;cases h
     ·rw[hr,if_pos rfl]at h;cases h;obtain⟨k,ps,e1,e2⟩:=Le hd;refine⟨hr,by rw[<-gR hr,e2];omega,e2,?_⟩;rw[c2,e1];rfl
   ·rw[if_neg c2]at h;cases h
def sr (kind:Int)(s:List UInt8):Nd:=(sO kind s).getD nd0
def su (kind:Int)(s:List UInt8):Bool:=(sO kind s).isSome
end
section
def cY (ss:List ByteArray)(k:ByteArray):Nat:=ss.countP fun s=>!bD k s
def uT (n:Nd):Bool:=cQ n&&(decide (2<=n.es.length)||decide (2<=n.ks.length))
def Gl (n:Nd):Nat:=if n.leaf=true then dZ n.es else n.ks.length/2
def U0 (n:Nd):Nd:=if n.leaf=true then⟨true,n.es.take (Gl n),[],[]⟩else⟨false,[],n.ks.take (Gl n),n.ss.take (Gl n-1)⟩
def V5 (n:Nd):Nd:=if n.leaf=true then⟨true,n.es.drop (Gl n),[],[]⟩else⟨false,[],n.ks.drop (Gl n),n.ss.drop (Gl n)⟩
def V6 (n:Nd):ByteArray:=if n.leaf=true then n.es[Gl n]!.1 else n.ss[Gl n-1]!
def iR (a:Nd)(k:ByteArray)(b:Nd):Nd:=if a.leaf=b.leaf then⟨a.leaf,a.es++b.es,a.ks++b.ks,a.ss++(if a.leaf=true then []else [k])++b.ss⟩else a
def im {α:Type}(l:List α)(f t:Nat)(o:List α):List α:=l.take f++o++l.drop t
def swB (n:Nd)(f t:Int)(ks:List Int)(ss:List ByteArray):Bool:=
 decide (0<=f)&&(decide (t<=n.ks.length)&&(decide (f<t)&&(decide ((ss.length:Int)=max ((ks.length:Int)-1) 0)&& !n.leaf)))
def tQ (f:Nat)(ks:List Int):Nat:=if 0<ks.length then f else f-1
def tR (f t:Nat)(ks:List Int):Nat:=if 0<ks.length then t-1 else if 0<f then t-1 else t
def fQ (n:Nd)(f t:Int)(ks:List Int)(ss:List ByteArray):Nd:=
 if swB n f t ks ss=true then⟨false,n.es,im n.ks f.toNat t.toNat ks,im n.ss (tQ f.toNat ks) (tR f.toNat t.toNat ks) ss⟩else n
theorem xw {n:Nd}(h:uT n=true)(hl:n.leaf=true):n.ks=[]∧n.ss=[]∧Rg n.es∧2<=n.es.length:=by
 unfold uT at h;rw[Bool.and_eq_true]at h;obtain⟨h1,h2⟩:=h;obtain⟨a,b,c⟩:=(dJ hl).1 h1;refine⟨a,b,c,?_⟩;rw[a]at h2;simpa using h2
theorem tS {n:Nd}(h:uT n=true)(hl:n.leaf=false):n.es=[]∧2<=n.ks.length∧n.ss.length+1=n.ks.length∧EB n.ks=true∧zK n.ss=true:=by
 unfold uT at h;rw[Bool.and_eq_true]at h;obtain⟨h1,h2⟩:=h;obtain⟨a,_,b,c,d⟩:=(cX hl).1 h1;refine⟨a,?_,b,c,d⟩;rw[a]at h2;simpa using h2
end
section
section
variable {P:Program}{ops:Array Oper}{Q:Exit->Act->World->Prop}{md:Region.Mode}
theorem aQ {listed:Array Bool}{i:Nat}(h:i∈Region.ready md ops listed):
  i<ops.size∧listed.getD i true=false∧∀o,ops[i]? =some o->(o.after.all fun e=>!Region.binds md e||listed.getD e.on false)=true:=by
 unfold Region.ready at h;rw[List.mem_filter,List.mem_range]at h;obtain⟨h1,h2⟩:=h;rw[Bool.and_eq_true]at h2;refine⟨h1,by simpa using h2.1,fun o ho=>?_⟩;have:=h2.2;rw[ho]at this;simpa using this
def waits (md:Region.Mode)(ops:Array Oper)(i j:Nat):Bool:=match ops[i]? with
 |some o=>o.after.any fun e=>e.on==j&&Region.binds md e
 |none=>false
theorem ah {listed:Array Bool}{i:Nat}(j:Nat)(h:i∈Region.ready md ops listed)(hj:waits md ops i j=true):listed.getD j false=true:=by
 obtain⟨h1,_,h3⟩:=aQ h;have SV:ops[i]? =some ops[i]:=Array.getElem?_eq_getElem h1;have h4:=h3 _ SV;unfold waits at hj;rw[SV]at hj;simp only at hj;rw[Array.any_eq_true]at hj;obtain⟨k,hk,hx⟩:=hj;rw[Bool.and_eq_true,beq_iff_eq]at hx;rw[Array.all_eq_true]at h4;have h5:=h4 k hk;rw[hx.2,hx.1]at h5;simpa using h5
def ahead (md:Region.Mode)(ops:Array Oper):Bool:=(List.range ops.size).all fun i=>match ops[i]? with
 |some o=>o.after.all fun e=>!Region.binds md e||decide (e.on<i)
 |none=>true
theorem Gm {listed:Array Bool}(hs:listed.size=ops.size)(ho:ahead md ops=true):∀i,i<ops.size->listed.getD i true=false->Region.ready md ops listed≠[]:=by
 intro i
 induction i using Nat.strongRecOn with
 |ind i ih=>
  intro hi hu;by_cases c:∃j,j<i∧listed.getD j true=false
  ·obtain⟨j,hj,ZU⟩:=c;exact ih j hj (by omega) ZU
  ·have hm:i∈Region.ready md ops listed:=by
    unfold Region.ready;rw[List.mem_filter,List.mem_range];refine⟨hi,?_⟩;have hoi:ops[i]? =some ops[i]:=Array.getElem?_eq_getElem hi;rw[hu,hoi];have ha:=List.all_eq_true.1 ho i (List.mem_range.2 hi);rw[hoi]at ha;simp only[Option.map_some,Option.getD_some,Bool.not_false,Bool.true_and];rw[Array.all_eq_true]at ha⊢;intro k hk;have hb:=ha k hk;cases hbd:Region.binds md ops[i].after[k]
    ·rfl
    rw[hbd]at hb;have:=of_decide_eq_true (by simpa using hb:decide (ops[i].after[k].on<i)=true);have e:listed.getD ops[i].after[k].on true=true:=by
     cases e:listed.getD ops[i].after[k].on true
     ·exact absurd ⟨_,this,e⟩ c
     ·rfl
    have hlt:ops[i].after[k].on<listed.size:=by omega
    have e2:listed.getD ops[i].after[k].on false=true:=by
     simp only[Array.getD,hlt,dif_pos]at e⊢;exact e
    rw[e2];rfl
   intro e;rw[e]at hm;cases hm
theorem count_set {f:List Bool}{i n:Nat}(hi:i<f.length)(hf:f[i]=false)(hc:f.count false=n+1):(f.set i true).count false=n:=by
 rw[List.count_set hi,hf,hc];simp
theorem tT (ho:ahead md ops=true)(J:List Bool->Act->World->Prop)
  (hstep:∀i f a w,f.length=ops.size->J f a w->i∈Region.ready md ops f.toArray->wpOp P ops Q i (fun a' w'=>J (f.set i true) a' w') a w)
  (hdone:∀a w,J (List.replicate ops.size true) a w->Q .normal a w):
  ∀n f a w,f.length=ops.size->f.count false=n->J f a w->wpAny P md ops Q n f.toArray a w:=by
 intro n
 induction n with
 |zero=>
  intro f a w hl hc hJ;have hall:f=List.replicate ops.size true:=by
   rw[List.eq_replicate_iff];refine⟨hl,fun b hb=>?_⟩;cases b
   ·exact absurd hb (List.count_eq_zero.1 hc)
   ·rfl
  refine⟨?_,hdone a w (hall▸hJ)⟩;rw[List.eq_nil_iff_forall_not_mem];intro i hi;obtain⟨h1,h2,_⟩:=aQ hi;rw[hall]at h2;simp[Array.getD]at h2
 |succ n ih=>
  intro f a w hl hc hJ;refine⟨fun e=>?_,fun i hi=>?_⟩
  ·exfalso;have hm:false∈f:=List.count_pos_iff.1 (by omega);obtain⟨i,hi,he⟩:=List.getElem_of_mem hm;refine Gm (md:=md) (listed:=f.toArray) (by simpa using hl) ho i (by omega) ?_ e;simp[Array.getD,hi,he]
  ·obtain⟨h1,h2,_⟩:=aQ hi;have hif:i<f.length:=by omega
   have hfi:f[i]=false:=by simpa[Array.getD,hif]using h2
   refine wpOp_mono (fun a' w' h'=>?_) (hstep i f a w hl hJ hi);have:=ih (f.set i true) a' w' (by simpa using hl) (count_set hif hfi hc) h';simpa using this
def zL (md:Region.Mode)(ops:Array Oper)(L:Nat):Bool:=(List.range ops.size).all fun i=>i==L||match ops[L]? with
 |some o=>o.after.any fun e=>e.on==i&&Region.binds md e
 |none=>false
theorem Gn {f:List Bool}{L:Nat}(hl:f.length=ops.size)(hL:zL md ops L=true)(h:L∈Region.ready md ops f.toArray):f.set L true=List.replicate ops.size true:=by
 obtain⟨h1,h2,h3⟩:=aQ h;have SV:ops[L]? =some ops[L]:=Array.getElem?_eq_getElem h1;have h4:=h3 _ SV;refine List.eq_replicate_iff.2 ⟨by simpa using hl,fun b hb=>?_⟩;obtain⟨i,hi,rfl⟩:=List.getElem_of_mem hb;rw[List.getElem_set];by_cases c:L=i
 ·rw[if_pos c]
 ·rw[if_neg c];have hi':i<f.length:=by simpa using hi
  have hx:=List.all_eq_true.1 hL i (List.mem_range.2 (by omega));rw[SV]at hx;simp only[Bool.or_eq_true,beq_iff_eq]at hx;rcases hx with hx|hx
  ·exact absurd hx.symm c
  ·rw[Array.any_eq_true]at hx;obtain⟨k,hk,hx⟩:=hx;rw[Bool.and_eq_true,beq_iff_eq]at hx;rw[Array.all_eq_true]at h4;have h5:=h4 k hk;rw[hx.2,hx.1]at h5;simpa[Array.getD,hi']using h5
theorem zM {id:Nat}{a:Act}{w:World}(L:Nat)(J:List Bool->Act->World->Prop)(hm:P.follows .mixedOrders=true)(ho:ahead .any ops=true)(hL:zL .any ops L=true)
  (h0:J (List.replicate ops.size false) a w.drew)
  (hstep:∀i f a w,i≠L->f.length=ops.size->J f a w->i∈Region.ready .any ops f.toArray->wpOp P ops Q i (fun a' w'=>J (f.set i true) a' w') a w)
  (hlast:∀f a w,f.length=ops.size->J f a w->L∈Region.ready .any ops f.toArray->wpOp P ops Q L (fun a' w'=>Q .normal a' w') a w)
  (hJ:∀f a w,J f a w->f.getD L true=false):(Code.region id ops true).wp P Q a w:=by
 refine wp_region_any hm ?_;have key:=tT (P:=P) (Q:=Q) (md:=.any) ho (fun f a w=>J f a w∨(f=List.replicate ops.size true∧Q .normal a w)) (fun i f a w hl hj hi=>?_) (fun a w hj=>?_) ops.size (List.replicate ops.size false) a w.drew (by simp) (by simp) (Or.inl h0)
 ·simpa using key
 ·rcases hj with hj| ⟨rfl,_⟩
  ·by_cases c:i=L
   ·subst c;exact wpOp_mono (fun a' w' h'=>Or.inr ⟨Gn hl hL hi,h'⟩) (hlast f a w hl hj hi)
   ·exact wpOp_mono (fun a' w' h'=>Or.inl h') (hstep i f a w c hl hj hi)
  ·exfalso;obtain⟨h1,h2,_⟩:=aQ hi;simp[Array.getD]at h2
 ·rcases hj with hj| ⟨_,hj⟩
  ·exfalso;have:=hJ _ _ _ hj;rw[List.getD_eq_getElem?_getD,List.getElem?_replicate]at this;split at this<;>simp at this
  ·exact hj
section
def Ch (K:(List Bool->Act->Prop)->World->Prop)(f:List Bool)(a:Act)(w:World):Prop:=∀C,K C w->C f a
theorem hidR {α:Sort _}{a:α}{p:Prop}:Hid (p->a=a):=fun _=>rfl
theorem aq {p:Prop}:Hid (false=true->p):=fun h=>by cases h
theorem aj {P:Program}{ops:Array Oper}{Q:Exit->Act->World->Prop}{i:Nat}{o:Oper}{K:Act->World->Prop}{a:Act}{w:World}(ho:ops[i]? =some o)(h:∀K':Act->World->Prop,Shut (∀a w,K a w->K' a w)->if Region.wanted o (yielded ops a.tmps)=true then Oper.wp P o a w K' Q else K' (a.put o.dst undef) w):wpOp P ops Q i K a w:=wpOp_step ho h
theorem bc {P:Program}{ops:Array Oper}{Q:Exit->Act->World->Prop}{id:Nat}{a:Act}{w:World}(L:Nat)(K:(List Bool->Act->Prop)->World->Prop)(hm:P.follows .mixedOrders=true)(ho:ahead .any ops=true)(hL:zL .any ops L=true)(h0:Ch K (List.replicate ops.size false) a w.drew)
  (hstep:∀i w,i≠L->K (fun f a=>i∈Region.ready .any ops f.toArray->wpOp P ops Q i (fun a' w'=>Ch K (f.set i true) a' w') a w) w)
  (hlast:∀w,K (fun f a=>L∈Region.ready .any ops f.toArray->wpOp P ops Q L (fun a' w'=>Q .normal a' w') a w) w)
  (hJ:∀w,K (fun f _=>f.getD L true=false) w):(Code.region id ops true).wp P Q a w:=
 zM L (Ch K) hm ho hL h0 (fun i _ _ w hne _ hj=>hj _ (hstep i w hne)) (fun _ _ w _ hj=>hj _ (hlast w)) (fun _ _ w hj=>hj _ (hJ w))
end
end
end
section
def encI (n:Int):List Value:=[.int .i64 n]
theorem iA (n:Int):(encI n).length=1:=rfl
theorem xx (n:Int):∀v∈encI n,v.oneCell'=true:=fun v hv=>by simp[encI]at hv;subst hv;rfl
theorem oT:(Tryz.prog.info? 3).map (fun i=>(i.zero,i.size,i.bytes))=some (some (.int .i64 0),1,8):=by kernel_rfl
abbrev dN (base:Nat)(W:World)(v:Value)(l:List Int):Prop:=W.ownsRow base 3 1 v l.length (flatK encI 1 l.toArray).toList
section
variable {α:Type}[Inhabited α]{enc:α->List Value}{k:Nat}{w w':World}{v:Value}{l:List α}
theorem ar (h:Row enc k w v l):∃ao c,v=.slice ao l.length c∧l.length<=c:=by
 obtain⟨ao,cap,rfl,h1,_⟩:=h;exact⟨ao,cap,rfl,h1⟩
theorem nw:Row enc k w (.slice none 0 0) ([]:List α):=(Own.nil (base:=0)).row
theorem Bt (hk0:0<k){ao:Option Addr}{n c:Nat}(h:Row enc k w (.slice ao n c) l)(i j m:Nat)(hm:j=i+m)(hj:j<=l.length)(dG:Option Addr)(hao:∀b off,ao=some ⟨b,off,none⟩->m≠0->dG=some ⟨b,off+i*k,none⟩)(c':Nat)(hc:m<=c')(hz:dG=none->c'=0):
  Row enc k w (.slice dG m c') ((l.drop i).take m):=by
 obtain⟨sq,cap,e,h1,h2,h3⟩:=h;cases e;have hlen:((l.drop i).take m).length=m:=by simp;omega
 refine⟨dG,c',by rw[hlen],by rw[hlen];exact hc,hz,fun hne=>?_⟩;have hm0:m≠0:=by intro e;subst e;simp at hne
 obtain⟨b,off,e,hlt,hcell⟩:=h3 (by intro e;subst e;simp at hj;omega);refine⟨b,off+i*k,hao b off e hm0,hlt,fun t ht=>?_⟩;rw[hlen]at ht;have hlk:i*k+t<l.length*k:=by
  have h5:i*k+m*k=j*k:=by rw[hm,Nat.add_mul]
  have h6:j*k<=l.length*k:=Nat.mul_le_mul_right k hj;omega
 have htk:t/k<m:=(Nat.div_lt_iff_lt_mul hk0).2 ht;rw[Nat.add_assoc,hcell (i*k+t) hlk,get_flatK _ _ _ _ (by simpa using hlk),get_flatK _ _ _ _ (by rw[List.size_toArray,hlen];exact ht)];have e1:(i*k+t)/k=i+t/k:=by rw[Nat.mul_comm,Nat.mul_add_div hk0]
 have e2:(i*k+t)%k=t%k:=by rw[Nat.mul_comm,Nat.mul_add_mod]
 rw[e1,e2,getElem!_pos l.toArray (i+t/k) (by simp;omega),getElem!_pos ((l.drop i).take m).toArray (t/k) (by simp;omega)];simp
theorem rp (hk0:0<k){ao:Option Addr}{n c:Nat}(h:Row enc k w (.slice ao n c) l)(i:Nat)(hi:i<=l.length):Row enc k w (.slice ao i c) (l.take i):=by
 have e:=h;obtain⟨sq,cap,e1,h1,h2,h3⟩:=e;cases e1;have:=Bt hk0 h 0 i i (by omega) hi ao (fun b off e _=>by rw[e];simp) c (by omega) h2;simpa using this
theorem rq (hk0:0<k){ao:Option Addr}{n c:Nat}(h:Row enc k w (.slice ao n c) l)(i:Nat)(hi:i<=l.length):Row enc k w (.slice (if c=i then ao else ao.map (·.add (i*k))) (n-i) (c-i)) (l.drop i):=by
 have e:=h;obtain⟨sq,cap,e1,h1,h2,h3⟩:=e;cases e1;have:=Bt hk0 h i l.length (l.length-i) (by omega) (Nat.le_refl _) (if c=i then ao else ao.map (·.add (i*k))) (fun b off e hm=>by
  rw[if_neg (by omega),e]
  show some (Addr.add ⟨b,off,none⟩ (i*k))=_
  rw[Go.WideShapes.add_plain]) (c-i) (by omega) (fun e=>by
  by_cases c1:c=i
  ·omega
  ·rw[if_neg c1]at e
   have:ao=none:=by cases ao with
    |none=>rfl
    |some a=>simp at e
   have:=h2 this
   omega)
 rwa [List.take_of_length_le (by simp)]at this
end
theorem uU {w wr:World}{ao:Option Addr}{l:List Int}(h3:l≠[]->∃b off,ao=some ⟨b,off,none⟩∧b<w.heap.size∧cq encI 1 w b off l)(i:Nat)(hi:i<l.length)(hb:Below w.heap.size w wr):
  ∃b off,ao=some ⟨b,off,none⟩∧b<w.heap.size∧wr.cell? ⟨b,off+i,none⟩=some (.int .i64 l[i]!):=by
 obtain⟨b,off,e,hlt,hc⟩:=h3 (by intro h;rw[h]at hi;simp at hi);refine⟨b,off,e,hlt,?_⟩;rw[hb.cell (p:=⟨b,off+i,none⟩) hlt,hc i (by omega),get_flatK _ _ _ _ (by simp;omega),show i/1=i by omega,show i%1=0 by omega];simp[encI]
theorem ke {w wr:World}{ao:Option Addr}{l:List ByteArray}(h3:l≠[]->∃b off,ao=some ⟨b,off,none⟩∧b<w.heap.size∧cq encS 1 w b off l)(i:Nat)(hi:i<l.length)(hb:Below w.heap.size w wr):
  ∃b off,ao=some ⟨b,off,none⟩∧b<w.heap.size∧wr.cell? ⟨b,off+i,none⟩=some (.string l[i]!):=by
 obtain⟨b,off,e,hlt,hc⟩:=h3 (by intro h;rw[h]at hi;simp at hi);refine⟨b,off,e,hlt,?_⟩;rw[hb.cell (p:=⟨b,off+i,none⟩) hlt,hc i (by omega),get_flatK _ _ _ _ (by simp;omega),show i/1=i by omega,show i%1=0 by omega];simp[encS]
theorem bJ {base:Nat}{w:World}{e:TypeId}{k:Nat}{v:Value}{n:Nat}{xs:List Value}(h:w.ownsRow base e k v n xs):∃ao c,v=.slice ao n c:=by
 rcases h.2 with⟨h,h2⟩| ⟨g,cap,cur,h,_⟩
 ·rw[h2];exact⟨_,_,h⟩
 ·exact⟨_,_,h⟩
theorem aG {base base':Nat}{w:World}{e:TypeId}{k:Nat}{v:Value}{n:Nat}{xs:List Value}(h:w.ownsRow base e k v n xs)(hb:base'<=base):w.ownsRow base' e k v n xs:=by
 refine⟨h.1,?_⟩;rcases h.2 with h2| ⟨g,cap,cur,hv,hg,r⟩
 ·exact Or.inl h2
 ·exact Or.inr ⟨g,cap,cur,hv,Nat.le_trans hb hg,r⟩
theorem jO {base:Nat}{W:World}{e:TypeId}{k:Nat}{v:Value}{n:Nat}{xs:List Value}(h:W.ownsRow base e k v n xs):∀r,v.ownBlock=some r->base<=r:=by
 intro r hk;rcases dO h with hr| ⟨r,hr,hle⟩
 ·rw[hr]at hk;cases hk
 ·rw[hr]at hk;cases hk;exact hle
theorem Gp {base:Nat}{w:World}{v u:Value}{l m:List En}(ty:TypeId)(h:aW base w v l)(hu:Row ax 2 w u m)(hl:l.length+m.length<1000000)(hbase:base<=w.heap.size):
  ∃ao n c w',(Builtin.append_ #[27,27] ty #[v,u]).run Tryz.prog w=.ok (.slice ao n c) w'∧aW base w' (.slice ao n c) (l++m)∧(∀w0,Below base w0 w->Below base w0 w'):=by
 obtain⟨i0,hi,hz0,hz1,hz2⟩:=info_parts dT;have ht:=Tryz.underlying27;obtain⟨ao,cap,rfl,h1,h2,h3⟩:=hu;cases ao with
 |none=>
  have hm:m=[]:=by
   rcases List.eq_nil_or_concat m with e1| ⟨m',y,e1⟩
   ·exact e1
   ·obtain⟨b,off,e2,_⟩:=h3 (by rw[e1];simp);cases e2
  subst hm;have hc0:=h2 rfl;subst hc0;obtain⟨av,cv,rfl⟩:=bJ h;exact⟨_,_,_,w,run_append_owned_none (P:=Tryz.prog) w base _ ty _ i0 2 ht hi _ _ _ h,by rw[List.append_nil];exact h,fun _ hb=>hb⟩
 |some ad=>
  obtain⟨v',w',hr,g1,g2,_⟩:=run_append_own (P:=Tryz.prog) w base 27 ty 45 i0 _ 2 32 ht hi hz0 hz1 hz2 rfl (by decide) v _ _ h ad m.length cap (flatK ax 2 m.toArray).toList (by simp) (fun j u hj=>by
   obtain⟨hj1,hj2⟩:=List.getElem?_eq_some_iff.1 hj
   have jv:j<m.length*2:=by simpa using hj1
   obtain⟨b,off,e2,_,hc⟩:=h3 (by intro e;rw[e]at jv;simp at jv)
   cases e2
   rw[Go.WideShapes.add_plain,hc j jv,getElem!_pos _ j (by simpa using jv),<-hj2]
   simp) (cm dS bY) (by unfold maxLen;omega) (by omega) hbase
  obtain⟨av,cv,rfl⟩:=bJ g1;refine⟨_,_,_,w',hr,?_,fun w0 hb=>hb.grown g2 hbase fun k hk=>jO h k hk⟩;show w'.ownsRow base 45 2 _ (l++m).length (flatK ax 2 (l++m).toArray).toList;rw[List.length_append,bB ax 2 bY];exact g1
theorem V7 {ops:Array Oper}{rest:List Oper}{o:Oper}{a:Act}{Q:Exit->Act->World->Prop}{w:World}(hgd:o.guard=.none)(s x:Operand)
  (ho:o.op=.call {callee:=.builtin .append,args:=#[s,x],argTypes:=#[27,27]})(base:Nat)(v:Value)(l:List En)(hs:a.eval s=v)(hown:aW base w v l)
  (u:Value)(m:List En)(hx:a.eval x=u)(hu:Row ax 2 w u m)(hl:l.length+m.length<1000000)(hbase:base<=w.heap.size)(lm:List En)(hlm:l++m=lm)
  (h:∀ao n c w',aW base w' (.slice ao n c) lm->(∀w0,Below base w0 w->Below base w0 w')->wpList Tryz.prog ops Q rest (a.put o.dst (.slice ao n c)) w'):wpList Tryz.prog ops Q (o::rest) a w:=by
 subst hlm;refine wpList_plain hgd fun K hK'=>?_;obtain⟨ao,n,c,w',hrun,h1,h2⟩:=Gp o.type hown hu hl hbase;unfold Oper.wp;simp[execOp,ho,resolve,invoke,builtin,hs,hx,hrun,Result.andThen];exact hK' _ _ (h ao n c w' h1 h2)
theorem V8:Tryz.prog.underlying 27=some (.slice (Tryz.prog.elem 27)):=by kernel_rfl
theorem V9 (u:World):(sizeOf (Tryz.prog.elem 27)).run Tryz.prog u=.ok 2 u:=by kernel_rfl
theorem SX (ao:Option Addr)(n c k:Nat)(hk:k<=c)(u:World):(Instr.slice 27 (.slice ao n c) none (some (.int .i64 (k:Int))) none).run Tryz.prog u=.ok (.slice ao k c) u:=by
 rw[run_slice_h u 27 ao n c V8 .i64 k (by omega) (by omega),V9];simp only[Result.andThen,sliced,Int.toNat_natCast];cases ao<;>simp[add0]
theorem Gq {base:Nat}{w:World}{v u:Value}{l m:List Int}(ty:TypeId)(h:dN base w v l)(hu:Row encI 1 w u m)(hl:l.length+m.length<1000000)(hbase:base<=w.heap.size):
  ∃ao n c w',(Builtin.append_ #[56,56] ty #[v,u]).run Tryz.prog w=.ok (.slice ao n c) w'∧dN base w' (.slice ao n c) (l++m)∧(∀w0,Below base w0 w->Below base w0 w'):=by
 obtain⟨i0,hi,hz0,hz1,hz2⟩:=info_parts oT;have ht:=Tryz.underlying56;obtain⟨ao,cap,rfl,h1,h2,h3⟩:=hu;cases ao with
 |none=>
  have hm:m=[]:=by
   rcases List.eq_nil_or_concat m with e1| ⟨m',y,e1⟩
   ·exact e1
   ·obtain⟨b,off,e2,_⟩:=h3 (by rw[e1];simp);cases e2
  subst hm;have hc0:=h2 rfl;subst hc0;obtain⟨av,cv,rfl⟩:=bJ h;exact⟨_,_,_,w,run_append_owned_none (P:=Tryz.prog) w base _ ty _ i0 1 ht hi _ _ _ h,by rw[List.append_nil];exact h,fun _ hb=>hb⟩
 |some ad=>
  obtain⟨v',w',hr,g1,g2,_⟩:=run_append_own (P:=Tryz.prog) w base 56 ty 3 i0 _ 1 8 ht hi hz0 hz1 hz2 rfl (by decide) v _ _ h ad m.length cap (flatK encI 1 m.toArray).toList (by simp) (fun j u hj=>by
   obtain⟨hj1,hj2⟩:=List.getElem?_eq_some_iff.1 hj
   have jv:j<m.length*1:=by simpa using hj1
   obtain⟨b,off,e2,_,hc⟩:=h3 (by intro e;rw[e]at jv;simp at jv)
   cases e2
   rw[Go.WideShapes.add_plain,hc j jv,getElem!_pos _ j (by simpa using jv),<-hj2]
   simp) (cm xx iA) (by unfold maxLen;omega) (by omega) hbase
  obtain⟨av,cv,rfl⟩:=bJ g1;refine⟨_,_,_,w',hr,?_,fun w0 hb=>hb.grown g2 hbase fun k hk=>jO h k hk⟩;show w'.ownsRow base 3 1 _ (l++m).length (flatK encI 1 (l++m).toArray).toList;rw[List.length_append,bB encI 1 iA];exact g1
theorem Wa {ops:Array Oper}{rest:List Oper}{o:Oper}{a:Act}{Q:Exit->Act->World->Prop}{w:World}(hgd:o.guard=.none)(s x:Operand)
  (ho:o.op=.call {callee:=.builtin .append,args:=#[s,x],argTypes:=#[56,56]})(base:Nat)(v:Value)(l:List Int)(hs:a.eval s=v)(hown:dN base w v l)
  (u:Value)(m:List Int)(hx:a.eval x=u)(hu:Row encI 1 w u m)(hl:l.length+m.length<1000000)(hbase:base<=w.heap.size)(lm:List Int)(hlm:l++m=lm)
  (h:∀ao n c w',dN base w' (.slice ao n c) lm->(∀w0,Below base w0 w->Below base w0 w')->wpList Tryz.prog ops Q rest (a.put o.dst (.slice ao n c)) w'):wpList Tryz.prog ops Q (o::rest) a w:=by
 subst hlm;refine wpList_plain hgd fun K hK'=>?_;obtain⟨ao,n,c,w',hrun,h1,h2⟩:=Gq o.type hown hu hl hbase;unfold Oper.wp;simp[execOp,ho,resolve,invoke,builtin,hs,hx,hrun,Result.andThen];exact hK' _ _ (h ao n c w' h1 h2)
theorem SY:Tryz.prog.underlying 56=some (.slice (Tryz.prog.elem 56)):=by kernel_rfl
theorem Ta (u:World):(sizeOf (Tryz.prog.elem 56)).run Tryz.prog u=.ok 1 u:=by kernel_rfl
theorem xy (ao:Option Addr)(n c k:Nat)(hk:k<=c)(u:World):(Instr.slice 56 (.slice ao n c) none (some (.int .i64 (k:Int))) none).run Tryz.prog u=.ok (.slice ao k c) u:=by
 rw[run_slice_h u 56 ao n c SY .i64 k (by omega) (by omega),Ta];simp only[Result.andThen,sliced,Int.toNat_natCast];cases ao<;>simp[add0]
theorem xz (ao:Option Addr)(n c k:Nat)(hk:k<=n)(u:World):(Instr.slice 56 (.slice ao n c) (some (.int .i64 (k:Int))) none none).run Tryz.prog u=.ok (.slice (if c=k then ao else ao.map (·.add (k*1))) (n-k) (c-k)) u:=by
 rw[run_slice_l u 56 ao n c SY .i64 k (by omega) (by omega),Ta];simp[Result.andThen,sliced]
theorem Gr {base:Nat}{w:World}{v u:Value}{l m:List ByteArray}(ty:TypeId)(h:cE base w v l)(hu:Row encS 1 w u m)(hl:l.length+m.length<1000000)(hbase:base<=w.heap.size):
  ∃ao n c w',(Builtin.append_ #[66,66] ty #[v,u]).run Tryz.prog w=.ok (.slice ao n c) w'∧cE base w' (.slice ao n c) (l++m)∧(∀w0,Below base w0 w->Below base w0 w'):=by
 obtain⟨i0,hi,hz0,hz1,hz2⟩:=info_parts lR;have ht:=Tryz.underlying66;obtain⟨ao,cap,rfl,h1,h2,h3⟩:=hu;cases ao with
 |none=>
  have hm:m=[]:=by
   rcases List.eq_nil_or_concat m with e1| ⟨m',y,e1⟩
   ·exact e1
   ·obtain⟨b,off,e2,_⟩:=h3 (by rw[e1];simp);cases e2
  subst hm;have hc0:=h2 rfl;subst hc0;obtain⟨av,cv,rfl⟩:=bJ h;exact⟨_,_,_,w,run_append_owned_none (P:=Tryz.prog) w base _ ty _ i0 1 ht hi _ _ _ h,by rw[List.append_nil];exact h,fun _ hb=>hb⟩
 |some ad=>
  obtain⟨v',w',hr,g1,g2,_⟩:=run_append_own (P:=Tryz.prog) w base 66 ty 9 i0 _ 1 16 ht hi hz0 hz1 hz2 rfl (by decide) v _ _ h ad m.length cap (flatK encS 1 m.toArray).toList (by simp) (fun j u hj=>by
   obtain⟨hj1,hj2⟩:=List.getElem?_eq_some_iff.1 hj
   have jv:j<m.length*1:=by simpa using hj1
   obtain⟨b,off,e2,_,hc⟩:=h3 (by intro e;rw[e]at jv;simp at jv)
   cases e2
   rw[Go.WideShapes.add_plain,hc j jv,getElem!_pos _ j (by simpa using jv),<-hj2]
   simp) (cm xl eV) (by unfold maxLen;omega) (by omega) hbase
  obtain⟨av,cv,rfl⟩:=bJ g1;refine⟨_,_,_,w',hr,?_,fun w0 hb=>hb.grown g2 hbase fun k hk=>jO h k hk⟩;show w'.ownsRow base 9 1 _ (l++m).length (flatK encS 1 (l++m).toArray).toList;rw[List.length_append,bB encS 1 eV];exact g1
theorem Wb {ops:Array Oper}{rest:List Oper}{o:Oper}{a:Act}{Q:Exit->Act->World->Prop}{w:World}(hgd:o.guard=.none)(s x:Operand)
  (ho:o.op=.call {callee:=.builtin .append,args:=#[s,x],argTypes:=#[66,66]})(base:Nat)(v:Value)(l:List ByteArray)(hs:a.eval s=v)(hown:cE base w v l)
  (u:Value)(m:List ByteArray)(hx:a.eval x=u)(hu:Row encS 1 w u m)(hl:l.length+m.length<1000000)(hbase:base<=w.heap.size)(lm:List ByteArray)(hlm:l++m=lm)
  (h:∀ao n c w',cE base w' (.slice ao n c) lm->(∀w0,Below base w0 w->Below base w0 w')->wpList Tryz.prog ops Q rest (a.put o.dst (.slice ao n c)) w'):wpList Tryz.prog ops Q (o::rest) a w:=by
 subst hlm;refine wpList_plain hgd fun K hK'=>?_;obtain⟨ao,n,c,w',hrun,h1,h2⟩:=Gr o.type hown hu hl hbase;unfold Oper.wp;simp[execOp,ho,resolve,invoke,builtin,hs,hx,hrun,Result.andThen];exact hK' _ _ (h ao n c w' h1 h2)
theorem Tb:Tryz.prog.underlying 66=some (.slice (Tryz.prog.elem 66)):=by kernel_rfl
theorem Tc (u:World):(sizeOf (Tryz.prog.elem 66)).run Tryz.prog u=.ok 1 u:=by kernel_rfl
theorem xA (ao:Option Addr)(n c k:Nat)(hk:k<=c)(u:World):(Instr.slice 66 (.slice ao n c) none (some (.int .i64 (k:Int))) none).run Tryz.prog u=.ok (.slice ao k c) u:=by
 rw[run_slice_h u 66 ao n c Tb .i64 k (by omega) (by omega),Tc];simp only[Result.andThen,sliced,Int.toNat_natCast];cases ao<;>simp[add0]
theorem xB (ao:Option Addr)(n c k:Nat)(hk:k<=n)(u:World):(Instr.slice 66 (.slice ao n c) (some (.int .i64 (k:Int))) none none).run Tryz.prog u=.ok (.slice (if c=k then ao else ao.map (·.add (k*1))) (n-k) (c-k)) u:=by
 rw[run_slice_l u 66 ao n c Tb .i64 k (by omega) (by omega),Tc];simp[Result.andThen,sliced]
structure gh (w:World)(ve vk vs:Value)(n:Nd):Prop where
 e:Row ax 2 w ve n.es
 k:Row encI 1 w vk n.ks
 s:Row encS 1 w vs n.ss
theorem gh.below {w w':World}{ve vk vs:Value}{n:Nd}(h:gh w ve vk vs n)(hb:Below w.heap.size w w'):gh w' ve vk vs n:=⟨h.e.below hb,h.k.below hb,h.s.below hb⟩
structure kf (base:Nat)(w:World)(ve vk vs:Value)(n:Nd):Prop where
 e:aW base w ve n.es
 k:dN base w vk n.ks
 s:cE base w vs n.ss
theorem kf.r {base:Nat}{w:World}{ve vk vs:Value}{n:Nd}(h:kf base w ve vk vs n):gh w ve vk vs n:=⟨(bX (by decide) h.e).row,(bX (by decide) h.k).row,(bX (by decide) h.s).row⟩
theorem kf.mono {base base':Nat}{w:World}{ve vk vs:Value}{n:Nd}(h:kf base w ve vk vs n)(hb:base'<=base):kf base' w ve vk vs n:=⟨aG h.e hb,aG h.k hb,aG h.s hb⟩
theorem dN.empty (base:Nat)(W:World):dN base W (.slice none 0 0) []:=by unfold dN;simpa[flatK]using World.ownsRow_nil W base 3 1
theorem kf.zero (base:Nat)(w:World):kf base w (.slice none 0 0) (.slice none 0 0) (.slice none 0 0) nd0:=⟨aW.empty _ _,dN.empty _ _,cE.empty _ _⟩
structure Sm (n:Nd):Prop where
 e:n.es.length<=1000
 k:n.ks.length<=1000
 s:n.ss.length<=1000
 ez:cx n.es<=1000000
 sz:bN n.ss<=1000000
structure tU (n:Nd):Prop where
 e:n.es.length<=1000
 k:n.ks.length<=1000
 s:n.ss.length<=1000
theorem Sm.l {n:Nd}(h:Sm n):tU n:=⟨h.e,h.k,h.s⟩
end
section
theorem tV {α:Type}[Inhabited α]{ls:List (List α)}{i:Nat}(h:i<ls.length):(ls.take (i+1)).flatten=(ls.take i).flatten++ls[i]! :=by
 rw[dx h];simp
theorem Lf {α:Type}[Inhabited α]{ls:List (List α)}{i:Nat}(h:i<ls.length):(ls.take i).flatten.length+ls[i]!.length<=ls.flatten.length:=by
 rw[<-List.length_append,<-tV h];have:=congrArg (fun l=>l.flatten.length) (List.take_append_drop (i+1) ls);simp only[List.flatten_append,List.length_append]at this;omega
theorem je:(∀(q:Nat) (t:TypeId) (vs:List Value) (ls:List (List En)) (m:Nat) (w:World) (hq:Cl w q vs.toArray t) (hv:vs.length=m) (hvl:ls.length=m) (hr:∀i,i<m->Row ax 2 w vs[i]! ls[i]!) (hN:ls.flatten.length<1000000) (hm:m<=1000) (out:List En) (hout:ls.flatten=out),Calls Tryz.prog 189 #[.slice (some ⟨q,0,none⟩) m m] w fun e w'=>∃ao n c,e=.returned (.slice ao n c)∧aW w.heap.size w' (.slice ao n c) out∧Below w.heap.size w w')∧
  (∀(q:Nat) (t:TypeId) (vs:List Value) (ls:List (List Int)) (m:Nat) (w:World) (hq:Cl w q vs.toArray t) (hv:vs.length=m) (hvl:ls.length=m) (hr:∀i,i<m->Row encI 1 w vs[i]! ls[i]!) (hN:ls.flatten.length<1000000) (hm:m<=1000) (out:List Int) (hout:ls.flatten=out),Calls Tryz.prog 217 #[.slice (some ⟨q,0,none⟩) m m] w fun e w'=>∃ao n c,e=.returned (.slice ao n c)∧dN w.heap.size w' (.slice ao n c) out∧Below w.heap.size w w')∧
  (∀(q:Nat) (t:TypeId) (vs:List Value) (ls:List (List ByteArray)) (m:Nat) (w:World) (hq:Cl w q vs.toArray t) (hv:vs.length=m) (hvl:ls.length=m) (hr:∀i,i<m->Row encS 1 w vs[i]! ls[i]!) (hN:ls.flatten.length<1000000) (hm:m<=1000) (out:List ByteArray) (hout:ls.flatten=out),Calls Tryz.prog 218 #[.slice (some ⟨q,0,none⟩) m m] w fun e w'=>∃ao n c,e=.returned (.slice ao n c)∧cE w.heap.size w' (.slice ao n c) out∧Below w.heap.size w w'):=by
 and_intros
 have iT:=trivial
 rotate_left
 have fc:=trivial
 rotate_left
 have PI:=trivial
 rotate_left
 all_goals
  intro q t vs ls m w hq hv hvl hr hN hm out hout;subst hout;have HQ:Aside (Cl w q vs.toArray t):=hq
  first
   |have zz:=iT
    have HR:Aside (∀i,i<m->Row ax 2 w vs[i]! ls[i]!):=hr
   |have zz:=fc
    have HR:Aside (∀i,i<m->Row encI 1 w vs[i]! ls[i]!):=hr
   |have HR:Aside (∀i,i<m->Row encS 1 w vs[i]! ls[i]!):=hr
  have HV:Hid (vs.length=m):=hv;have HL:Hid (ls.length=m):=hvl;have Wc:=hq.lt;clear hq hr hv hvl
  first
   |have zz:=iT
    go_enter Tryz.func189,Tryz.ntmps189
   |have zz:=fc
    go_enter Tryz.func217,Tryz.ntmps217
   |go_enter Tryz.func218,Tryz.ntmps218
  go_wp2
  first
   |have zz:=PI
    go_loopg [3,8] m (fun kx s3 s8 wr=>∃(i:Nat) (dG:Option Addr) (n' c':Nat) (out:List ByteArray),s3=.slice dG n' c'∧s8=.int .i64 i∧i<=m∧m-i<=kx∧Hid ((ls.take i).flatten=out)∧Aside (cE w.heap.size wr (.slice dG n' c') out)∧Hid (Below w.heap.size w wr))
    case atStart=>exact⟨0,none,0,0,[],rfl,rfl,Nat.zero_le _,Nat.le_refl _,rfl,cE.empty _ _,Below.refl _ _⟩
   |have zz:=fc
    go_loopg [3,8] m (fun kx s3 s8 wr=>∃(i:Nat) (dG:Option Addr) (n' c':Nat) (out:List Int),s3=.slice dG n' c'∧s8=.int .i64 i∧i<=m∧m-i<=kx∧Hid ((ls.take i).flatten=out)∧Aside (dN w.heap.size wr (.slice dG n' c') out)∧Hid (Below w.heap.size w wr))
    case atStart=>exact⟨0,none,0,0,[],rfl,rfl,Nat.zero_le _,Nat.le_refl _,rfl,dN.empty _ _,Below.refl _ _⟩
   |go_loopg [3,8] m (fun kx s3 s8 wr=>∃(i:Nat) (dG:Option Addr) (n' c':Nat) (out:List En),s3=.slice dG n' c'∧s8=.int .i64 i∧i<=m∧m-i<=kx∧Hid ((ls.take i).flatten=out)∧Aside (aW w.heap.size wr (.slice dG n' c') out)∧Hid (Below w.heap.size w wr))
    case atStart=>exact⟨0,none,0,0,[],rfl,rfl,Nat.zero_le _,Nat.le_refl _,rfl,aW.empty _ _,Below.refl _ _⟩
  case round=>
   obtain⟨i,dG,n',c',out,rfl,rfl,hi,hki,HD,HO,HB⟩:=hrel;by_cases hil:i<m
   ·have fo:(i:Int)< (m:Int):=by omega
    have Dx:i<ls.length:=by rw[HL.out];exact hil
    have T:Hid _:=tV Dx;have hle:=Lf Dx;rw[HD.out]at T hle;have R0:=(HR.out i hil).below HB.out;have c0:wr.cell? ⟨q,i,none⟩=some vs[i]! :=by
     rw[HB.out.cell (p:=⟨q,i,none⟩) Wc,HQ.out.cell i,List.getElem?_toArray,List.getElem?_eq_getElem (by rw[HV.out];exact hil),getElem!_pos vs i (by rw[HV.out];exact hil)]
    generalize vs[i]! =u at*;generalize ls[i]! =x at*
    first
     |have zz:=iT
      have RX:Aside (Row ax 2 wr u x):=R0
     |have zz:=fc
      have RX:Aside (Row encI 1 wr u x):=R0
     |have RX:Aside (Row encS 1 wr u x):=R0
    obtain⟨au,cu,rfl,_⟩:=ar R0;obtain⟨o2,ho2⟩:∃o2,out++x=o2:=⟨_,rfl⟩;have E2:Hid (out++x=o2):=ho2;rw[ho2]at T;have hsz:=HB.out.size;clear ho2 R0
    first
     |have zz:=iT
      go_wp2_with (at_builtin;refine V7 rfl _ _ rfl w.heap.size _ out rfl HO.out _ x rfl RX.out (by omega) hsz o2 E2.out ?_)
     |have zz:=fc
      go_wp2_with (at_builtin;refine Wa rfl _ _ rfl w.heap.size _ out rfl HO.out _ x rfl RX.out (by omega) hsz o2 E2.out ?_)
     |go_wp2_with (at_builtin;refine Wb rfl _ _ rfl w.heap.size _ out rfl HO.out _ x rfl RX.out (by omega) hsz o2 E2.out ?_)
    intro a6 n6 c6 w6 P6 Q6
    first
     |have zz:=iT
      have O7:Aside (aW w.heap.size w6 (.slice a6 n6 c6) o2):=P6
     |have zz:=fc
      have O7:Aside (dN w.heap.size w6 (.slice a6 n6 c6) o2):=P6
     |have O7:Aside (cE w.heap.size w6 (.slice a6 n6 c6) o2):=P6
    have B7:Hid (Below w.heap.size w w6):=Q6 _ HB.out;clear P6 Q6 HO HB RX E2 hsz hle;go_wp2
    go_roundg (m- (i+1))
    case measure=>omega
    case rel=>exact⟨i+1,a6,n6,c6,o2,rfl,by go_num,by omega,Nat.le_refl _,T,O7,B7⟩
   ·have fo:¬(i:Int)< (m:Int):=by omega
    obtain rfl:i=m:=by omega
    have E:(ls.take i).flatten=ls.flatten:=by rw[List.take_of_length_le (by rw[HL.out];exact Nat.le_refl _)]
    have E2:Hid (ls.flatten=out):=E.symm.trans HD.out;clear E;go_wp2;go_ret;exact⟨_,_,_,rfl,by rw[E2.out];exact HO.out,HB.out⟩
theorem ma (q:Nat)(t:TypeId)(v:Value)(l:List En)(w:World)(hq:Cl w q #[v] t)(h:Row ax 2 w v l)(hN:l.length<1000000):
  Calls Tryz.prog 189 #[.slice (some ⟨q,0,none⟩) 1 1] w fun e w'=>∃ao n c,e=.returned (.slice ao n c)∧aW w.heap.size w' (.slice ao n c) l∧Below w.heap.size w w':=
 je.1 q t [v] [l] 1 w hq rfl rfl (fun i hi=>by
  rcases(by omega:i=0)with rfl
  exact h) (by simpa using hN) (by decide) l (by simp)
theorem Gs (q:Nat)(t:TypeId)(v u:Value)(l m:List En)(w:World)(hq:Cl w q #[v,u] t)(h:Row ax 2 w v l)(h2:Row ax 2 w u m)(hN:l.length+m.length<1000000):
  Calls Tryz.prog 189 #[.slice (some ⟨q,0,none⟩) 2 2] w fun e w'=>∃ao n c,e=.returned (.slice ao n c)∧aW w.heap.size w' (.slice ao n c) (l++m)∧Below w.heap.size w w':=
 je.1 q t [v,u] [l,m] 2 w hq rfl rfl (fun i hi=>by
  rcases(by omega:i=0∨i=1)with rfl|rfl
  ·exact h
  ·exact h2) (by simpa using hN) (by decide) (l++m) (by simp)
theorem ru (q:Nat)(t:TypeId)(v:Value)(l:List Int)(w:World)(hq:Cl w q #[v] t)(h:Row encI 1 w v l)(hN:l.length<1000000):
  Calls Tryz.prog 217 #[.slice (some ⟨q,0,none⟩) 1 1] w fun e w'=>∃ao n c,e=.returned (.slice ao n c)∧dN w.heap.size w' (.slice ao n c) l∧Below w.heap.size w w':=
 je.2.1 q t [v] [l] 1 w hq rfl rfl (fun i hi=>by
  rcases(by omega:i=0)with rfl
  exact h) (by simpa using hN) (by decide) l (by simp)
theorem Gu (q:Nat)(t:TypeId)(v u:Value)(l m:List Int)(w:World)(hq:Cl w q #[v,u] t)(h:Row encI 1 w v l)(h2:Row encI 1 w u m)(hN:l.length+m.length<1000000):
  Calls Tryz.prog 217 #[.slice (some ⟨q,0,none⟩) 2 2] w fun e w'=>∃ao n c,e=.returned (.slice ao n c)∧dN w.heap.size w' (.slice ao n c) (l++m)∧Below w.heap.size w w':=
 je.2.1 q t [v,u] [l,m] 2 w hq rfl rfl (fun i hi=>by
  rcases(by omega:i=0∨i=1)with rfl|rfl
  ·exact h
  ·exact h2) (by simpa using hN) (by decide) (l++m) (by simp)
theorem Gx (q:Nat)(t:TypeId)(v u z:Value)(l m n:List Int)(w:World)(hq:Cl w q #[v,u,z] t)(h:Row encI 1 w v l)(h2:Row encI 1 w u m)(h3:Row encI 1 w z n)(hN:l.length+m.length+n.length<1000000):
  Calls Tryz.prog 217 #[.slice (some ⟨q,0,none⟩) 3 3] w fun e w'=>∃ao n' c,e=.returned (.slice ao n' c)∧dN w.heap.size w' (.slice ao n' c) (l++m++n)∧Below w.heap.size w w':=
 je.2.1 q t [v,u,z] [l,m,n] 3 w hq rfl rfl (fun i hi=>by
  rcases(by omega:i=0∨i=1∨i=2)with rfl|rfl|rfl
  ·exact h
  ·exact h2
  ·exact h3) (by simp;omega) (by decide) (l++m++n) (by simp)
theorem rv (q:Nat)(t:TypeId)(v:Value)(l:List ByteArray)(w:World)(hq:Cl w q #[v] t)(h:Row encS 1 w v l)(hN:l.length<1000000):
  Calls Tryz.prog 218 #[.slice (some ⟨q,0,none⟩) 1 1] w fun e w'=>∃ao n c,e=.returned (.slice ao n c)∧cE w.heap.size w' (.slice ao n c) l∧Below w.heap.size w w':=
 je.2.2 q t [v] [l] 1 w hq rfl rfl (fun i hi=>by
  rcases(by omega:i=0)with rfl
  exact h) (by simpa using hN) (by decide) l (by simp)
theorem ry (q:Nat)(t:TypeId)(v u z:Value)(l m n:List ByteArray)(w:World)(hq:Cl w q #[v,u,z] t)(h:Row encS 1 w v l)(h2:Row encS 1 w u m)(h3:Row encS 1 w z n)(hN:l.length+m.length+n.length<1000000):
  Calls Tryz.prog 218 #[.slice (some ⟨q,0,none⟩) 3 3] w fun e w'=>∃ao n' c,e=.returned (.slice ao n' c)∧cE w.heap.size w' (.slice ao n' c) (l++m++n)∧Below w.heap.size w w':=
 je.2.2 q t [v,u,z] [l,m,n] 3 w hq rfl rfl (fun i hi=>by
  rcases(by omega:i=0∨i=1∨i=2)with rfl|rfl|rfl
  ·exact h
  ·exact h2
  ·exact h3) (by simp;omega) (by decide) (l++m++n) (by simp)
end
section
theorem jf {W X Y:World}(h2:Below X.heap.size X Y)(h1:Below W.heap.size W X):Below W.heap.size W Y:=h1.trans (h2.mono h1.size)
theorem ai {W X:World}(o:Obj)(h1:Below W.heap.size W X):Below W.heap.size W (X.alloc o):=h1.alloc h1.size _
theorem Cl.kV (w:World)(cs:Array Value)(t:TypeId):Cl (w.alloc (.cells cs t)) w.heap.size cs t:=Cl.new w cs t
theorem Cl.oG (w:World)(cs:Array Value)(t:TypeId)(o:Obj):Cl ((w.alloc o).alloc (.cells cs t)) (w.heap.size+1) cs t:=by
 have:=Cl.new (w.alloc o) cs t
 rwa [show(w.alloc o).heap.size=w.heap.size+1 by simp]at this
theorem Cl.zO (w:World)(cs:Array Value)(t:TypeId)(o o':Obj):Cl (((w.alloc o).alloc o').alloc (.cells cs t)) (w.heap.size+2) cs t:=by
 have:=Cl.new ((w.alloc o).alloc o') cs t
 rwa [show((w.alloc o).alloc o').heap.size=w.heap.size+2 by simp]at this
theorem Cl.dr {w:World}{q:Nat}{cs:Array Value}{t:TypeId}(h:Cl w q cs t):Cl w.drew q cs t:=h
theorem Cl.set {w:World}{q:Nat}{cs:Array Value}{t:TypeId}(h:Cl w q cs t)(i:Nat)(v:Value):Cl (w.setCell ⟨q,i,none⟩ v) q (cs.setIfInBounds i v) t:=by
 unfold Cl at h⊢;simp[World.setCell,Array.getElem?_modify,h]
theorem Cl.four {w:World}{q:Nat}{t:TypeId}{a b c d:Value}(h:Cl w q #[a,b,c,d] t):w.cell? ⟨q,0,none⟩=some a∧w.cell? ⟨q,1,none⟩=some b∧w.cell? ⟨q,2,none⟩=some c∧w.cell? ⟨q,3,none⟩=some d:=⟨h.cell 0,h.cell 1,h.cell 2,h.cell 3⟩
theorem Cl.thaw {w:World}{q:Nat}{t:TypeId}{cs:Array Value}(h:Cl w q cs t):w.frozen? ⟨q,0,none⟩=false∧w.frozen? ⟨q,1,none⟩=false∧w.frozen? ⟨q,2,none⟩=false∧w.frozen? ⟨q,3,none⟩=false:=by
 unfold Cl at h;simp[World.frozen?,h]
def RB (W:World)(r:Nat)(t:TypeId)(X:World):Prop:=Below r W X∧∃a b c d,Cl X r #[a,b,c,d] t
theorem RB.lt {W X:World}{r:Nat}{t:TypeId}(h:RB W r t X):r+1<=X.heap.size:=by
 obtain⟨_,a,b,c,d,k⟩:=h;exact k.lt
theorem RB.alloc {W X:World}{r:Nat}{t:TypeId}(h:RB W r t X)(o:Obj):RB W r t (X.alloc o):=by
 have:=h.lt;obtain⟨h1,a,b,c,d,k⟩:=h;exact⟨h1.alloc (by omega) _,a,b,c,d,k.alloc _⟩
theorem RB.call {W X Y:World}{r:Nat}{t:TypeId}(h:RB W r t X)(hb:Below X.heap.size X Y):RB W r t Y:=by
 have:=h.lt;obtain⟨h1,a,b,c,d,k⟩:=h;exact⟨h1.trans (hb.mono (by omega)),a,b,c,d,k.on hb⟩
theorem RB.four {W X:World}{r:Nat}{t:TypeId}(h:RB W r t X):(∃a,X.cell? ⟨r,0,none⟩=some a)∧(∃a,X.cell? ⟨r,1,none⟩=some a)∧(∃a,X.cell? ⟨r,2,none⟩=some a)∧(∃a,X.cell? ⟨r,3,none⟩=some a)∧X.frozen? ⟨r,0,none⟩=false∧X.frozen? ⟨r,1,none⟩=false∧X.frozen? ⟨r,2,none⟩=false∧X.frozen? ⟨r,3,none⟩=false:=by
 obtain⟨_,a,b,c,d,k⟩:=h;refine⟨⟨a,k.cell 0⟩,⟨b,k.cell 1⟩,⟨c,k.cell 2⟩,⟨d,k.cell 3⟩,?_⟩;unfold Cl at k;simp[World.frozen?,k]
def eW (w:World)(q:Nat)(a b c d:Value):World:=(((w.setCell ⟨q,0,none⟩ a).setCell ⟨q,1,none⟩ b).setCell ⟨q,2,none⟩ c).setCell ⟨q,3,none⟩ d
theorem Cl.eW {w:World}{q:Nat}{t:TypeId}{a b c d:Value}(h:Cl w q #[a,b,c,d] t)(a' b' c' d':Value):Cl (eW w q a' b' c' d') q #[a',b',c',d'] t:=(((h.set 0 a').set 1 b').set 2 c').set 3 d'
theorem bC {fn:Func}{p:Tmp}{ty:TypeId}(h:fn.results=#[.cell p ty])(tmps:Array Value)(P:Program)(w:World):
  (results fn tmps).run P w=((asAddr (tmps.getD p undef)).run P w).andThen fun a w₁=>(loadVar ty a).run P w₁:=by
 simp only[results,h];simp[Sem.run_bind,Result.andThen]
theorem bu {base q:Nat}{w:World}{e:TypeId}{k:Nat}{v a b c d:Value}{n:Nat}{xs:List Value}(h:w.ownsRow base e k v n xs)(hq:q<base):(eW w q a b c d).ownsRow base e k v n xs:=
 ownsRow_setCell_below (ownsRow_setCell_below (ownsRow_setCell_below (ownsRow_setCell_below h (a:=⟨q,0,none⟩) hq a) (a:=⟨q,1,none⟩) hq b) (a:=⟨q,2,none⟩) hq c) (a:=⟨q,3,none⟩) hq d
theorem cR {B q:Nat}{w0 w:World}{a b c d:Value}(h:Below B w0 w)(hq:B<=q):Below B w0 (eW w q a b c d):=
 (((h.setCell (p:=⟨q,0,none⟩) hq a).setCell (p:=⟨q,1,none⟩) hq b).setCell (p:=⟨q,2,none⟩) hq c).setCell (p:=⟨q,3,none⟩) hq d
end
section
attribute [local go_sem ↓] Go.wp_at_zero Go.wp_at_succ
def PJ (W:World)(p:Nat)(lf:Bool)(ae ak az:Option Addr)(ce ck cz:Nat)(es:List En)(ks:List Int)(ss:List ByteArray)(C:List Bool->Act->Prop)(w:World):Prop:=∀{f0 f1 f2 f3 f4 f5 f6 f7 f8 f9 f10 f11 f12 f13 f14 f15:Bool}{x3 x4 x5 x6 x7 x8 x9 sD xC uV xD sP EC Bu sQ:Value},f15=false->RB W (p+1) 74 w->Hid (f0=true->x3=.pointer (some ⟨p,0,none⟩))->Hid (f1=true->x4=.bool lf)->Hid (f2=true->x5=.pointer (some ⟨p,1,none⟩))->Hid (f3=true->x6=.slice ae es.length ce)->Hid (f4=true->∃qq,x7=.slice (some ⟨qq,0,none⟩) 1 1∧Cl w qq #[.slice ae es.length ce] 27)->Hid (f5=true->∃ao n c,x8=.slice ao n c∧aW (p+2) w x8 (es))->Hid (f6=true->x9=.pointer (some ⟨p,2,none⟩))->Hid (f7=true->sD=.slice ak ks.length ck)->Hid (f8=true->∃qq,xC=.slice (some ⟨qq,0,none⟩) 1 1∧Cl w qq #[.slice ak ks.length ck] 56)->Hid (f9=true->∃ao n c,uV=.slice ao n c∧dN (p+2) w uV (ks))->Hid (f10=true->xD=.pointer (some ⟨p,3,none⟩))->Hid (f11=true->sP=.slice az ss.length cz)->Hid (f12=true->∃qq,EC=.slice (some ⟨qq,0,none⟩) 1 1∧Cl w qq #[.slice az ss.length cz] 66)->Hid (f13=true->∃ao n c,Bu=.slice ao n c∧cE (p+2) w Bu (ss))->Hid (f14=true->f5=true∧f9=true∧f13=true∧sQ=.agg #[.bool lf,x8,uV,Bu])->C [f0,f1,f2,f3,f4,f5,f6,f7,f8,f9,f10,f11,f12,f13,f14,f15] {tmps:=#[.agg #[.bool lf,.slice ae es.length ce,.slice ak ks.length ck,.slice az ss.length cz],.pointer (some ⟨p,0,none⟩),.pointer (some ⟨p+1,0,none⟩),x3,x4,x5,x6,x7,x8,x9,sD,xC,uV,xD,sP,EC,Bu,sQ],defers:=[]}
theorem iB (n:Nd)(ve vk vs:Value)(w:World)(h:gh w ve vk vs n)(hs:tU n):
  Calls Tryz.prog 188 #[.agg #[.bool n.leaf,ve,vk,vs]] w fun e w'=>∃yN yO vs',e=.returned (.agg #[.bool n.leaf,yN,yO,vs'])∧kf w.heap.size w' yN yO vs' n∧Below w.heap.size w w':=by
 obtain⟨lf,es,ks,ss⟩:=n;obtain⟨he,hk,hss⟩:=h;obtain⟨s1,s2,s3⟩:=hs;simp only at he hk hss s1 s2 s3;obtain⟨ae,ce,rfl,_⟩:=ar he;obtain⟨ak,ck,rfl,_⟩:=ar hk;obtain⟨az,cz,rfl,_⟩:=ar hss;have K1:Cl ((w.alloc (.cells #[.bool lf,.slice ae es.length ce,.slice ak ks.length ck,.slice az ss.length cz] 74)).alloc (.cells #[.bool false,.slice none 0 0,.slice none 0 0,.slice none 0 0] 74)) w.heap.size #[.bool lf,.slice ae es.length ce,.slice ak ks.length ck,.slice az ss.length cz] 74:=(Cl.kV _ _ _).alloc _;have K2:Cl ((w.alloc (.cells #[.bool lf,.slice ae es.length ce,.slice ak ks.length ck,.slice az ss.length cz] 74)).alloc (.cells #[.bool false,.slice none 0 0,.slice none 0 0,.slice none 0 0] 74)) (w.heap.size+1) #[.bool false,.slice none 0 0,.slice none 0 0,.slice none 0 0] 74:=Cl.oG _ _ _ _;have BW:Hid (Below w.heap.size w ((w.alloc (.cells #[.bool lf,.slice ae es.length ce,.slice ak ks.length ck,.slice az ss.length cz] 74)).alloc (.cells #[.bool false,.slice none 0 0,.slice none 0 0,.slice none 0 0] 74))):=ai _ (ai _ (Below.refl _ _));go_enter Tryz.func188,Tryz.ntmps188
 go_wp2_with fail
 generalize World.alloc _ _=W at*;obtain⟨p,hp⟩:∃p,w.heap.size=p:=⟨_,rfl⟩;rw[hp]at K1 K2 BW⊢;have R0:Hid (RB W (p+1) 74 W.drew):=⟨(Below.refl _ W).drew,_,_,_,_,K2⟩;have BX:∀X,RB W (p+1) 74 X->Below p w X:=fun X hX=>BW.out.trans (hX.1.mono (Nat.le_succ p));have RE:Hid (∀X,RB W (p+1) 74 X->Row ax 2 X (.slice ae es.length ce) es):=fun X hX=>he.below (by rw[hp];exact BX X hX);have RK:Hid (∀X,RB W (p+1) 74 X->Row encI 1 X (.slice ak ks.length ck) ks):=fun X hX=>hk.below (by rw[hp];exact BX X hX);have RS:Hid (∀X,RB W (p+1) 74 X->Row encS 1 X (.slice az ss.length cz) ss):=fun X hX=>hss.below (by rw[hp];exact BX X hX);have MK:Hid (∀X,RB W (p+1) 74 X->X.cell? ⟨p,0,none⟩=some (.bool lf)∧X.cell? ⟨p,1,none⟩=some (.slice ae es.length ce)∧X.cell? ⟨p,2,none⟩=some (.slice ak ks.length ck)∧X.cell? ⟨p,3,none⟩=some (.slice az ss.length cz)):=fun X hX=>(K1.below hX.1 (Nat.lt_succ_self p)).four;have R7:Hid (∀X,RB W (p+1) 74 X->Below p w X):=BX;clear he hk hss K1 K2 BW BX;refine bc 15 (PJ W p lf ae ak az ce ck cz es ks ss) (by kernel_rfl) (by kernel_rfl) (by kernel_rfl) (fun _ k=>k rfl R0.out aq aq aq aq aq aq aq aq aq aq aq aq aq aq aq) ?_ ?_ ?_
 ·intro i w' hne f0 f1 f2 f3 f4 f5 f6 f7 f8 f9 f10 f11 f12 f13 f14 f15 x3 x4 x5 x6 x7 x8 x9 sD xC uV xD sP EC Bu sQ e15 hB h0 h1 h2 h3 h4 h5 h6 h7 h8 h9 h10 h11 h12 dF fu hi;obtain⟨hlt,hun,_⟩:=aQ hi;have hlt':i<16:=hlt;clear hlt;rcases(by omega:i=0∨i=1∨i=2∨i=3∨i=4∨i=5∨i=6∨i=7∨i=8∨i=9∨i=10∨i=11∨i=12∨i=13∨i=14)with rfl|rfl|rfl|rfl|rfl|rfl|rfl|rfl|rfl|rfl|rfl|rfl|rfl|rfl|rfl
  ·refine aj rfl fun K HK=>?_;go_simp;exact HK.out _ _ fun _ k=>by apply k<;>first|assumption|exact hidR|(repeat' first|apply Exists.intro|assumption|rfl|apply And.intro|exact fun _=>rfl)
  ·cases h0 (ah 0 hi (by kernel_rfl));have cell:=(MK.out _ hB).1;refine aj rfl fun K HK=>?_;go_simp;exact HK.out _ _ fun _ k=>by apply k<;>first|assumption|exact hidR|(repeat' first|apply Exists.intro|assumption|rfl|apply And.intro|exact fun _=>rfl)
  ·refine aj rfl fun K HK=>?_;go_simp;exact HK.out _ _ fun _ k=>by apply k<;>first|assumption|exact hidR|(repeat' first|apply Exists.intro|assumption|rfl|apply And.intro|exact fun _=>rfl)
  ·cases h2 (ah 2 hi (by kernel_rfl));have cell:=(MK.out _ hB).2.1;refine aj rfl fun K HK=>?_;go_simp;exact HK.out _ _ fun _ k=>by apply k<;>first|assumption|exact hidR|(repeat' first|apply Exists.intro|assumption|rfl|apply And.intro|exact fun _=>rfl)
  ·cases h3 (ah 3 hi (by kernel_rfl));refine aj rfl fun K HK=>?_;go_simp;exact HK.out _ _ fun _ k=>k e15 (RB.alloc hB _) h0 h1 h2 h3 (fun _=>⟨_,rfl,Cl.new _ _ _⟩) (fun d=>let⟨ao,n,c,e,o⟩:=h5.out d;⟨ao,n,c,e,ownsRow_below o (ai _ (Below.refl _ _))⟩) h6 h7 (fun d=>let⟨q,e,c⟩:=h8.out d;⟨q,e,Cl.on c (ai _ (Below.refl _ _))⟩) (fun d=>let⟨ao,n,c,e,o⟩:=h9.out d;⟨ao,n,c,e,ownsRow_below o (ai _ (Below.refl _ _))⟩) h10 h11 (fun d=>let⟨q,e,c⟩:=h12.out d;⟨q,e,Cl.on c (ai _ (Below.refl _ _))⟩) (fun d=>let⟨ao,n,c,e,o⟩:=dF.out d;⟨ao,n,c,e,ownsRow_below o (ai _ (Below.refl _ _))⟩) fu
  ·have un:f5=false:=hun;obtain⟨q4,rfl,c4⟩:=h4.out (ah 4 hi (by kernel_rfl));refine aj rfl fun K HK=>?_;go_simp;refine Calls.mono (ma q4 27 (.slice ae es.length ce) es w' c4 (RE.out _ hB) (by omega)) ?_;rintro e w1 ⟨ao,nn,cc,rfl,ow,b1⟩;exact HK.out _ _ fun _ k=>k e15 (RB.call hB b1) h0 h1 h2 h3 (fun d=>let⟨q,e,c⟩:=h4.out d;⟨q,e,Cl.on c (b1)⟩) (fun _=>⟨ao,nn,cc,rfl,aG ow (RB.lt hB)⟩) h6 h7 (fun d=>let⟨q,e,c⟩:=h8.out d;⟨q,e,Cl.on c (b1)⟩) (fun d=>let⟨ao,n,c,e,o⟩:=h9.out d;⟨ao,n,c,e,ownsRow_below o (b1)⟩) h10 h11 (fun d=>let⟨q,e,c⟩:=h12.out d;⟨q,e,Cl.on c (b1)⟩) (fun d=>let⟨ao,n,c,e,o⟩:=dF.out d;⟨ao,n,c,e,ownsRow_below o (b1)⟩) (fun d=>by have e:=(fu.out d).1;rw[un]at e;cases e)
  ·refine aj rfl fun K HK=>?_;go_simp;exact HK.out _ _ fun _ k=>by apply k<;>first|assumption|exact hidR|(repeat' first|apply Exists.intro|assumption|rfl|apply And.intro|exact fun _=>rfl)
  ·cases h6 (ah 6 hi (by kernel_rfl));have cell:=(MK.out _ hB).2.2.1;refine aj rfl fun K HK=>?_;go_simp;exact HK.out _ _ fun _ k=>by apply k<;>first|assumption|exact hidR|(repeat' first|apply Exists.intro|assumption|rfl|apply And.intro|exact fun _=>rfl)
  ·cases h7 (ah 7 hi (by kernel_rfl));refine aj rfl fun K HK=>?_;go_simp;exact HK.out _ _ fun _ k=>k e15 (RB.alloc hB _) h0 h1 h2 h3 (fun d=>let⟨q,e,c⟩:=h4.out d;⟨q,e,Cl.on c (ai _ (Below.refl _ _))⟩) (fun d=>let⟨ao,n,c,e,o⟩:=h5.out d;⟨ao,n,c,e,ownsRow_below o (ai _ (Below.refl _ _))⟩) h6 h7 (fun _=>⟨_,rfl,Cl.new _ _ _⟩) (fun d=>let⟨ao,n,c,e,o⟩:=h9.out d;⟨ao,n,c,e,ownsRow_below o (ai _ (Below.refl _ _))⟩) h10 h11 (fun d=>let⟨q,e,c⟩:=h12.out d;⟨q,e,Cl.on c (ai _ (Below.refl _ _))⟩) (fun d=>let⟨ao,n,c,e,o⟩:=dF.out d;⟨ao,n,c,e,ownsRow_below o (ai _ (Below.refl _ _))⟩) fu
  ·have un:f9=false:=hun;obtain⟨q8,rfl,c8⟩:=h8.out (ah 8 hi (by kernel_rfl));refine aj rfl fun K HK=>?_;go_simp;refine Calls.mono (ru q8 56 (.slice ak ks.length ck) ks w' c8 (RK.out _ hB) (by omega)) ?_;rintro e w1 ⟨ao,nn,cc,rfl,ow,b1⟩;exact HK.out _ _ fun _ k=>k e15 (RB.call hB b1) h0 h1 h2 h3 (fun d=>let⟨q,e,c⟩:=h4.out d;⟨q,e,Cl.on c (b1)⟩) (fun d=>let⟨ao,n,c,e,o⟩:=h5.out d;⟨ao,n,c,e,ownsRow_below o (b1)⟩) h6 h7 (fun d=>let⟨q,e,c⟩:=h8.out d;⟨q,e,Cl.on c (b1)⟩) (fun _=>⟨ao,nn,cc,rfl,aG ow (RB.lt hB)⟩) h10 h11 (fun d=>let⟨q,e,c⟩:=h12.out d;⟨q,e,Cl.on c (b1)⟩) (fun d=>let⟨ao,n,c,e,o⟩:=dF.out d;⟨ao,n,c,e,ownsRow_below o (b1)⟩) (fun d=>by have e:=(fu.out d).2.1;rw[un]at e;cases e)
  ·refine aj rfl fun K HK=>?_;go_simp;exact HK.out _ _ fun _ k=>by apply k<;>first|assumption|exact hidR|(repeat' first|apply Exists.intro|assumption|rfl|apply And.intro|exact fun _=>rfl)
  ·cases h10 (ah 10 hi (by kernel_rfl));have cell:=(MK.out _ hB).2.2.2;refine aj rfl fun K HK=>?_;go_simp;exact HK.out _ _ fun _ k=>by apply k<;>first|assumption|exact hidR|(repeat' first|apply Exists.intro|assumption|rfl|apply And.intro|exact fun _=>rfl)
  ·cases h11 (ah 11 hi (by kernel_rfl));refine aj rfl fun K HK=>?_;go_simp;exact HK.out _ _ fun _ k=>k e15 (RB.alloc hB _) h0 h1 h2 h3 (fun d=>let⟨q,e,c⟩:=h4.out d;⟨q,e,Cl.on c (ai _ (Below.refl _ _))⟩) (fun d=>let⟨ao,n,c,e,o⟩:=h5.out d;⟨ao,n,c,e,ownsRow_below o (ai _ (Below.refl _ _))⟩) h6 h7 (fun d=>let⟨q,e,c⟩:=h8.out d;⟨q,e,Cl.on c (ai _ (Below.refl _ _))⟩) (fun d=>let⟨ao,n,c,e,o⟩:=h9.out d;⟨ao,n,c,e,ownsRow_below o (ai _ (Below.refl _ _))⟩) h10 h11 (fun _=>⟨_,rfl,Cl.new _ _ _⟩) (fun d=>let⟨ao,n,c,e,o⟩:=dF.out d;⟨ao,n,c,e,ownsRow_below o (ai _ (Below.refl _ _))⟩) fu
  ·have un:f13=false:=hun;obtain⟨Bv,rfl,c12⟩:=h12.out (ah 12 hi (by kernel_rfl));refine aj rfl fun K HK=>?_;go_simp;refine Calls.mono (rv Bv 66 (.slice az ss.length cz) ss w' c12 (RS.out _ hB) (by omega)) ?_;rintro e w1 ⟨ao,nn,cc,rfl,ow,b1⟩;exact HK.out _ _ fun _ k=>k e15 (RB.call hB b1) h0 h1 h2 h3 (fun d=>let⟨q,e,c⟩:=h4.out d;⟨q,e,Cl.on c (b1)⟩) (fun d=>let⟨ao,n,c,e,o⟩:=h5.out d;⟨ao,n,c,e,ownsRow_below o (b1)⟩) h6 h7 (fun d=>let⟨q,e,c⟩:=h8.out d;⟨q,e,Cl.on c (b1)⟩) (fun d=>let⟨ao,n,c,e,o⟩:=h9.out d;⟨ao,n,c,e,ownsRow_below o (b1)⟩) h10 h11 (fun d=>let⟨q,e,c⟩:=h12.out d;⟨q,e,Cl.on c (b1)⟩) (fun _=>⟨ao,nn,cc,rfl,aG ow (RB.lt hB)⟩) (fun d=>by have e:=(fu.out d).2.2.1;rw[un]at e;cases e)
  ·cases h1 (ah 1 hi (by kernel_rfl));have d5:f5=true:=ah 5 hi (by kernel_rfl);obtain⟨a5,n5,m5,rfl,o5⟩:=h5.out d5;have d9:f9=true:=ah 9 hi (by kernel_rfl);obtain⟨a9,n9,m9,rfl,o9⟩:=h9.out d9;have d13:f13=true:=ah 13 hi (by kernel_rfl);obtain⟨iC,n13,m13,rfl,R8⟩:=dF.out d13;refine aj rfl fun K HK=>?_;go_simp;exact HK.out _ _ fun _ k=>k e15 hB h0 h1 h2 h3 h4 h5 h6 h7 h8 h9 h10 h11 h12 dF (fun _=>⟨d5,d9,d13,rfl⟩)
 ·intro w' f0 f1 f2 f3 f4 f5 f6 f7 f8 f9 f10 f11 f12 f13 f14 f15 x3 x4 x5 x6 x7 x8 x9 sD xC uV xD sP EC Bu sQ e15 hB h0 h1 h2 h3 h4 h5 h6 h7 h8 h9 h10 h11 h12 dF fu hi;have d14:f14=true:=ah 14 hi (by kernel_rfl);obtain⟨_,_,_,rfl⟩:=fu.out d14;have d5:f5=true:=ah 5 hi (by kernel_rfl);obtain⟨a5,n5,m5,rfl,o5⟩:=h5.out d5;have d9:f9=true:=ah 9 hi (by kernel_rfl);obtain⟨a9,n9,m9,rfl,o9⟩:=h9.out d9;have d13:f13=true:=ah 13 hi (by kernel_rfl);obtain⟨iC,n13,m13,rfl,R8⟩:=dF.out d13;clear hi;obtain⟨⟨z0,y0⟩,⟨z1,y1⟩,⟨z2,y2⟩,⟨z3,y3⟩,g0,g1,g2,g3⟩:=hB.four;refine aj rfl fun K HK=>?_;go_simp;refine HK.out _ _ ?_;have KF:Cl ((((w'.setCell ⟨p+1,0,none⟩ (.bool lf)).setCell ⟨p+1,1,none⟩ (.slice a5 n5 m5)).setCell ⟨p+1,2,none⟩ (.slice a9 n9 m9)).setCell ⟨p+1,3,none⟩ (.slice iC n13 m13)) (p+1) #[.bool lf,.slice a5 n5 m5,.slice a9 n9 m9,.slice iC n13 m13] 74:=by
   obtain⟨_,u0,u1,u2,u3,kc⟩:=hB;exact kc.eW _ _ _ _
  have BF:Hid (Below p w ((((w'.setCell ⟨p+1,0,none⟩ (.bool lf)).setCell ⟨p+1,1,none⟩ (.slice a5 n5 m5)).setCell ⟨p+1,2,none⟩ (.slice a9 n9 m9)).setCell ⟨p+1,3,none⟩ (.slice iC n13 m13))):=cR (R7.out _ hB) (Nat.le_succ p);have OF:Hid (kf p ((((w'.setCell ⟨p+1,0,none⟩ (.bool lf)).setCell ⟨p+1,1,none⟩ (.slice a5 n5 m5)).setCell ⟨p+1,2,none⟩ (.slice a9 n9 m9)).setCell ⟨p+1,3,none⟩ (.slice iC n13 m13)) (.slice a5 n5 m5) (.slice a9 n9 m9) (.slice iC n13 m13) ⟨lf,es,ks,ss⟩):=⟨aG (bu o5 (Nat.lt_succ_self _)) (by omega),aG (bu o9 (Nat.lt_succ_self _)) (by omega),aG (bu R8 (Nat.lt_succ_self _)) (by omega)⟩;generalize World.setCell _ _ _=X at*;obtain⟨k0,k1,k2,k3⟩:=KF.four;clear y0 y1 y2 y3 g0 g1 g2 g3 hB h0 h1 h2 h3 h4 h5 h6 h7 h8 h9 h10 h11 h12 dF fu;go_wp2;refine bodyPost_ret (v:=.agg #[.bool lf,.slice a5 n5 m5,.slice a9 n9 m9,.slice iC n13 m13]) ?_ rfl ⟨_,_,_,rfl,by rw[hp];exact OF.out,by rw[hp];exact BF.out⟩;rw[bC rfl];go_simp
 ·intro _ _;intros;assumption
end
end N
namespace N
section
attribute [local go_sem ↓] Go.wp_at_zero Go.wp_at_succ
theorem PK (s:ByteArray):#[Value.string s]=flatK encS 1 [s].toArray:=by
 apply Array.ext';have:=bH encS 1 eV [] s;rw[List.nil_append]at this;rw[this];simp[flatK,encS]
theorem Cl.Gy {w:World}{q:Nat}{s:ByteArray}{t:TypeId}(h:Cl w q #[.string s] t):Row encS 1 w (.slice (some ⟨q,0,none⟩) 1 1) [s]:=iy h (PK s) rfl
theorem PL (s:Int):#[Value.int .i64 s]=flatK encI 1 [s].toArray:=by
 apply Array.ext';have:=bH encI 1 iA [] s;rw[List.nil_append]at this;rw[this];simp[flatK,encI]
theorem Cl.Lg {w:World}{q:Nat}{s:Int}{t:TypeId}(h:Cl w q #[.int .i64 s] t):Row encI 1 w (.slice (some ⟨q,0,none⟩) 1 1) [s]:=iy h (PL s) rfl
theorem Cl.Wd (w:World)(cs:Array Value)(t:TypeId)(o o' o'':Obj):Cl ((((w.alloc o).alloc o').alloc o'').alloc (.cells cs t)) (w.heap.size+3) cs t:=by
 have:=Cl.new (((w.alloc o).alloc o').alloc o'') cs t
 rwa [show(((w.alloc o).alloc o').alloc o'').heap.size=w.heap.size+3 by simp]at this
def NR (W:World)(p:Nat)(lf:Bool)(key:ByteArray)(vb:Value)(bt:List ByteArray)(o8 oH mK:Option Addr)(po ck1 mL:Nat)(es1:List En)(iq:List Int)(fw:List ByteArray)(pq px oI:Option Addr)(py ck2 oJ:Nat)(es2:List En)(iD:List Int)(ir:List ByteArray){y4 y8 y9 uW rz rA y13 sR oK oL rB uX uY:Value}(C:List Bool->Act->Prop)(w:World):Prop:=∀{f0 f1 f2 f3 f4 f5 f6 f7 f8 f9 f10 f11 f12 f13 f14 f15 f16 f17 f18 f19 f20 f21 f22:Bool}{x20 jP kW kB x24 x25 rC x27 x28 x29 x30 x31 x32 Gz x34 U4 U5 Lh x38 x39 x40 x41:Value},f22=false->(RB W (p+2) 74 w∧Row encS 1 w vb bt)->Hid (f0=true->x20=.pointer (some ⟨p,0,none⟩))->Hid (f1=true->jP=.bool lf)->Hid (f2=true->kW=.pointer (some ⟨p,1,none⟩))->Hid (f3=true->kB=.slice o8 es1.length po)->Hid (f4=true->x24=.pointer (some ⟨p+1,1,none⟩))->Hid (f5=true->x25=.slice pq es2.length py)->Hid (f6=true->∃qq,rC=.slice (some ⟨qq,0,none⟩) 2 2∧Cl w qq #[.slice o8 es1.length po,.slice pq es2.length py] 27)->Hid (f7=true->∃ao n c,x27=.slice ao n c∧aW (p+3) w x27 (es1++es2))->Hid (f8=true->x28=.pointer (some ⟨p,2,none⟩))->Hid (f9=true->x29=.slice oH iq.length ck1)->Hid (f10=true->x30=.pointer (some ⟨p+1,2,none⟩))->Hid (f11=true->x31=.slice px iD.length ck2)->Hid (f12=true->∃qq,x32=.slice (some ⟨qq,0,none⟩) 2 2∧Cl w qq #[.slice oH iq.length ck1,.slice px iD.length ck2] 56)->Hid (f13=true->∃ao n c,Gz=.slice ao n c∧dN (p+3) w Gz (iq++iD))->Hid (f14=true->x34=.pointer (some ⟨p,3,none⟩))->Hid (f15=true->U4=.slice mK fw.length mL)->Hid (f16=true->U5=vb)->Hid (f17=true->Lh=.pointer (some ⟨p+1,3,none⟩))->Hid (f18=true->x38=.slice oI ir.length oJ)->Hid (f19=true->∃qq,x39=.slice (some ⟨qq,0,none⟩) 3 3∧Cl w qq #[.slice mK fw.length mL,vb,.slice oI ir.length oJ] 66)->Hid (f20=true->∃ao n c,x40=.slice ao n c∧cE (p+3) w x40 (fw++bt++ir))->Hid (f21=true->f7=true∧f13=true∧f20=true∧x41=.agg #[.bool lf,x27,Gz,x40])->C [f0,f1,f2,f3,f4,f5,f6,f7,f8,f9,f10,f11,f12,f13,f14,f15,f16,f17,f18,f19,f20,f21,f22] {tmps:=#[.agg #[.bool lf,.slice o8 es1.length po,.slice oH iq.length ck1,.slice mK fw.length mL],.string key,.agg #[.bool lf,.slice pq es2.length py,.slice px iD.length ck2,.slice oI ir.length oJ],.pointer (some ⟨p,0,none⟩),y4,.pointer (some ⟨p+1,0,none⟩),.pointer (some ⟨p+2,0,none⟩),vb,y8,y9,uW,rz,rA,y13,sR,oK,oL,rB,uX,uY,x20,jP,kW,kB,x24,x25,rC,x27,x28,x29,x30,x31,x32,Gz,x34,U4,U5,Lh,x38,x39,x40,x41],defers:=[]}
theorem tW:(∀(key:ByteArray) (es1 es2:List En) (iq iD:List Int) (fw ir:List ByteArray) (kC kD vs1 mf mg vs2:Value) (w:World) (h1:gh w kC kD vs1 ⟨true,es1,iq,fw⟩) (h2:gh w mf mg vs2 ⟨true,es2,iD,ir⟩) (hm1:tU ⟨true,es1,iq,fw⟩) (hm2:tU ⟨true,es2,iD,ir⟩),Calls Tryz.prog 229 #[.agg #[.bool true,kC,kD,vs1],.string key,.agg #[.bool true,mf,mg,vs2]] w fun e w'=>∃yN yO vs',e=.returned (.agg #[.bool true,yN,yO,vs'])∧kf w.heap.size w' yN yO vs' ⟨true,es1++es2,iq++iD,fw++[]++ir⟩∧Below w.heap.size w w')∧
  (∀(key:ByteArray) (es1 es2:List En) (iq iD:List Int) (fw ir:List ByteArray) (kC kD vs1 mf mg vs2:Value) (w:World) (h1:gh w kC kD vs1 ⟨false,es1,iq,fw⟩) (h2:gh w mf mg vs2 ⟨false,es2,iD,ir⟩) (hm1:tU ⟨false,es1,iq,fw⟩) (hm2:tU ⟨false,es2,iD,ir⟩),Calls Tryz.prog 229 #[.agg #[.bool false,kC,kD,vs1],.string key,.agg #[.bool false,mf,mg,vs2]] w fun e w'=>∃yN yO vs',e=.returned (.agg #[.bool false,yN,yO,vs'])∧kf w.heap.size w' yN yO vs' ⟨false,es1++es2,iq++iD,fw++[key]++ir⟩∧Below w.heap.size w w'):=by
 and_intros
 have iT:=trivial
 rotate_left
 have fc:=trivial
 rotate_left
 all_goals
  intro key es1 es2 iq iD fw ir kC kD vs1 mf mg vs2 w h1 h2 hm1 hm2;obtain⟨he1,hk1,hs1⟩:=h1;obtain⟨he2,hk2,hs2⟩:=h2;obtain⟨s1,s2,s3⟩:=hm1;obtain⟨r1,r2,r3⟩:=hm2;simp only at he1 hk1 hs1 he2 hk2 hs2 s1 s2 s3 r1 r2 r3;obtain⟨o8,po,rfl,_⟩:=ar he1;obtain⟨oH,ck1,rfl,_⟩:=ar hk1;obtain⟨mK,mL,rfl,_⟩:=ar hs1;obtain⟨pq,py,rfl,_⟩:=ar he2;obtain⟨px,ck2,rfl,_⟩:=ar hk2;obtain⟨oI,oJ,rfl,_⟩:=ar hs2
  first
   |have zz:=fc
    have K1:Cl ((((w.alloc (.cells #[.bool false,.slice o8 es1.length po,.slice oH iq.length ck1,.slice mK fw.length mL] 74)).alloc (.cells #[.bool false,.slice pq es2.length py,.slice px iD.length ck2,.slice oI ir.length oJ] 74)).alloc (.cells #[.bool false,.slice none 0 0,.slice none 0 0,.slice none 0 0] 74)).alloc (.cells #[.string key] 9)) w.heap.size #[.bool false,.slice o8 es1.length po,.slice oH iq.length ck1,.slice mK fw.length mL] 74:=(((Cl.kV _ _ _).alloc _).alloc _).alloc _;have K2:Cl ((((w.alloc (.cells #[.bool false,.slice o8 es1.length po,.slice oH iq.length ck1,.slice mK fw.length mL] 74)).alloc (.cells #[.bool false,.slice pq es2.length py,.slice px iD.length ck2,.slice oI ir.length oJ] 74)).alloc (.cells #[.bool false,.slice none 0 0,.slice none 0 0,.slice none 0 0] 74)).alloc (.cells #[.string key] 9)) (w.heap.size+1) #[.bool false,.slice pq es2.length py,.slice px iD.length ck2,.slice oI ir.length oJ] 74:=((Cl.oG _ _ _ _).alloc _).alloc _;have K3:Cl ((((w.alloc (.cells #[.bool false,.slice o8 es1.length po,.slice oH iq.length ck1,.slice mK fw.length mL] 74)).alloc (.cells #[.bool false,.slice pq es2.length py,.slice px iD.length ck2,.slice oI ir.length oJ] 74)).alloc (.cells #[.bool false,.slice none 0 0,.slice none 0 0,.slice none 0 0] 74)).alloc (.cells #[.string key] 9)) (w.heap.size+2) #[.bool false,.slice none 0 0,.slice none 0 0,.slice none 0 0] 74:=(Cl.zO _ _ _ _ _).alloc _;have BW:Hid (Below w.heap.size w ((((w.alloc (.cells #[.bool false,.slice o8 es1.length po,.slice oH iq.length ck1,.slice mK fw.length mL] 74)).alloc (.cells #[.bool false,.slice pq es2.length py,.slice px iD.length ck2,.slice oI ir.length oJ] 74)).alloc (.cells #[.bool false,.slice none 0 0,.slice none 0 0,.slice none 0 0] 74)).alloc (.cells #[.string key] 9))):=ai _ (ai _ (ai _ (ai _ (Below.refl _ _))));have Td:Row encS 1 ((((w.alloc (.cells #[.bool false,.slice o8 es1.length po,.slice oH iq.length ck1,.slice mK fw.length mL] 74)).alloc (.cells #[.bool false,.slice pq es2.length py,.slice px iD.length ck2,.slice oI ir.length oJ] 74)).alloc (.cells #[.bool false,.slice none 0 0,.slice none 0 0,.slice none 0 0] 74)).alloc (.cells #[.string key] 9)) (.slice (some ⟨w.heap.size+3,0,none⟩) 1 1) [key]:=(Cl.Wd _ _ _ _ _ _).Gy
   |have K1:Cl (((w.alloc (.cells #[.bool true,.slice o8 es1.length po,.slice oH iq.length ck1,.slice mK fw.length mL] 74)).alloc (.cells #[.bool true,.slice pq es2.length py,.slice px iD.length ck2,.slice oI ir.length oJ] 74)).alloc (.cells #[.bool false,.slice none 0 0,.slice none 0 0,.slice none 0 0] 74)) w.heap.size #[.bool true,.slice o8 es1.length po,.slice oH iq.length ck1,.slice mK fw.length mL] 74:=((Cl.kV _ _ _).alloc _).alloc _
    have K2:Cl (((w.alloc (.cells #[.bool true,.slice o8 es1.length po,.slice oH iq.length ck1,.slice mK fw.length mL] 74)).alloc (.cells #[.bool true,.slice pq es2.length py,.slice px iD.length ck2,.slice oI ir.length oJ] 74)).alloc (.cells #[.bool false,.slice none 0 0,.slice none 0 0,.slice none 0 0] 74)) (w.heap.size+1) #[.bool true,.slice pq es2.length py,.slice px iD.length ck2,.slice oI ir.length oJ] 74:=(Cl.oG _ _ _ _).alloc _;have K3:Cl (((w.alloc (.cells #[.bool true,.slice o8 es1.length po,.slice oH iq.length ck1,.slice mK fw.length mL] 74)).alloc (.cells #[.bool true,.slice pq es2.length py,.slice px iD.length ck2,.slice oI ir.length oJ] 74)).alloc (.cells #[.bool false,.slice none 0 0,.slice none 0 0,.slice none 0 0] 74)) (w.heap.size+2) #[.bool false,.slice none 0 0,.slice none 0 0,.slice none 0 0] 74:=Cl.zO _ _ _ _ _;have BW:Hid (Below w.heap.size w (((w.alloc (.cells #[.bool true,.slice o8 es1.length po,.slice oH iq.length ck1,.slice mK fw.length mL] 74)).alloc (.cells #[.bool true,.slice pq es2.length py,.slice px iD.length ck2,.slice oI ir.length oJ] 74)).alloc (.cells #[.bool false,.slice none 0 0,.slice none 0 0,.slice none 0 0] 74))):=(ai _ (ai _ (ai _ (Below.refl _ _))));have Td:Row encS 1 (((w.alloc (.cells #[.bool true,.slice o8 es1.length po,.slice oH iq.length ck1,.slice mK fw.length mL] 74)).alloc (.cells #[.bool true,.slice pq es2.length py,.slice px iD.length ck2,.slice oI ir.length oJ] 74)).alloc (.cells #[.bool false,.slice none 0 0,.slice none 0 0,.slice none 0 0] 74)) (.slice none 0 0) []:=nw
  go_enter Tryz.func229,Tryz.ntmps229
  go_wp2_with fail
  first
   |have zz:=fc
    generalize((((w.alloc (.cells #[.bool false,.slice o8 es1.length po,.slice oH iq.length ck1,.slice mK fw.length mL] 74)).alloc (.cells #[.bool false,.slice pq es2.length py,.slice px iD.length ck2,.slice oI ir.length oJ] 74)).alloc (.cells #[.bool false,.slice none 0 0,.slice none 0 0,.slice none 0 0] 74)).alloc (.cells #[.string key] 9))=W at*
   |generalize(((w.alloc (.cells #[.bool true,.slice o8 es1.length po,.slice oH iq.length ck1,.slice mK fw.length mL] 74)).alloc (.cells #[.bool true,.slice pq es2.length py,.slice px iD.length ck2,.slice oI ir.length oJ] 74)).alloc (.cells #[.bool false,.slice none 0 0,.slice none 0 0,.slice none 0 0] 74))=W at*
  obtain⟨p,hp⟩:∃p,w.heap.size=p:=⟨_,rfl⟩;rw[hp]at K1 K2 K3 BW⊢
  (try rw[hp]at Td)
  first
   |have zz:=fc
    have RT:Hid (Row encS 1 W.drew (.slice (some ⟨p+3,0,none⟩) 1 1) [key]):=Td.below (Below.refl _ W).drew
   |have RT:Hid (Row encS 1 W.drew (.slice none 0 0) []):=Td.below (Below.refl _ W).drew
  have R0:Hid (RB W (p+2) 74 W.drew):=⟨(Below.refl _ W).drew,_,_,_,_,K3⟩;have BX:∀X,RB W (p+2) 74 X->Below p w X:=fun X hX=>BW.out.trans (hX.1.mono (by omega));have ZV:Hid (∀X,RB W (p+2) 74 X->Row ax 2 X (.slice o8 es1.length po) es1):=fun X hX=>he1.below (by rw[hp];exact BX X hX);have U6:Hid (∀X,RB W (p+2) 74 X->Row encI 1 X (.slice oH iq.length ck1) iq):=fun X hX=>hk1.below (by rw[hp];exact BX X hX);have Te:Hid (∀X,RB W (p+2) 74 X->Row encS 1 X (.slice mK fw.length mL) fw):=fun X hX=>hs1.below (by rw[hp];exact BX X hX);have ZW:Hid (∀X,RB W (p+2) 74 X->Row ax 2 X (.slice pq es2.length py) es2):=fun X hX=>he2.below (by rw[hp];exact BX X hX);have ZX:Hid (∀X,RB W (p+2) 74 X->Row encI 1 X (.slice px iD.length ck2) iD):=fun X hX=>hk2.below (by rw[hp];exact BX X hX);have Yg:Hid (∀X,RB W (p+2) 74 X->Row encS 1 X (.slice oI ir.length oJ) ir):=fun X hX=>hs2.below (by rw[hp];exact BX X hX)
  first
   |have zz:=fc
    have MA:Hid (∀X,RB W (p+2) 74 X->X.cell? ⟨p,0,none⟩=some (.bool false)∧X.cell? ⟨p,1,none⟩=some (.slice o8 es1.length po)∧X.cell? ⟨p,2,none⟩=some (.slice oH iq.length ck1)∧X.cell? ⟨p,3,none⟩=some (.slice mK fw.length mL)):=fun X hX=>(K1.below hX.1 (by omega)).four;have MB:Hid (∀X,RB W (p+2) 74 X->X.cell? ⟨p+1,0,none⟩=some (.bool false)∧X.cell? ⟨p+1,1,none⟩=some (.slice pq es2.length py)∧X.cell? ⟨p+1,2,none⟩=some (.slice px iD.length ck2)∧X.cell? ⟨p+1,3,none⟩=some (.slice oI ir.length oJ)):=fun X hX=>(K2.below hX.1 (by omega)).four
   |have MA:Hid (∀X,RB W (p+2) 74 X->X.cell? ⟨p,0,none⟩=some (.bool true)∧X.cell? ⟨p,1,none⟩=some (.slice o8 es1.length po)∧X.cell? ⟨p,2,none⟩=some (.slice oH iq.length ck1)∧X.cell? ⟨p,3,none⟩=some (.slice mK fw.length mL)):=fun X hX=>(K1.below hX.1 (by omega)).four
    have MB:Hid (∀X,RB W (p+2) 74 X->X.cell? ⟨p+1,0,none⟩=some (.bool true)∧X.cell? ⟨p+1,1,none⟩=some (.slice pq es2.length py)∧X.cell? ⟨p+1,2,none⟩=some (.slice px iD.length ck2)∧X.cell? ⟨p+1,3,none⟩=some (.slice oI ir.length oJ)):=fun X hX=>(K2.below hX.1 (by omega)).four
  have R7:Hid (∀X,RB W (p+2) 74 X->Below p w X):=BX;clear he1 hk1 hs1 he2 hk2 hs2 K1 K2 K3 BW BX Td
  first
   |have zz:=fc
    refine bc 22 (NR W p false key (.slice (some ⟨p+3,0,none⟩) 1 1) [key] o8 oH mK po ck1 mL es1 iq fw pq px oI py ck2 oJ es2 iD ir) (by kernel_rfl) (by kernel_rfl) (by kernel_rfl) (fun _ k=>k rfl ⟨R0.out,RT.out⟩ aq aq aq aq aq aq aq aq aq aq aq aq aq aq aq aq aq aq aq aq aq aq) ?_ ?_ ?_
   |refine bc 22 (NR W p true key (.slice none 0 0) [] o8 oH mK po ck1 mL es1 iq fw pq px oI py ck2 oJ es2 iD ir) (by kernel_rfl) (by kernel_rfl) (by kernel_rfl) (fun _ k=>k rfl ⟨R0.out,RT.out⟩ aq aq aq aq aq aq aq aq aq aq aq aq aq aq aq aq aq aq aq aq aq aq) ?_ ?_ ?_
  ·intro i w' hne f0 f1 f2 f3 f4 f5 f6 f7 f8 f9 f10 f11 f12 f13 f14 f15 f16 f17 f18 f19 f20 f21 f22 x20 jP kW kB x24 x25 rC x27 x28 x29 x30 x31 x32 Gz x34 U4 U5 Lh x38 x39 x40 x41 e22 hB h0 h1 h2 h3 h4 h5 h6 h7 h8 h9 h10 h11 h12 dF fu pA h16 zP h18 h19 h20 h21 hi;obtain⟨hlt,hun,_⟩:=aQ hi;have hlt':i<23:=hlt;clear hlt;rcases(by omega:i=0∨i=1∨i=2∨i=3∨i=4∨i=5∨i=6∨i=7∨i=8∨i=9∨i=10∨i=11∨i=12∨i=13∨i=14∨i=15∨i=16∨i=17∨i=18∨i=19∨i=20∨i=21)with rfl|rfl|rfl|rfl|rfl|rfl|rfl|rfl|rfl|rfl|rfl|rfl|rfl|rfl|rfl|rfl|rfl|rfl|rfl|rfl|rfl|rfl
   ·refine aj rfl fun K HK=>?_;go_simp;exact HK.out _ _ fun _ k=>by apply k<;>first|assumption|exact hidR|(repeat' first|apply Exists.intro|assumption|rfl|apply And.intro|exact fun _=>rfl)
   ·cases h0 (ah 0 hi (by kernel_rfl));have cell:=(MA.out _ hB.1).1;refine aj rfl fun K HK=>?_;go_simp;exact HK.out _ _ fun _ k=>by apply k<;>first|assumption|exact hidR|(repeat' first|apply Exists.intro|assumption|rfl|apply And.intro|exact fun _=>rfl)
   ·refine aj rfl fun K HK=>?_;go_simp;exact HK.out _ _ fun _ k=>by apply k<;>first|assumption|exact hidR|(repeat' first|apply Exists.intro|assumption|rfl|apply And.intro|exact fun _=>rfl)
   ·cases h2 (ah 2 hi (by kernel_rfl));have cell:=(MA.out _ hB.1).2.1;refine aj rfl fun K HK=>?_;go_simp;exact HK.out _ _ fun _ k=>by apply k<;>first|assumption|exact hidR|(repeat' first|apply Exists.intro|assumption|rfl|apply And.intro|exact fun _=>rfl)
   ·refine aj rfl fun K HK=>?_;go_simp;exact HK.out _ _ fun _ k=>by apply k<;>first|assumption|exact hidR|(repeat' first|apply Exists.intro|assumption|rfl|apply And.intro|exact fun _=>rfl)
   ·cases h4 (ah 4 hi (by kernel_rfl));have cell:=(MB.out _ hB.1).2.1;refine aj rfl fun K HK=>?_;go_simp;exact HK.out _ _ fun _ k=>by apply k<;>first|assumption|exact hidR|(repeat' first|apply Exists.intro|assumption|rfl|apply And.intro|exact fun _=>rfl)
   ·cases h3 (ah 3 hi (by kernel_rfl));cases h5 (ah 5 hi (by kernel_rfl));refine aj rfl fun K HK=>?_;go_simp;exact HK.out _ _ fun _ k=>k e22 ⟨RB.alloc hB.1 _,hB.2.below (ai _ (Below.refl _ _))⟩ h0 h1 h2 h3 h4 h5 (fun _=>⟨_,rfl,Cl.new _ _ _⟩) (fun d=>let⟨ao,n,c,e,o⟩:=h7.out d;⟨ao,n,c,e,ownsRow_below o (ai _ (Below.refl _ _))⟩) h8 h9 h10 h11 (fun d=>let⟨q,e,c⟩:=h12.out d;⟨q,e,Cl.on c (ai _ (Below.refl _ _))⟩) (fun d=>let⟨ao,n,c,e,o⟩:=dF.out d;⟨ao,n,c,e,ownsRow_below o (ai _ (Below.refl _ _))⟩) fu pA h16 zP h18 (fun d=>let⟨q,e,c⟩:=h19.out d;⟨q,e,Cl.on c (ai _ (Below.refl _ _))⟩) (fun d=>let⟨ao,n,c,e,o⟩:=h20.out d;⟨ao,n,c,e,ownsRow_below o (ai _ (Below.refl _ _))⟩) h21
   ·have un:f7=false:=hun;obtain⟨q6,rfl,c6⟩:=h6.out (ah 6 hi (by kernel_rfl));refine aj rfl fun K HK=>?_;go_simp;refine Calls.mono (Gs q6 27 (.slice o8 es1.length po) (.slice pq es2.length py) es1 es2 w' c6 (ZV.out _ hB.1) (ZW.out _ hB.1) (by omega)) ?_;rintro e w1 ⟨ao,nn,cc,rfl,ow,b1⟩;exact HK.out _ _ fun _ k=>k e22 ⟨RB.call hB.1 b1,hB.2.below b1⟩ h0 h1 h2 h3 h4 h5 (fun d=>let⟨q,e,c⟩:=h6.out d;⟨q,e,Cl.on c (b1)⟩) (fun _=>⟨ao,nn,cc,rfl,aG ow (RB.lt hB.1)⟩) h8 h9 h10 h11 (fun d=>let⟨q,e,c⟩:=h12.out d;⟨q,e,Cl.on c (b1)⟩) (fun d=>let⟨ao,n,c,e,o⟩:=dF.out d;⟨ao,n,c,e,ownsRow_below o (b1)⟩) fu pA h16 zP h18 (fun d=>let⟨q,e,c⟩:=h19.out d;⟨q,e,Cl.on c (b1)⟩) (fun d=>let⟨ao,n,c,e,o⟩:=h20.out d;⟨ao,n,c,e,ownsRow_below o (b1)⟩) (fun d=>by have e:=(h21.out d).1;rw[un]at e;cases e)
   ·refine aj rfl fun K HK=>?_;go_simp;exact HK.out _ _ fun _ k=>by apply k<;>first|assumption|exact hidR|(repeat' first|apply Exists.intro|assumption|rfl|apply And.intro|exact fun _=>rfl)
   ·cases h8 (ah 8 hi (by kernel_rfl));have cell:=(MA.out _ hB.1).2.2.1;refine aj rfl fun K HK=>?_;go_simp;exact HK.out _ _ fun _ k=>by apply k<;>first|assumption|exact hidR|(repeat' first|apply Exists.intro|assumption|rfl|apply And.intro|exact fun _=>rfl)
   ·refine aj rfl fun K HK=>?_;go_simp;exact HK.out _ _ fun _ k=>by apply k<;>first|assumption|exact hidR|(repeat' first|apply Exists.intro|assumption|rfl|apply And.intro|exact fun _=>rfl)
   ·cases h10 (ah 10 hi (by kernel_rfl));have cell:=(MB.out _ hB.1).2.2.1;refine aj rfl fun K HK=>?_;go_simp;exact HK.out _ _ fun _ k=>by apply k<;>first|assumption|exact hidR|(repeat' first|apply Exists.intro|assumption|rfl|apply And.intro|exact fun _=>rfl)
   ·cases h9 (ah 9 hi (by kernel_rfl));cases h11 (ah 11 hi (by kernel_rfl));refine aj rfl fun K HK=>?_;go_simp;exact HK.out _ _ fun _ k=>k e22 ⟨RB.alloc hB.1 _,hB.2.below (ai _ (Below.refl _ _))⟩ h0 h1 h2 h3 h4 h5 (fun d=>let⟨q,e,c⟩:=h6.out d;⟨q,e,Cl.on c (ai _ (Below.refl _ _))⟩) (fun d=>let⟨ao,n,c,e,o⟩:=h7.out d;⟨ao,n,c,e,ownsRow_below o (ai _ (Below.refl _ _))⟩) h8 h9 h10 h11 (fun _=>⟨_,rfl,Cl.new _ _ _⟩) (fun d=>let⟨ao,n,c,e,o⟩:=dF.out d;⟨ao,n,c,e,ownsRow_below o (ai _ (Below.refl _ _))⟩) fu pA h16 zP h18 (fun d=>let⟨q,e,c⟩:=h19.out d;⟨q,e,Cl.on c (ai _ (Below.refl _ _))⟩) (fun d=>let⟨ao,n,c,e,o⟩:=h20.out d;⟨ao,n,c,e,ownsRow_below o (ai _ (Below.refl _ _))⟩) h21
   ·have un:f13=false:=hun;obtain⟨Bv,rfl,c12⟩:=h12.out (ah 12 hi (by kernel_rfl));refine aj rfl fun K HK=>?_;go_simp;refine Calls.mono (Gu Bv 56 (.slice oH iq.length ck1) (.slice px iD.length ck2) iq iD w' c12 (U6.out _ hB.1) (ZX.out _ hB.1) (by omega)) ?_;rintro e w1 ⟨ao,nn,cc,rfl,ow,b1⟩;exact HK.out _ _ fun _ k=>k e22 ⟨RB.call hB.1 b1,hB.2.below b1⟩ h0 h1 h2 h3 h4 h5 (fun d=>let⟨q,e,c⟩:=h6.out d;⟨q,e,Cl.on c (b1)⟩) (fun d=>let⟨ao,n,c,e,o⟩:=h7.out d;⟨ao,n,c,e,ownsRow_below o (b1)⟩) h8 h9 h10 h11 (fun d=>let⟨q,e,c⟩:=h12.out d;⟨q,e,Cl.on c (b1)⟩) (fun _=>⟨ao,nn,cc,rfl,aG ow (RB.lt hB.1)⟩) fu pA h16 zP h18 (fun d=>let⟨q,e,c⟩:=h19.out d;⟨q,e,Cl.on c (b1)⟩) (fun d=>let⟨ao,n,c,e,o⟩:=h20.out d;⟨ao,n,c,e,ownsRow_below o (b1)⟩) (fun d=>by have e:=(h21.out d).2.1;rw[un]at e;cases e)
   ·refine aj rfl fun K HK=>?_;go_simp;exact HK.out _ _ fun _ k=>by apply k<;>first|assumption|exact hidR|(repeat' first|apply Exists.intro|assumption|rfl|apply And.intro|exact fun _=>rfl)
   ·cases fu (ah 14 hi (by kernel_rfl));have cell:=(MA.out _ hB.1).2.2.2;refine aj rfl fun K HK=>?_;go_simp;exact HK.out _ _ fun _ k=>by apply k<;>first|assumption|exact hidR|(repeat' first|apply Exists.intro|assumption|rfl|apply And.intro|exact fun _=>rfl)
   ·refine aj rfl fun K HK=>?_;go_simp;exact HK.out _ _ fun _ k=>by apply k<;>first|assumption|exact hidR|(repeat' first|apply Exists.intro|assumption|rfl|apply And.intro|exact fun _=>rfl)
   ·refine aj rfl fun K HK=>?_;go_simp;exact HK.out _ _ fun _ k=>by apply k<;>first|assumption|exact hidR|(repeat' first|apply Exists.intro|assumption|rfl|apply And.intro|exact fun _=>rfl)
   ·cases zP (ah 17 hi (by kernel_rfl));have cell:=(MB.out _ hB.1).2.2.2;refine aj rfl fun K HK=>?_;go_simp;exact HK.out _ _ fun _ k=>by apply k<;>first|assumption|exact hidR|(repeat' first|apply Exists.intro|assumption|rfl|apply And.intro|exact fun _=>rfl)
   ·cases pA (ah 15 hi (by kernel_rfl));cases h16 (ah 16 hi (by kernel_rfl));cases h18 (ah 18 hi (by kernel_rfl));refine aj rfl fun K HK=>?_;go_simp;exact HK.out _ _ fun _ k=>k e22 ⟨RB.alloc hB.1 _,hB.2.below (ai _ (Below.refl _ _))⟩ h0 h1 h2 h3 h4 h5 (fun d=>let⟨q,e,c⟩:=h6.out d;⟨q,e,Cl.on c (ai _ (Below.refl _ _))⟩) (fun d=>let⟨ao,n,c,e,o⟩:=h7.out d;⟨ao,n,c,e,ownsRow_below o (ai _ (Below.refl _ _))⟩) h8 h9 h10 h11 (fun d=>let⟨q,e,c⟩:=h12.out d;⟨q,e,Cl.on c (ai _ (Below.refl _ _))⟩) (fun d=>let⟨ao,n,c,e,o⟩:=dF.out d;⟨ao,n,c,e,ownsRow_below o (ai _ (Below.refl _ _))⟩) fu pA h16 zP h18 (fun _=>⟨_,rfl,Cl.new _ _ _⟩) (fun d=>let⟨ao,n,c,e,o⟩:=h20.out d;⟨ao,n,c,e,ownsRow_below o (ai _ (Below.refl _ _))⟩) h21
   ·have un:f20=false:=hun;obtain⟨Li,rfl,c19⟩:=h19.out (ah 19 hi (by kernel_rfl));refine aj rfl fun K HK=>?_;go_simp
    first
     |have zz:=fc
      refine Calls.mono (ry Li 66 (.slice mK fw.length mL) (.slice (some ⟨p+3,0,none⟩) 1 1) (.slice oI ir.length oJ) fw [key] ir w' c19 (Te.out _ hB.1) hB.2 (Yg.out _ hB.1) (by simp only[List.length_singleton];omega)) ?_
     |refine Calls.mono (ry Li 66 (.slice mK fw.length mL) (.slice none 0 0) (.slice oI ir.length oJ) fw [] ir w' c19 (Te.out _ hB.1) hB.2 (Yg.out _ hB.1) (by simp only[List.length_nil];omega)) ?_
    rintro e w1 ⟨ao,nn,cc,rfl,ow,b1⟩;exact HK.out _ _ fun _ k=>k e22 ⟨RB.call hB.1 b1,hB.2.below b1⟩ h0 h1 h2 h3 h4 h5 (fun d=>let⟨q,e,c⟩:=h6.out d;⟨q,e,Cl.on c (b1)⟩) (fun d=>let⟨ao,n,c,e,o⟩:=h7.out d;⟨ao,n,c,e,ownsRow_below o (b1)⟩) h8 h9 h10 h11 (fun d=>let⟨q,e,c⟩:=h12.out d;⟨q,e,Cl.on c (b1)⟩) (fun d=>let⟨ao,n,c,e,o⟩:=dF.out d;⟨ao,n,c,e,ownsRow_below o (b1)⟩) fu pA h16 zP h18 (fun d=>let⟨q,e,c⟩:=h19.out d;⟨q,e,Cl.on c (b1)⟩) (fun _=>⟨ao,nn,cc,rfl,aG ow (RB.lt hB.1)⟩) (fun d=>by have e:=(h21.out d).2.2.1;rw[un]at e;cases e)
   ·cases h1 (ah 1 hi (by kernel_rfl));have d7:f7=true:=ah 7 hi (by kernel_rfl);obtain⟨a7,n7,m7,rfl,o7⟩:=h7.out d7;have d13:f13=true:=ah 13 hi (by kernel_rfl);obtain⟨iC,n13,m13,rfl,R8⟩:=dF.out d13;have d20:f20=true:=ah 20 hi (by kernel_rfl);obtain⟨a20,n20,m20,rfl,We⟩:=h20.out d20;refine aj rfl fun K HK=>?_;go_simp;exact HK.out _ _ fun _ k=>k e22 hB h0 h1 h2 h3 h4 h5 h6 h7 h8 h9 h10 h11 h12 dF fu pA h16 zP h18 h19 h20 (fun _=>⟨d7,d13,d20,rfl⟩)
  ·intro w' f0 f1 f2 f3 f4 f5 f6 f7 f8 f9 f10 f11 f12 f13 f14 f15 f16 f17 f18 f19 f20 f21 f22 x20 jP kW kB x24 x25 rC x27 x28 x29 x30 x31 x32 Gz x34 U4 U5 Lh x38 x39 x40 x41 e22 hB h0 h1 h2 h3 h4 h5 h6 h7 h8 h9 h10 h11 h12 dF fu pA h16 zP h18 h19 h20 h21 hi;have d21:f21=true:=ah 21 hi (by kernel_rfl);obtain⟨_,_,_,rfl⟩:=h21.out d21;have d7:f7=true:=ah 7 hi (by kernel_rfl);obtain⟨a7,n7,m7,rfl,o7⟩:=h7.out d7;have d13:f13=true:=ah 13 hi (by kernel_rfl);obtain⟨iC,n13,m13,rfl,R8⟩:=dF.out d13;have d20:f20=true:=ah 20 hi (by kernel_rfl);obtain⟨a20,n20,m20,rfl,We⟩:=h20.out d20;clear hi;obtain⟨⟨z0,y0⟩,⟨z1,y1⟩,⟨z2,y2⟩,⟨z3,y3⟩,g0,g1,g2,g3⟩:=hB.1.four;refine aj rfl fun K HK=>?_;go_simp;refine HK.out _ _ ?_
   first
    |have zz:=fc
     have KF:Cl ((((w'.setCell ⟨p+2,0,none⟩ (.bool false)).setCell ⟨p+2,1,none⟩ (.slice a7 n7 m7)).setCell ⟨p+2,2,none⟩ (.slice iC n13 m13)).setCell ⟨p+2,3,none⟩ (.slice a20 n20 m20)) (p+2) #[.bool false,.slice a7 n7 m7,.slice iC n13 m13,.slice a20 n20 m20] 74:=by
      obtain⟨⟨_,u0,u1,u2,u3,kc⟩,_⟩:=hB;exact kc.eW _ _ _ _
     have BF:Hid (Below p w ((((w'.setCell ⟨p+2,0,none⟩ (.bool false)).setCell ⟨p+2,1,none⟩ (.slice a7 n7 m7)).setCell ⟨p+2,2,none⟩ (.slice iC n13 m13)).setCell ⟨p+2,3,none⟩ (.slice a20 n20 m20))):=cR (R7.out _ hB.1) (by omega);have OF:Hid (kf p ((((w'.setCell ⟨p+2,0,none⟩ (.bool false)).setCell ⟨p+2,1,none⟩ (.slice a7 n7 m7)).setCell ⟨p+2,2,none⟩ (.slice iC n13 m13)).setCell ⟨p+2,3,none⟩ (.slice a20 n20 m20)) (.slice a7 n7 m7) (.slice iC n13 m13) (.slice a20 n20 m20) ⟨false,es1++es2,iq++iD,fw++[key]++ir⟩):=⟨aG (bu o7 (Nat.lt_succ_self _)) (by omega),aG (bu R8 (Nat.lt_succ_self _)) (by omega),aG (bu We (Nat.lt_succ_self _)) (by omega)⟩;generalize World.setCell _ _ _=X at*
    |have KF:Cl ((((w'.setCell ⟨p+2,0,none⟩ (.bool true)).setCell ⟨p+2,1,none⟩ (.slice a7 n7 m7)).setCell ⟨p+2,2,none⟩ (.slice iC n13 m13)).setCell ⟨p+2,3,none⟩ (.slice a20 n20 m20)) (p+2) #[.bool true,.slice a7 n7 m7,.slice iC n13 m13,.slice a20 n20 m20] 74:=by
      obtain⟨⟨_,u0,u1,u2,u3,kc⟩,_⟩:=hB;exact kc.eW _ _ _ _
     have BF:Hid (Below p w ((((w'.setCell ⟨p+2,0,none⟩ (.bool true)).setCell ⟨p+2,1,none⟩ (.slice a7 n7 m7)).setCell ⟨p+2,2,none⟩ (.slice iC n13 m13)).setCell ⟨p+2,3,none⟩ (.slice a20 n20 m20))):=cR (R7.out _ hB.1) (by omega);have OF:Hid (kf p ((((w'.setCell ⟨p+2,0,none⟩ (.bool true)).setCell ⟨p+2,1,none⟩ (.slice a7 n7 m7)).setCell ⟨p+2,2,none⟩ (.slice iC n13 m13)).setCell ⟨p+2,3,none⟩ (.slice a20 n20 m20)) (.slice a7 n7 m7) (.slice iC n13 m13) (.slice a20 n20 m20) ⟨true,es1++es2,iq++iD,fw++[]++ir⟩):=⟨aG (bu o7 (Nat.lt_succ_self _)) (by omega),aG (bu R8 (Nat.lt_succ_self _)) (by omega),aG (bu We (Nat.lt_succ_self _)) (by omega)⟩;generalize World.setCell _ _ _=X at*
   obtain⟨k0,k1,k2,k3⟩:=KF.four;clear y0 y1 y2 y3 g0 g1 g2 g3 hB h0 h1 h2 h3 h4 h5 h6 h7 h8 h9 h10 h11 h12 dF fu pA h16 zP h18 h19 h20 h21;go_wp2
   first
    |have zz:=fc
     refine bodyPost_ret (v:=.agg #[.bool false,.slice a7 n7 m7,.slice iC n13 m13,.slice a20 n20 m20]) ?_ rfl ⟨_,_,_,rfl,by rw[hp];exact OF.out,by rw[hp];exact BF.out⟩
    |refine bodyPost_ret (v:=.agg #[.bool true,.slice a7 n7 m7,.slice iC n13 m13,.slice a20 n20 m20]) ?_ rfl ⟨_,_,_,rfl,by rw[hp];exact OF.out,by rw[hp];exact BF.out⟩
   rw[bC rfl];go_simp
  ·intro _ _;intros;assumption
end
section
attribute [local go_sem ↓] Go.wp_at_zero Go.wp_at_succ
theorem mh {base q:Nat}{w:World}{e t:TypeId}{k:Nat}{v a b c d:Value}{n:Nat}{xs:List Value}{cs:Array Value}(h:w.ownsRow base e k v n xs)(hc:Cl w q cs t)(hne:t≠e):(eW w q a b c d).ownsRow base e k v n xs:=by
 refine⟨h.1,?_⟩;rcases h.2 with h2| ⟨g,cap,cur,hv,hg,hh,r⟩
 ·exact Or.inl h2
 ·refine Or.inr ⟨g,cap,cur,hv,hg,?_,r⟩;have Sg:g≠q:=by
   intro e1;subst e1;unfold Cl at hc;rw[hc]at hh;injection hh with hh;injection hh with h1 h2;exact hne h2
  unfold eW;rw[Below.heap_setCell _ _ _ _ Sg,Below.heap_setCell _ _ _ _ Sg,Below.heap_setCell _ _ _ _ Sg,Below.heap_setCell _ _ _ _ Sg];exact hh
def Dz (w:World)(n:Nd)(e:Ending)(w':World):Prop:=∃ve vk vs,e=.returned (.agg #[.bool n.leaf,ve,vk,vs])∧kf w.heap.size w' ve vk vs n∧Below w.heap.size w w'
theorem xE (key:ByteArray)(a b:Nd)(kC kD vs1 mf mg vs2:Value)(w:World)(h1:gh w kC kD vs1 a)(hm1:tU a)(hlf:a.leaf=true)(Tf:b.leaf=false):
  Calls Tryz.prog 229 #[.agg #[.bool a.leaf,kC,kD,vs1],.string key,.agg #[.bool b.leaf,mf,mg,vs2]] w (Dz w a):=by
 have BW:Hid (Below w.heap.size w (((w.alloc (.cells #[.bool true,kC,kD,vs1] 74)).alloc (.cells #[.bool false,mf,mg,vs2] 74)).alloc (.cells #[.bool false,.slice none 0 0,.slice none 0 0,.slice none 0 0] 74))):=ai _ (ai _ (ai _ (Below.refl _ _)));have K1:Cl (((w.alloc (.cells #[.bool true,kC,kD,vs1] 74)).alloc (.cells #[.bool false,mf,mg,vs2] 74)).alloc (.cells #[.bool false,.slice none 0 0,.slice none 0 0,.slice none 0 0] 74)) w.heap.size #[.bool true,kC,kD,vs1] 74:=((Cl.kV _ _ _).alloc _).alloc _;have K2:Cl (((w.alloc (.cells #[.bool true,kC,kD,vs1] 74)).alloc (.cells #[.bool false,mf,mg,vs2] 74)).alloc (.cells #[.bool false,.slice none 0 0,.slice none 0 0,.slice none 0 0] 74)) (w.heap.size+1) #[.bool false,mf,mg,vs2] 74:=(Cl.oG _ _ _ _).alloc _;have K3:Cl (((w.alloc (.cells #[.bool true,kC,kD,vs1] 74)).alloc (.cells #[.bool false,mf,mg,vs2] 74)).alloc (.cells #[.bool false,.slice none 0 0,.slice none 0 0,.slice none 0 0] 74)) (w.heap.size+1+1) #[.bool false,.slice none 0 0,.slice none 0 0,.slice none 0 0] 74:=Cl.zO _ _ _ _ _;have C:Hid _:=iB a kC kD vs1 (((w.alloc (.cells #[.bool true,kC,kD,vs1] 74)).alloc (.cells #[.bool false,mf,mg,vs2] 74)).alloc (.cells #[.bool false,.slice none 0 0,.slice none 0 0,.slice none 0 0] 74)) (h1.below BW.out) hm1;rw[hlf]at C;rw[hlf,Tf];obtain⟨ae,ce,rfl,_⟩:=ar h1.e;obtain⟨ak,ck,rfl,_⟩:=ar h1.k;obtain⟨az,cz,rfl,_⟩:=ar h1.s;have HL:Hid (a.leaf=true):=hlf;clear h1 hlf Tf;go_enter Tryz.func229,Tryz.ntmps229
 go_upto_region 1 with fail
 generalize World.alloc _ _=W at*;obtain⟨p,hp⟩:∃p,w.heap.size=p:=⟨_,rfl⟩;rw[hp]at K1 K2 K3 BW⊢;obtain⟨c0,c1,c2,c3⟩:=K1.four;obtain⟨d0,_,_,_⟩:=K2.four;have l1:=K3.lt;clear K1 K2
 go_wp2_with fail
 refine Calls.mono C.out ?_;rintro e w1 ⟨yN,yO,vs',rfl,O1,B1⟩;obtain⟨av,cv,rfl⟩:=bJ O1.e;obtain⟨bv,dv,rfl⟩:=bJ O1.k;obtain⟨gv,hv,rfl⟩:=bJ O1.s;have K4:Cl w1 (p+1+1) #[.bool false,.slice none 0 0,.slice none 0 0,.slice none 0 0] 74:=K3.on B1;obtain⟨f0,f1,f2,f3⟩:=K4.four;obtain⟨g0,g1,g2,g3⟩:=K4.thaw;have KF:Cl ((((w1.setCell ⟨p+1+1,0,none⟩ (.bool true)).setCell ⟨p+1+1,1,none⟩ (.slice av a.es.length cv)).setCell ⟨p+1+1,2,none⟩ (.slice bv a.ks.length dv)).setCell ⟨p+1+1,3,none⟩ (.slice gv a.ss.length hv)) (p+1+1) #[.bool true,.slice av a.es.length cv,.slice bv a.ks.length dv,.slice gv a.ss.length hv] 74:=K4.eW _ _ _ _;have BF:Hid (Below p w ((((w1.setCell ⟨p+1+1,0,none⟩ (.bool true)).setCell ⟨p+1+1,1,none⟩ (.slice av a.es.length cv)).setCell ⟨p+1+1,2,none⟩ (.slice bv a.ks.length dv)).setCell ⟨p+1+1,3,none⟩ (.slice gv a.ss.length hv))):=cR (BW.out.trans (B1.mono (by omega))) (by omega);have OF:Hid (kf p ((((w1.setCell ⟨p+1+1,0,none⟩ (.bool true)).setCell ⟨p+1+1,1,none⟩ (.slice av a.es.length cv)).setCell ⟨p+1+1,2,none⟩ (.slice bv a.ks.length dv)).setCell ⟨p+1+1,3,none⟩ (.slice gv a.ss.length hv)) (.slice av a.es.length cv) (.slice bv a.ks.length dv) (.slice gv a.ss.length hv) a):=⟨aG (bu O1.e l1) (by omega),aG (bu O1.k l1) (by omega),aG (bu O1.s l1) (by omega)⟩;clear C B1 O1 K3 K4 c0 c1 c2 c3 d0;go_wp2
 (try simp only[Exit.inBlock,Exit.then])
 generalize World.setCell _ _ _=X at*;obtain⟨k0,k1,k2,k3⟩:=KF.four;refine bodyPost_ret (v:=.agg #[.bool true,.slice av a.es.length cv,.slice bv a.ks.length dv,.slice gv a.ss.length hv]) ?_ rfl ⟨_,_,_,by rw[HL.out],by rw[hp];exact OF.out,by rw[hp];exact BF.out⟩;rw[bC rfl];go_simp
theorem uZ (key:ByteArray)(a b:Nd)(kC kD vs1 mf mg vs2:Value)(w:World)(h1:gh w kC kD vs1 a)(hm1:tU a)(hlf:a.leaf=false)(Tf:b.leaf=true):
  Calls Tryz.prog 229 #[.agg #[.bool a.leaf,kC,kD,vs1],.string key,.agg #[.bool b.leaf,mf,mg,vs2]] w (Dz w a):=by
 have BW:Hid (Below w.heap.size w (((w.alloc (.cells #[.bool false,kC,kD,vs1] 74)).alloc (.cells #[.bool true,mf,mg,vs2] 74)).alloc (.cells #[.bool false,.slice none 0 0,.slice none 0 0,.slice none 0 0] 74))):=ai _ (ai _ (ai _ (Below.refl _ _)));have K1:Cl (((w.alloc (.cells #[.bool false,kC,kD,vs1] 74)).alloc (.cells #[.bool true,mf,mg,vs2] 74)).alloc (.cells #[.bool false,.slice none 0 0,.slice none 0 0,.slice none 0 0] 74)) w.heap.size #[.bool false,kC,kD,vs1] 74:=((Cl.kV _ _ _).alloc _).alloc _;have K2:Cl (((w.alloc (.cells #[.bool false,kC,kD,vs1] 74)).alloc (.cells #[.bool true,mf,mg,vs2] 74)).alloc (.cells #[.bool false,.slice none 0 0,.slice none 0 0,.slice none 0 0] 74)) (w.heap.size+1) #[.bool true,mf,mg,vs2] 74:=(Cl.oG _ _ _ _).alloc _;have K3:Cl (((w.alloc (.cells #[.bool false,kC,kD,vs1] 74)).alloc (.cells #[.bool true,mf,mg,vs2] 74)).alloc (.cells #[.bool false,.slice none 0 0,.slice none 0 0,.slice none 0 0] 74)) (w.heap.size+1+1) #[.bool false,.slice none 0 0,.slice none 0 0,.slice none 0 0] 74:=Cl.zO _ _ _ _ _;have C:Hid _:=iB a kC kD vs1 (((w.alloc (.cells #[.bool false,kC,kD,vs1] 74)).alloc (.cells #[.bool true,mf,mg,vs2] 74)).alloc (.cells #[.bool false,.slice none 0 0,.slice none 0 0,.slice none 0 0] 74)) (h1.below BW.out) hm1;rw[hlf]at C;rw[hlf,Tf];obtain⟨ae,ce,rfl,_⟩:=ar h1.e;obtain⟨ak,ck,rfl,_⟩:=ar h1.k;obtain⟨az,cz,rfl,_⟩:=ar h1.s;have HL:Hid (a.leaf=false):=hlf;clear h1 hlf Tf;go_enter Tryz.func229,Tryz.ntmps229
 go_upto_region 1 with fail
 generalize World.alloc _ _=W at*;obtain⟨p,hp⟩:∃p,w.heap.size=p:=⟨_,rfl⟩;rw[hp]at K1 K2 K3 BW⊢;obtain⟨c0,c1,c2,c3⟩:=K1.four;obtain⟨d0,_,_,_⟩:=K2.four;have l1:=K3.lt;clear K1 K2
 go_wp2_with fail
 refine Calls.mono C.out ?_;rintro e w1 ⟨yN,yO,vs',rfl,O1,B1⟩;obtain⟨av,cv,rfl⟩:=bJ O1.e;obtain⟨bv,dv,rfl⟩:=bJ O1.k;obtain⟨gv,hv,rfl⟩:=bJ O1.s;have K4:Cl w1 (p+1+1) #[.bool false,.slice none 0 0,.slice none 0 0,.slice none 0 0] 74:=K3.on B1;obtain⟨f0,f1,f2,f3⟩:=K4.four;obtain⟨g0,g1,g2,g3⟩:=K4.thaw;have KF:Cl ((((w1.setCell ⟨p+1+1,0,none⟩ (.bool false)).setCell ⟨p+1+1,1,none⟩ (.slice av a.es.length cv)).setCell ⟨p+1+1,2,none⟩ (.slice bv a.ks.length dv)).setCell ⟨p+1+1,3,none⟩ (.slice gv a.ss.length hv)) (p+1+1) #[.bool false,.slice av a.es.length cv,.slice bv a.ks.length dv,.slice gv a.ss.length hv] 74:=K4.eW _ _ _ _;have BF:Hid (Below p w ((((w1.setCell ⟨p+1+1,0,none⟩ (.bool false)).setCell ⟨p+1+1,1,none⟩ (.slice av a.es.length cv)).setCell ⟨p+1+1,2,none⟩ (.slice bv a.ks.length dv)).setCell ⟨p+1+1,3,none⟩ (.slice gv a.ss.length hv))):=cR (BW.out.trans (B1.mono (by omega))) (by omega);have OF:Hid (kf p ((((w1.setCell ⟨p+1+1,0,none⟩ (.bool false)).setCell ⟨p+1+1,1,none⟩ (.slice av a.es.length cv)).setCell ⟨p+1+1,2,none⟩ (.slice bv a.ks.length dv)).setCell ⟨p+1+1,3,none⟩ (.slice gv a.ss.length hv)) (.slice av a.es.length cv) (.slice bv a.ks.length dv) (.slice gv a.ss.length hv) a):=⟨aG (bu O1.e l1) (by omega),aG (bu O1.k l1) (by omega),aG (bu O1.s l1) (by omega)⟩;clear C B1 O1 K3 K4 c0 c1 c2 c3 d0;go_wp2
 (try simp only[Exit.inBlock,Exit.then])
 generalize World.setCell _ _ _=X at*;obtain⟨k0,k1,k2,k3⟩:=KF.four;refine bodyPost_ret (v:=.agg #[.bool false,.slice av a.es.length cv,.slice bv a.ks.length dv,.slice gv a.ss.length hv]) ?_ rfl ⟨_,_,_,by rw[HL.out],by rw[hp];exact OF.out,by rw[hp];exact BF.out⟩;rw[bC rfl];go_simp
theorem GA {a b:Nd}{key:ByteArray}(h:a.leaf=b.leaf):iR a key b=⟨a.leaf,a.es++b.es,a.ks++b.ks,a.ss++(if a.leaf=true then []else [key])++b.ss⟩:=by unfold iR;rw[if_pos h]
theorem PM {a b:Nd}{key:ByteArray}(h:¬a.leaf=b.leaf):iR a key b=a:=by unfold iR;rw[if_neg h]
theorem DA (key:ByteArray)(a b:Nd)(kC kD vs1 mf mg vs2:Value)(w:World)(h1:gh w kC kD vs1 a)(h2:gh w mf mg vs2 b)(hm1:tU a)(hm2:tU b):
  Calls Tryz.prog 229 #[.agg #[.bool a.leaf,kC,kD,vs1],.string key,.agg #[.bool b.leaf,mf,mg,vs2]] w (Dz w (iR a key b)):=by
 by_cases c:a.leaf=b.leaf
 ·rw[GA c];obtain⟨lf,es1,iq,fw⟩:=a;obtain⟨lg,es2,iD,ir⟩:=b;simp only at c⊢;subst c;cases lf
  ·exact(tW.2 key es1 es2 iq iD fw ir kC kD vs1 mf mg vs2 w h1 h2 hm1 hm2).mono fun e w' h=>h
  ·exact(tW.1 key es1 es2 iq iD fw ir kC kD vs1 mf mg vs2 w h1 h2 hm1 hm2).mono fun e w' h=>h
 ·rw[PM c];cases ha:a.leaf<;>cases hb:b.leaf
  ·rw[ha,hb]at c;exact absurd rfl c
  ·rw[<-ha,<-hb];exact uZ key a b kC kD vs1 mf mg vs2 w h1 hm1 ha hb
  ·rw[<-ha,<-hb];exact xE key a b kC kD vs1 mf mg vs2 w h1 hm1 ha hb
  ·rw[ha,hb]at c;exact absurd rfl c
def Tg (w0:World)(ao kU yM:Option Addr)(n c n2 c2 p q ff tt:Nat)(x o y:List Int){y4 y5 y6 y7:Value}(C:List Bool->Act->Prop)(w:World):Prop:=∀{f0 f1 f2 f3 f4 f5 f6 f7 f8 f9 f10 f11 f12 f13 f14 f15:Bool}{x9 sD xC uV xD sP EC Bu sQ xF sS x20 jP kW kB:Value},f15=false->Below w0.heap.size w0 w->Hid (f0=true->x9=.slice ao n c)->Hid (f1=true->sD=.int .i64 ff)->Hid (f2=true->xC=.slice ao n c)->Hid (f3=true->uV=.int .i64 n)->Hid (f4=true->xD=.int .i64 p)->Hid (f5=true->sP=.slice ao p c)->Hid (f6=true->EC=.slice kU n2 c2)->Hid (f7=true->Bu=.slice ao n c)->Hid (f8=true->sQ=.int .i64 tt)->Hid (f9=true->xF=.slice ao n c)->Hid (f10=true->sS=.int .i64 n)->Hid (f11=true->x20=.int .i64 q)->Hid (f12=true->jP=.slice yM (n-q) (c-q))->Hid (f13=true->∃qq,kW=.slice (some ⟨qq,0,none⟩) 3 3∧Cl w qq #[.slice ao p c,.slice kU n2 c2,.slice yM (n-q) (c-q)] 56)->Hid (f14=true->∃ao n c,kB=.slice ao n c∧dN w0.heap.size w kB (x++o++y))->C [f0,f1,f2,f3,f4,f5,f6,f7,f8,f9,f10,f11,f12,f13,f14,f15] {tmps:=#[.slice ao n c,.int .i64 ff,.int .i64 tt,.slice kU n2 c2,y4,y5,y6,y7,.slice none 0 0,x9,sD,xC,uV,xD,sP,EC,Bu,sQ,xF,sS,x20,jP,kW,kB],defers:=[]}
def Th (w0:World)(ao kU yM:Option Addr)(n c n2 c2 p q ff tt:Nat)(x o y:List ByteArray){y4 y5 y6 y7:Value}(C:List Bool->Act->Prop)(w:World):Prop:=∀{f0 f1 f2 f3 f4 f5 f6 f7 f8 f9 f10 f11 f12 f13 f14 f15:Bool}{x9 sD xC uV xD sP EC Bu sQ xF sS x20 jP kW kB:Value},f15=false->Below w0.heap.size w0 w->Hid (f0=true->x9=.slice ao n c)->Hid (f1=true->sD=.int .i64 ff)->Hid (f2=true->xC=.slice ao n c)->Hid (f3=true->uV=.int .i64 n)->Hid (f4=true->xD=.int .i64 p)->Hid (f5=true->sP=.slice ao p c)->Hid (f6=true->EC=.slice kU n2 c2)->Hid (f7=true->Bu=.slice ao n c)->Hid (f8=true->sQ=.int .i64 tt)->Hid (f9=true->xF=.slice ao n c)->Hid (f10=true->sS=.int .i64 n)->Hid (f11=true->x20=.int .i64 q)->Hid (f12=true->jP=.slice yM (n-q) (c-q))->Hid (f13=true->∃qq,kW=.slice (some ⟨qq,0,none⟩) 3 3∧Cl w qq #[.slice ao p c,.slice kU n2 c2,.slice yM (n-q) (c-q)] 66)->Hid (f14=true->∃ao n c,kB=.slice ao n c∧cE w0.heap.size w kB (x++o++y))->C [f0,f1,f2,f3,f4,f5,f6,f7,f8,f9,f10,f11,f12,f13,f14,f15] {tmps:=#[.slice ao n c,.int .i64 ff,.int .i64 tt,.slice kU n2 c2,y4,y5,y6,y7,.slice none 0 0,x9,sD,xC,uV,xD,sP,EC,Bu,sQ,xF,sS,x20,jP,kW,kB],defers:=[]}
theorem kg:(∀(v vo:Value) (l o:List Int) (fr tr:Nat) (w:World) (h:Row encI 1 w v l) (ho:Row encI 1 w vo o) (hl:l.length<=10000) (hlo:o.length<=10000) (hf:fr<=100000) (ht:tr<=100000),Calls Tryz.prog 190 #[v,.int .i64 fr,.int .i64 tr,vo] w fun e w'=>∃ao n c,e=.returned (.slice ao n c)∧dN w.heap.size w' (.slice ao n c) (im l fr tr o)∧Below w.heap.size w w')∧
  (∀(v vo:Value) (l o:List ByteArray) (fr tr:Nat) (w:World) (h:Row encS 1 w v l) (ho:Row encS 1 w vo o) (hl:l.length<=10000) (hlo:o.length<=10000) (hf:fr<=100000) (ht:tr<=100000),Calls Tryz.prog 191 #[v,.int .i64 fr,.int .i64 tr,vo] w fun e w'=>∃ao n c,e=.returned (.slice ao n c)∧cE w.heap.size w' (.slice ao n c) (im l fr tr o)∧Below w.heap.size w w'):=by
 and_intros
 have iT:=trivial
 rotate_left
 have fc:=trivial
 rotate_left
 all_goals
  intro v vo l o fr tr w h ho hl hlo hf ht;obtain⟨ao,c,rfl,hc⟩:=ar h;obtain⟨kU,c2,rfl,hc2⟩:=ar ho
  first
   |have zz:=iT
    have P1:Aside (Row encI 1 w (.slice ao (min fr l.length) c) (l.take (min fr l.length))):=rp (by decide) h _ (by omega);have P2:Aside (Row encI 1 w (.slice kU o.length c2) o):=ho;have P3:Aside (Row encI 1 w _ (l.drop (min tr l.length))):=rq (by decide) h (min tr l.length) (by omega);have e1:=xy ao l.length c (min fr l.length) (by omega);have e2:=xz ao l.length c (min tr l.length) (by omega)
   |have P1:Aside (Row encS 1 w (.slice ao (min fr l.length) c) (l.take (min fr l.length))):=rp (by decide) h _ (by omega)
    have P2:Aside (Row encS 1 w (.slice kU o.length c2) o):=ho;have P3:Aside (Row encS 1 w _ (l.drop (min tr l.length))):=rq (by decide) h (min tr l.length) (by omega);have e1:=xA ao l.length c (min fr l.length) (by omega);have e2:=xB ao l.length c (min tr l.length) (by omega)
  generalize(if c=min tr l.length then ao else ao.map (·.add (min tr l.length*1)))=yM at e2 P3;have t1:l.take (min fr l.length)=l.take fr:=by
   rcases Nat.le_total fr l.length with d|d
   ·rw[Nat.min_eq_left d]
   ·rw[Nat.min_eq_right d,List.take_length,List.take_of_length_le d]
  have t3:l.drop (min tr l.length)=l.drop tr:=by
   rcases Nat.le_total tr l.length with d|d
   ·rw[Nat.min_eq_left d]
   ·rw[Nat.min_eq_right d,List.drop_length,List.drop_of_length_le d]
  rw[t1]at P1;rw[t3]at P3;obtain⟨p,hp⟩:∃p,min fr l.length=p:=⟨_,rfl⟩;obtain⟨q,hq⟩:∃q,min tr l.length=q:=⟨_,rfl⟩;have hpz:min (fr:Int) (l.length:Int)=(p:Int):=by omega
  have hqz:min (tr:Int) (l.length:Int)=(q:Int):=by omega
  rw[hp]at P1 e1;rw[hq]at P3 e2;have VV:Hid (im l fr tr o=l.take fr++o++l.drop tr):=rfl;have lx:(l.take fr).length<=10000:=by rw[List.length_take];omega
  have ly:(l.drop tr).length<=10000:=by rw[List.length_drop];omega
  generalize l.take fr=x at*;generalize l.drop tr=y at*;generalize im l fr tr o=out at*;generalize l.length=n at*;clear t1 t3 h ho hp hq
  first
   |have zz:=iT
    go_enter Tryz.func190,Tryz.ntmps190
   |go_enter Tryz.func191,Tryz.ntmps191
  go_wp2_with fail
  first
   |have zz:=iT
    refine bc 15 (Tg w ao kU yM n c o.length c2 p q fr tr x o y) (by kernel_rfl) (by kernel_rfl) (by kernel_rfl) (fun _ k=>k rfl ((Below.refl _ w).drew) aq aq aq aq aq aq aq aq aq aq aq aq aq aq aq) ?_ ?_ ?_
   |refine bc 15 (Th w ao kU yM n c o.length c2 p q fr tr x o y) (by kernel_rfl) (by kernel_rfl) (by kernel_rfl) (fun _ k=>k rfl ((Below.refl _ w).drew) aq aq aq aq aq aq aq aq aq aq aq aq aq aq aq) ?_ ?_ ?_
  ·intro i w' hne f0 f1 f2 f3 f4 f5 f6 f7 f8 f9 f10 f11 f12 f13 f14 f15 x9 sD xC uV xD sP EC Bu sQ xF sS x20 jP kW kB e15 hB h0 h1 h2 h3 h4 h5 h6 h7 h8 h9 h10 h11 h12 dF fu hi;obtain⟨hlt,hun,_⟩:=aQ hi;have hlt':i<16:=hlt;clear hlt;rcases(by omega:i=0∨i=1∨i=2∨i=3∨i=4∨i=5∨i=6∨i=7∨i=8∨i=9∨i=10∨i=11∨i=12∨i=13∨i=14)with rfl|rfl|rfl|rfl|rfl|rfl|rfl|rfl|rfl|rfl|rfl|rfl|rfl|rfl|rfl
   ·refine aj rfl fun K HK=>?_;go_simp;exact HK.out _ _ fun _ k=>by apply k<;>first|assumption|exact hidR|(repeat' first|apply Exists.intro|assumption|rfl|apply And.intro|exact fun _=>rfl)
   ·refine aj rfl fun K HK=>?_;go_simp;exact HK.out _ _ fun _ k=>by apply k<;>first|assumption|exact hidR|(repeat' first|apply Exists.intro|assumption|rfl|apply And.intro|exact fun _=>rfl)
   ·refine aj rfl fun K HK=>?_;go_simp;exact HK.out _ _ fun _ k=>by apply k<;>first|assumption|exact hidR|(repeat' first|apply Exists.intro|assumption|rfl|apply And.intro|exact fun _=>rfl)
   ·cases h2 (ah 2 hi (by kernel_rfl));refine aj rfl fun K HK=>?_;go_simp;exact HK.out _ _ fun _ k=>by apply k<;>first|assumption|exact hidR|(repeat' first|apply Exists.intro|assumption|rfl|apply And.intro|exact fun _=>rfl)
   ·cases h1 (ah 1 hi (by kernel_rfl));cases h3 (ah 3 hi (by kernel_rfl));refine aj rfl fun K HK=>?_;go_simp;exact HK.out _ _ fun _ k=>by apply k<;>first|assumption|exact hidR|(repeat' first|apply Exists.intro|assumption|rfl|apply And.intro|exact fun _=>rfl)
   ·cases h0 (ah 0 hi (by kernel_rfl));cases h4 (ah 4 hi (by kernel_rfl));refine aj rfl fun K HK=>?_;go_simp;exact HK.out _ _ fun _ k=>by apply k<;>first|assumption|exact hidR|(repeat' first|apply Exists.intro|assumption|rfl|apply And.intro|exact fun _=>rfl)
   ·refine aj rfl fun K HK=>?_;go_simp;exact HK.out _ _ fun _ k=>by apply k<;>first|assumption|exact hidR|(repeat' first|apply Exists.intro|assumption|rfl|apply And.intro|exact fun _=>rfl)
   ·refine aj rfl fun K HK=>?_;go_simp;exact HK.out _ _ fun _ k=>by apply k<;>first|assumption|exact hidR|(repeat' first|apply Exists.intro|assumption|rfl|apply And.intro|exact fun _=>rfl)
   ·refine aj rfl fun K HK=>?_;go_simp;exact HK.out _ _ fun _ k=>by apply k<;>first|assumption|exact hidR|(repeat' first|apply Exists.intro|assumption|rfl|apply And.intro|exact fun _=>rfl)
   ·refine aj rfl fun K HK=>?_;go_simp;exact HK.out _ _ fun _ k=>by apply k<;>first|assumption|exact hidR|(repeat' first|apply Exists.intro|assumption|rfl|apply And.intro|exact fun _=>rfl)
   ·cases h9 (ah 9 hi (by kernel_rfl));refine aj rfl fun K HK=>?_;go_simp;exact HK.out _ _ fun _ k=>by apply k<;>first|assumption|exact hidR|(repeat' first|apply Exists.intro|assumption|rfl|apply And.intro|exact fun _=>rfl)
   ·cases h8 (ah 8 hi (by kernel_rfl));cases h10 (ah 10 hi (by kernel_rfl));refine aj rfl fun K HK=>?_;go_simp;exact HK.out _ _ fun _ k=>by apply k<;>first|assumption|exact hidR|(repeat' first|apply Exists.intro|assumption|rfl|apply And.intro|exact fun _=>rfl)
   ·cases h7 (ah 7 hi (by kernel_rfl));cases h11 (ah 11 hi (by kernel_rfl));refine aj rfl fun K HK=>?_;go_simp;exact HK.out _ _ fun _ k=>by apply k<;>first|assumption|exact hidR|(repeat' first|apply Exists.intro|assumption|rfl|apply And.intro|exact fun _=>rfl)
   ·cases h5 (ah 5 hi (by kernel_rfl));cases h6 (ah 6 hi (by kernel_rfl));cases h12 (ah 12 hi (by kernel_rfl));refine aj rfl fun K HK=>?_;go_simp;exact HK.out _ _ fun _ k=>k e15 (ai _ hB) h0 h1 h2 h3 h4 h5 h6 h7 h8 h9 h10 h11 h12 (fun _=>⟨_,rfl,Cl.new _ _ _⟩) (fun d=>let⟨ao,n,c,e,o⟩:=fu.out d;⟨ao,n,c,e,ownsRow_below o (ai _ (Below.refl _ _))⟩)
   ·obtain⟨fW,rfl,c13⟩:=dF.out (ah 13 hi (by kernel_rfl));refine aj rfl fun K HK=>?_;go_simp
    first
     |have zz:=iT
      refine Calls.mono (Gx fW 56 (.slice ao p c) (.slice kU o.length c2) (.slice yM (n-q) (c-q)) x o y w' c13 (P1.out.below hB) (P2.out.below hB) (P3.out.below hB) (by omega)) ?_
     |refine Calls.mono (ry fW 66 (.slice ao p c) (.slice kU o.length c2) (.slice yM (n-q) (c-q)) x o y w' c13 (P1.out.below hB) (P2.out.below hB) (P3.out.below hB) (by omega)) ?_
    rintro e w1 ⟨ao,nn,cc,rfl,ow,b1⟩;exact HK.out _ _ fun _ k=>k e15 (jf b1 hB) h0 h1 h2 h3 h4 h5 h6 h7 h8 h9 h10 h11 h12 (fun d=>let⟨q,e,c⟩:=dF.out d;⟨q,e,Cl.on c (b1)⟩) (fun _=>⟨ao,nn,cc,rfl,aG ow hB.size⟩)
  ·intro w' f0 f1 f2 f3 f4 f5 f6 f7 f8 f9 f10 f11 f12 f13 f14 f15 x9 sD xC uV xD sP EC Bu sQ xF sS x20 jP kW kB e15 hB h0 h1 h2 h3 h4 h5 h6 h7 h8 h9 h10 h11 h12 dF fu hi;have d14:f14=true:=ah 14 hi (by kernel_rfl);obtain⟨a14,n14,m14,rfl,ZY⟩:=fu.out d14;clear hi;refine aj rfl fun K HK=>?_;go_simp;refine HK.out _ _ ?_;clear h0 h1 h2 h3 h4 h5 h6 h7 h8 h9 h10 h11 h12 dF fu;go_wp2;go_ret;exact⟨_,_,_,rfl,by rw[VV.out];exact ZY,hB⟩
  ·intro _ _;intros;assumption
end
end N
end Go.Proofs.YtceoeaemenhbhaaGreatDoor
