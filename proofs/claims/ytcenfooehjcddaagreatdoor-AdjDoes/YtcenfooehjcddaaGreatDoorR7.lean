/- Walks of the package cowtree and of what it stands on: lemmas, made short. -/
import Derived.Test.YtcenfooehjcddaaGreatDoorR1
import Derived.Test.YtcenfooehjcddaaGreatDoorR6
set_option maxHeartbeats 16000000
set_option maxRecDepth 100000
set_option linter.unusedVariables false
set_option linter.unusedSimpArgs false
namespace Go.Proofs.YtcenfooehjcddaaGreatDoor
open Go.Shelf Go.RowKit Go.Lib Go.Sort
section
section
def Wv (x y:Pr):Int:=Lib.compareInt x.1 y.1
theorem X8 (x y:Pr):ltOf Wv x y=decide (x.1<y.1):=by
 unfold ltOf Wv Lib.compareInt;by_cases h1:x.1<y.1
 ·simp[h1]
 ·by_cases h2:y.1<x.1<;>simp[h1,h2]
theorem Zw:SWO (ltOf Wv) where
 irrefl x:=by rw[X8];simp
 trans x y z h1 h2:=by rw[X8]at*;simp at*;omega
 ntrans x y z h1 h2:=by rw[X8]at*;simp at*;omega
theorem uT {d d':Array Pr}(h:PermIn 0 d.size d d')(x:Pr):x∈d'.toList↔x∈d.toList:=by
 have h1:=h.2.2;have e1:(d'.extract 0 d.size)=d':=by rw[<-h.1];simp
 have e2:(d.extract 0 d.size)=d:=by simp
 rw[e1,e2]at h1;exact h1.mem_iff
theorem mh {d:Array Pr}(h:SortedIn (ltOf Wv) 0 d.size d):d.toList.Pairwise (fun x y=>x.1<=y.1):=by
 rw[List.pairwise_iff_getElem];intro i j hi hj hij;have hi':i<d.size:=by simpa using hi
 have hj':j<d.size:=by simpa using hj
 have:=h i j (Nat.zero_le _) hij hj';rw[getElem!_pos d i hi',getElem!_pos d j hj',X8]at this;simp at this⊢;omega
theorem Gd {enc:Pr->List Value}{k blk off:Nat}{w0 W:World}{dk:Array Pr}(h:SWK enc k w0 blk off dk W){B:Nat}(hB:B<=blk)(hs:B<=w0.heap.size):Below B w0 W:=by
 obtain⟨m,os,rfl⟩:=h;refine⟨rfl,rfl,rfl,size_sortWorldK_c enc k w0 blk off m dk os,fun j hj=>?_⟩;unfold sortWorldK;rw[heap_grow_old _ _ (by rw[size_putRowK];exact Nat.lt_of_lt_of_le hj hs)];have:blk≠j:=by omega
 simp[putRowK,putRow,mapBlock,Sort.ahead,Array.getElem?_modify,this]
theorem Ce (ao:Option Addr)(cap:Nat)(f:Value)(w:World):Calls Tryz.prog 137 #[.slice ao 0 cap,f] w fun e w'=>e=.returned (.tuple #[])∧w'=w:=AnyF.slices_SortFunc_none (P:=Tryz.prog) {Tryz.Ei with} ao cap f w
theorem Cf (ao:Option Addr)(n cap base:Nat)(l:List Pr)(w:World)(hl:l.length<=1000000)(h:Own ax 2 base w (.slice ao n cap) l)(hbase:base<=w.heap.size):
  Calls Tryz.prog 137 #[.slice ao n cap,.func (.func 138) #[] #[]] w fun e w1=>e=.returned (.tuple #[])∧∃s,s.length=l.length∧s.Pairwise (fun x y:Pr=>x.1<=y.1)∧(∀x,x∈s↔x∈l)∧Own ax 2 base w1 (.slice ao n cap) s∧Below base w w1:=by
 obtain⟨cT,cap',e,h1,h2,h3⟩:=h;cases e;by_cases hne:l=[]
 ·subst hne;refine(Ce ao cap _ w).mono ?_;rintro e w1 ⟨rfl,rfl⟩;exact⟨rfl,[],rfl,List.Pairwise.nil,fun _=>Iff.rfl,⟨ao,cap,rfl,h1,h2,fun h=>absurd rfl h⟩,Below.refl _ _⟩
 ·obtain⟨g,off,rfl,hg,hlt,hH⟩:=h3 hne;have hc:=AnyQ.slices_SortFunc Tryz.Ei 2 Tryz.isAgg112 Tryz.sizeOf112 ax cD fh Wv Zw 138 #[] g off cap l.toArray w (enters_of Tryz.func138 (by kernel_rfl) rfl) (fun _ _ _ _ x y=>by simp only[Array.append_empty];exact rS x y _) hH hlt (by simp;omega);have e:(l.toArray.size:Nat)=l.length:=by simp
  rw[e]at hc;refine Calls.mono hc ?_;rintro e w1 ⟨rfl,d',n,os,hp,hs,rfl⟩;have hds:d'.size=l.length:=by have:=hp.1;simpa using this
  have R:RowK ax 2 w g off l.toArray:=⟨cD,fh,hH,hlt⟩;refine⟨rfl,d'.toList,by simpa using hds,mh (by rw[hds];exact hs),fun x=>?_,?_,?_⟩
  ·rw[uT (d:=l.toArray) (by rw[List.size_toArray];exact hp) x]
  ·exact⟨_,cap,by simp[hds],by rw[Array.length_toList,hds];exact h1,(fun h=>by cases h),fun _=>⟨g,off,rfl,hg,lt_sortWorldK ax 2 w g off n d' os hlt,by simpa using holdsK_sortWorldK ax 2 w g off n l.toArray d' os hlt hH (by simpa using hds)⟩⟩
  ·exact Gd ⟨n,os,rfl⟩ hg hbase
theorem Cg (v:Value)(l:List Pr)(w:World)(h:Row ax 2 w v l)(hl:l.length<=100000):
  Calls Tryz.prog 107 #[v] w fun e w'=>∃v' s,e=.returned v'∧Row ax 2 w' v' s∧Qj s∧s.length<=l.length∧(∀n,dm s n↔dm l n)∧Below w.heap.size w w':=by
 obtain⟨ao,cap,rfl,h1,h2,h3⟩:=h;have H3:Aside (l≠[]->∃b off,ao=some ⟨b,off,none⟩∧b<w.heap.size∧cx ax 2 w b off l):=h3;clear h3;go_enter Tryz.func107,Tryz.ntmps107;go_wp2
 go_loopg [3,8] l.length (fun kx s3 s8 wr=>∃(i:Nat) (cT:Option Addr) (n' c':Nat),s3=.slice cT n' c'∧s8=.int .i64 i∧i<=l.length∧l.length-i<=kx∧Aside (bp w.heap.size wr (.slice cT n' c') (jB (l.take i)))∧Hid (Below w.heap.size w wr))
 case atStart=>exact⟨0,none,0,0,rfl,rfl,Nat.zero_le _,Nat.le_refl _,bp.empty _ _,Below.refl _ _⟩
 case round=>
  obtain⟨i,cT,n',c',rfl,rfl,hi,hki,HO,HB⟩:=hrel;have hsz:w.heap.size<=wr.heap.size:=HB.out.size;by_cases hil:i<l.length
  ·have dO:(i:Int)< (l.length:Int):=by omega
   obtain⟨b,off,rfl,hb,x1,x2⟩:=cW H3.out i hil HB.out;have T:Hid (l.take (i+1)=l.take i++[l[i]!]):=bU hil;have hlen:(jB (l.take i)).length<=100000:=by have:=jY (l.take i);simp at this;omega
   generalize l[i]! =x at*;have C:Hid _:=Il x (wr.alloc (.cells #[.int .i64 x.1,.int .i64 x.2] 112));obtain⟨r,hr⟩:∃r,cH x=r:=⟨_,rfl⟩;rw[hr]at C;by_cases hok:r.1<=r.2
   ·have T2:Hid (jB (l.take (i+1))=jB (l.take i)++[r]):=by show _=_;rw[T.out,uA _ _ (by rw[hr];exact hok),hr]
    generalize jB (l.take i)=out at*;clear hr T
    go_upto_region 6 with(go_at_call 136;refine Calls.mono C.out ?_;rintro e w2 ⟨rfl,hg⟩;have PX:=(Cl.new wr #[.int .i64 x.1,.int .i64 x.2] 112).on hg.below;have p0:=PX.two.1;have p1:=PX.two.2;have f0:=PX.frozen 0;have f1:=PX.frozen 1)
    have hb2:Below wr.heap.size wr w2:=((Below.refl _ wr).alloc (Nat.le_refl _) (.cells #[.int .i64 x.1,.int .i64 x.2] 112)).trans (hg.below.mono (by simp));have O2:bp w.heap.size w2 (.slice cT n' c') out:=ownsRow_below HO.out hb2;have NB:(Value.slice cT n' c').ownBlock≠some wr.heap.size:=HO.out.other (Nat.le_refl _);have O3:Aside (bp w.heap.size ((w2.setCell ⟨wr.heap.size,0,none⟩ (.int .i64 r.1)).setCell ⟨wr.heap.size,1,none⟩ (.int .i64 r.2)) (.slice cT n' c') out):=ownsRow_setCell_other (ownsRow_setCell_other O2 (a:=⟨wr.heap.size,0,none⟩) NB _) (a:=⟨wr.heap.size,1,none⟩) NB _;have P3:Hid (Cl ((w2.setCell ⟨wr.heap.size,0,none⟩ (.int .i64 r.1)).setCell ⟨wr.heap.size,1,none⟩ (.int .i64 r.2)) wr.heap.size #[.int .i64 r.1,.int .i64 r.2] 112):=PX.set2 _ _;have B3:Hid (Below w.heap.size w ((w2.setCell ⟨wr.heap.size,0,none⟩ (.int .i64 r.1)).setCell ⟨wr.heap.size,1,none⟩ (.int .i64 r.2))):=((HB.out.trans (hb2.mono hsz)).setCell (p:=⟨wr.heap.size,0,none⟩) hsz _).setCell (p:=⟨wr.heap.size,1,none⟩) hsz _;clear hg PX p0 p1 f0 f1 O2 NB hb2 HB HO x1 x2 C;generalize(w2.setCell ⟨wr.heap.size,0,none⟩ (.int .i64 r.1)).setCell ⟨wr.heap.size,1,none⟩ (.int .i64 r.2)=w3 at*;have p0:=P3.out.two.1;have p1:=P3.out.two.2;have hs3:w.heap.size<=w3.heap.size:=B3.out.size
    go_wp2_with (at_builtin;refine qE rfl _ _ rfl w.heap.size _ out rfl (O3.out.alloc _) w3.heap.size 0 1 rfl r (by simp) (by simp) (by omega) (by simp;omega) ?_)
    intro gR n2 c2 w4 td pW _;have O5:Aside (bp w.heap.size w4 (.slice gR n2 c2) (out++[r])):=td;have B5:Hid (Below w.heap.size w w4):=pW _ (B3.out.alloc hs3 _);clear td pW O3 B3 P3;go_wp2
    go_roundg (l.length- (i+1))
    case measure=>omega
    case rel=>exact⟨i+1,gR,n2,c2,rfl,by go_num,by omega,Nat.le_refl _,by rw[T2.out];exact O5,B5⟩
   ·have T2:Hid (jB (l.take (i+1))=jB (l.take i)):=by show _=_;rw[T.out,wO _ _ (by rw[hr];exact hok)]
    generalize jB (l.take i)=out at*;clear hr T
    go_upto_region 6 with(go_at_call 136;refine Calls.mono C.out ?_;rintro e w2 ⟨rfl,hg⟩;have PX:=(Cl.new wr #[.int .i64 x.1,.int .i64 x.2] 112).on hg.below;have p0:=PX.two.1;have p1:=PX.two.2;have f0:=PX.frozen 0;have f1:=PX.frozen 1)
    have hb2:Below wr.heap.size wr w2:=((Below.refl _ wr).alloc (Nat.le_refl _) (.cells #[.int .i64 x.1,.int .i64 x.2] 112)).trans (hg.below.mono (by simp));have O2:bp w.heap.size w2 (.slice cT n' c') out:=ownsRow_below HO.out hb2;have NB:(Value.slice cT n' c').ownBlock≠some wr.heap.size:=HO.out.other (Nat.le_refl _);have O3:Aside (bp w.heap.size ((w2.setCell ⟨wr.heap.size,0,none⟩ (.int .i64 r.1)).setCell ⟨wr.heap.size,1,none⟩ (.int .i64 r.2)) (.slice cT n' c') out):=ownsRow_setCell_other (ownsRow_setCell_other O2 (a:=⟨wr.heap.size,0,none⟩) NB _) (a:=⟨wr.heap.size,1,none⟩) NB _;have P3:Hid (Cl ((w2.setCell ⟨wr.heap.size,0,none⟩ (.int .i64 r.1)).setCell ⟨wr.heap.size,1,none⟩ (.int .i64 r.2)) wr.heap.size #[.int .i64 r.1,.int .i64 r.2] 112):=PX.set2 _ _;have B3:Hid (Below w.heap.size w ((w2.setCell ⟨wr.heap.size,0,none⟩ (.int .i64 r.1)).setCell ⟨wr.heap.size,1,none⟩ (.int .i64 r.2))):=((HB.out.trans (hb2.mono hsz)).setCell (p:=⟨wr.heap.size,0,none⟩) hsz _).setCell (p:=⟨wr.heap.size,1,none⟩) hsz _;clear hg PX p0 p1 f0 f1 O2 NB hb2 HB HO x1 x2 C;generalize(w2.setCell ⟨wr.heap.size,0,none⟩ (.int .i64 r.1)).setCell ⟨wr.heap.size,1,none⟩ (.int .i64 r.2)=w3 at*;have p0:=P3.out.two.1;have p1:=P3.out.two.2;have hs3:w.heap.size<=w3.heap.size:=B3.out.size;go_wp2
    go_roundg (l.length- (i+1))
    case measure=>omega
    case rel=>exact⟨i+1,cT,n',c',rfl,by go_num,by omega,Nat.le_refl _,by rw[T2.out];exact O3,B3⟩
  ·have dO:¬(i:Int)< (l.length:Int):=by omega
   obtain rfl:i=l.length:=by omega
   rw[List.take_length]at HO;have hlen:(jB l).length<=100000:=by have:=jY l;omega
   have C:Hid _:=Cf cT n' c' w.heap.size (jB l) wr (by omega) HO.out.own hsz
   go_wp2_with (go_at_call 137;refine Calls.mono C.out ?_;rintro e w2 ⟨rfl,s,hs1,hs2,hs3,hs4,hs5⟩)
   go_ret;refine⟨_,s,rfl,hs4.row,⟨fun r hr=>ME l r ((hs3 r).1 hr),hs2⟩,?_,fun n=>?_,HB.out.trans hs5⟩
   ·have:=jY l;omega
   ·rw[Ig hs3 n,MF]
theorem bp.setLast {base:Nat}{W:World}{v:Value}{pre:List Pr}{a b:Int}(h:bp base W v (pre++[(a,b)])):
  ∃g cap,v=.slice (some ⟨g,0,none⟩) (pre.length+1) cap∧base<=g∧g<W.heap.size∧W.cell? ⟨g,pre.length*2,none⟩=some (.int .i64 a)∧W.cell? ⟨g,pre.length*2+1,none⟩=some (.int .i64 b)∧W.frozen? ⟨g,pre.length*2+1,none⟩=false∧∀m,bp base (W.setCell ⟨g,pre.length*2+1,none⟩ (.int .i64 m)) v (pre++[(a,m)]):=by
 obtain⟨h0,h1⟩:=h;rcases h1 with⟨rfl,h1⟩| ⟨g,cap,cur,rfl,hg,hh,hc,hm,hs,ht⟩
 ·simp at h1
 ·have hlt:=(Array.getElem?_eq_some_iff.1 hh).1;have e:∀m:Int,(flatK ax 2 (pre++[(a,m)]).toArray).toList=(flatK ax 2 pre.toArray).toList++[.int .i64 a,.int .i64 m]:=fun m=>cE ax 2 cD pre (a,m);have hX:(flatK ax 2 pre.toArray).toList.length=pre.length*2:=by simp
  have hn:(pre++[(a,b)]).length=pre.length+1:=by simp
  rw[hn]at hc ht⊢;rw[e b]at ht;have hcs:(pre.length+1)*2<=cur.size:=by rw[hs];exact Nat.mul_le_mul_right 2 hc
  have get:∀t,t< (pre.length+1)*2->cur[t]? =((flatK ax 2 pre.toArray).toList++[.int .i64 a,.int .i64 b])[t]? :=fun t ht'=>by
   rw[<-ht,List.getElem?_take_of_lt ht',Array.getElem?_toList]
  refine⟨g,cap,rfl,hg,hlt,?_,?_,by simp[World.frozen?,hh],fun m=>⟨by simp,Or.inr ⟨g,cap,cur.setIfInBounds (pre.length*2+1) (.int .i64 m),by simp,hg,?_,by simpa using hc,hm,by simpa using hs,?_⟩⟩⟩
  ·simp only[World.cell?,hh];rw[get _ (by omega),List.getElem?_append_right (by omega),hX];simp
  ·simp only[World.cell?,hh];rw[get _ (by omega),List.getElem?_append_right (by omega),hX];simp
  ·simp[World.setCell,Array.getElem?_modify,hh]
  ·rw[e m];have hn2:(pre++[(a,m)]).length=pre.length+1:=by simp
   rw[hn2];apply List.ext_getElem?;intro t;by_cases c:t< (pre.length+1)*2
   ·rw[List.getElem?_take_of_lt c,Array.getElem?_toList,Array.getElem?_setIfInBounds];by_cases c2:pre.length*2+1=t
    ·subst c2;rw[if_pos rfl,if_pos (by omega),List.getElem?_append_right (by omega),hX];simp
    ·rw[if_neg c2,get t c];by_cases c3:t<pre.length*2
     ·rw[List.getElem?_append_left (by omega),List.getElem?_append_left (by omega)]
     ·have:t=pre.length*2:=by omega
      subst this;rw[List.getElem?_append_right (by omega),List.getElem?_append_right (by omega),hX];simp
   ·rw[List.getElem?_take_eq_none (by omega),List.getElem?_eq_none (by simp;omega)]
end
section
theorem Qj.drop {t:List Pr}(h:Qj t)(i:Nat):Qj (t.drop i):=⟨fun r hr=>h.1 r (List.mem_of_mem_drop hr),h.2.sublist (List.drop_sublist i t)⟩
theorem Ag (l:List Pr):l=[]∨∃pre a b,l=pre++[(a,b)]:=by
 rcases List.eq_nil_or_concat l with h| ⟨pre,⟨a,b⟩,h⟩
 ·exact Or.inl h
 ·exact Or.inr ⟨pre,a,b,by rw[h,List.concat_eq_append]⟩
theorem bp.len {base:Nat}{W:World}{ao:Option Addr}{n c:Nat}{l:List Pr}(h:bp base W (.slice ao n c) l):n=l.length:=by
 rcases h.2 with⟨e,e2⟩| ⟨g,cap,cur,e,_⟩
 ·cases e;exact e2.symm
 ·cases e;rfl
theorem bp.mono {base base':Nat}{W:World}{v:Value}{l:List Pr}(h:bp base W v l)(hb:base'<=base):bp base' W v l:=by
 refine⟨h.1,?_⟩;rcases h.2 with h2| ⟨g,cap,cur,hv,hg,r⟩
 ·exact Or.inl h2
 ·exact Or.inr ⟨g,cap,cur,hv,Nat.le_trans hb hg,r⟩
theorem JS (v:Value)(l:List Pr)(w:World)(h:Row ax 2 w v l)(hl:l.length<=100000):
  Calls Tryz.prog 79 #[v] w fun e w'=>∃v',e=.returned v'∧bp w.heap.size w' v' (pE l)∧Below w.heap.size w w':=by
 have C:Hid _:=Cg v l w h hl;clear h;go_enter Tryz.func79,Tryz.ntmps79
 go_wp2_with (go_at_call 107;refine Calls.mono C.out ?_;rintro e w1 ⟨v1,t,rfl,⟨ao,cap,rfl,h1,h2,h3⟩,hris,htl,hin,hb1⟩)
 have H3:Aside (t≠[]->∃b off,ao=some ⟨b,off,none⟩∧b<w1.heap.size∧cx ax 2 w1 b off t):=h3;have B1:Hid (Below w.heap.size w w1):=hb1;have HR:Hid (Qj t):=hris;have HI:Hid (∀n,dm t n↔dm l n):=hin;clear h3 hb1 hris hin C
 go_loopg [3,10] t.length (fun kx s3 s10 wr=>∃(i:Nat) (cT:Option Addr) (n' c':Nat) (set:List Pr),s3=.slice cT n' c'∧s10=.int .i64 i∧i<=t.length∧t.length-i<=kx∧Aside (bp w1.heap.size wr (.slice cT n' c') set)∧Hid (Below w1.heap.size w1 wr)∧Hid (jZ (t.take i) (t.drop i) set))
 case atStart=>exact⟨0,none,0,0,[],rfl,rfl,Nat.zero_le _,Nat.le_refl _,bp.empty _ _,Below.refl _ _,jZ.start t⟩
 case round=>
  obtain⟨i,cT,n',c',set,rfl,rfl,hi,hki,HO,HB,HS⟩:=hrel;have hsz:w1.heap.size<=wr.heap.size:=HB.out.size;by_cases hil:i<t.length
  ·have dO:(i:Int)< (t.length:Int):=by omega
   obtain⟨b,off,rfl,hb,x1,x2⟩:=cW H3.out i hil HB.out;have TD:Hid (t.drop i=t[i]! ::t.drop (i+1)):=oD hil;have TT:Hid (t.take (i+1)=t.take i++[t[i]!]):=bU hil;have XR:Hid (Qj (t[i]! ::t.drop (i+1))):=by have:=HR.out.drop i;rw[TD.out]at this;exact this
   obtain⟨y1,y2,y3⟩:=XR.out.1 t[i]! (by simp);have hlen:set.length<=100000:=by have:=HS.out.len;simp at this;omega
   generalize t[i]! =x at*;have S2:Hid (jZ (t.take i) (x::t.drop (i+1)) set):=by have:=HS.out;rw[TD.out]at this;exact this
   clear HS TD;rcases Ag set with rfl| ⟨pre,a,b2,rfl⟩
   ·have S3:Hid (jZ (t.take (i+1)) (t.drop (i+1)) ([]++[x])):=by show jZ _ _ _;rw[TT.out];exact S2.out.add XR.out (fun _ h=>by simp at h)
    obtain rfl:n'=0:=HO.out.len;have hln:([]:List Pr).length<1000000:=by simp
    have O2:Aside (bp w1.heap.size (wr.alloc (.cells #[.int .i64 x.1,.int .i64 x.2] 112)) (Value.slice cT 0 c') []):=HO.out.alloc _;have P2:Hid (Cl (wr.alloc (.cells #[.int .i64 x.1,.int .i64 x.2] 112)) wr.heap.size #[.int .i64 x.1,.int .i64 x.2] 112):=Cl.new _ _ _;have B2:Hid (Below w1.heap.size w1 (wr.alloc (.cells #[.int .i64 x.1,.int .i64 x.2] 112))):=HB.out.alloc hsz _;have NB:Hid ((Value.slice cT 0 c').ownBlock≠some wr.heap.size):=HO.out.other (Nat.le_refl _)
    go_upto_region 6 with fail
    clear HO HB x1 x2;generalize wr.alloc (.cells #[.int .i64 x.1,.int .i64 x.2] 112)=w2 at*;generalize wr.heap.size=q at*;have p0:=P2.out.two.1;have p1:=P2.out.two.2;have hs2:w1.heap.size<=w2.heap.size:=B2.out.size
    go_quiet (fail)
    have O3:Aside (bp w1.heap.size (w2.drewN nq) (Value.slice cT 0 c') []):=by have:=cA O2.out nq #[];rw[grow_empty]at this;exact this
    have B3:Hid (Below w1.heap.size w1 (w2.drewN nq)):=by have:=below_grown B2.out hs2 nq #[];rw[grow_empty]at this;exact this
    have P3:Hid (Cl (w2.drewN nq) q #[.int .i64 x.1,.int .i64 x.2] 112):=P2.out;have p2:=P3.out.two.1;have p3:=P3.out.two.2;have hs3:w1.heap.size<=(w2.drewN nq).heap.size:=hs2;clear p0 p1 O2 B2 P2;generalize w2.drewN nq=w3 at*
    go_wp2_with (at_builtin;refine qE rfl _ _ rfl w1.heap.size _ [] rfl (O3.out.alloc _) w3.heap.size 0 1 rfl x (by simp) (by simp) hln (by simp;omega) ?_)
    intro Ww n4 c4 w4 td pW _;have O5:Aside (bp w1.heap.size w4 (.slice Ww n4 c4) ([]++[x])):=by show bp _ _ _ _;simpa using td
    have B5:Hid (Below w1.heap.size w1 w4):=pW _ (B3.out.alloc hs3 _);clear td pW O3 B3 P3;go_wp2
    go_roundg (t.length- (i+1))
    case measure=>omega
    case rel=>exact⟨i+1,Ww,n4,c4,_,rfl,by go_num,by omega,Nat.le_refl _,O5,B5,S3⟩
   ·obtain⟨g,cg,ev,hg,aav,ca,cb,fb,hset⟩:=HO.out.setLast;cases ev;obtain⟨c1,c2,c3⟩:=kM.1 S2.out.cn;simp only at c3;clear c1 c2 hset ca cb fb;generalize hk:pre.length=k at*;have O2:Aside (bp w1.heap.size (wr.alloc (.cells #[.int .i64 x.1,.int .i64 x.2] 112)) (Value.slice (some ⟨g,0,none⟩) (k+1) c') (pre++[(a,b2)])):=HO.out.alloc _;have P2:Hid (Cl (wr.alloc (.cells #[.int .i64 x.1,.int .i64 x.2] 112)) wr.heap.size #[.int .i64 x.1,.int .i64 x.2] 112):=Cl.new _ _ _;have B2:Hid (Below w1.heap.size w1 (wr.alloc (.cells #[.int .i64 x.1,.int .i64 x.2] 112))):=HB.out.alloc hsz _;have NB:Hid ((Value.slice (some ⟨g,0,none⟩) (k+1) c').ownBlock≠some wr.heap.size):=HO.out.other (Nat.le_refl _)
    go_upto_region 6 with fail
    clear HO HB x1 x2;generalize wr.alloc (.cells #[.int .i64 x.1,.int .i64 x.2] 112)=w2 at*;generalize wr.heap.size=q at*;have p0:=P2.out.two.1;have p1:=P2.out.two.2;have hs2:w1.heap.size<=w2.heap.size:=B2.out.size;obtain⟨g',cg',ev,_,_,ca,cb,fb,hset⟩:=O2.out.setLast;rw[hk]at ev ca cb fb hset;cases ev;have Zx:Hid _:=hset;have hln:(pre++[(a,b2)]).length<1000000:=by simp at hlen⊢;omega
    have e1:wrap64 (b2+1)=b2+1:=U0 (by omega) (by omega);have e2:wrap64 (k:Int)=k:=U0 (by omega) (by simp[hk]at hlen;omega);have cb2:w2.cell? ⟨g,k*2+1,none⟩=some (.int .i64 b2):=cb;clear hset;by_cases hj:x.1<=b2+1
    ·have S3:Hid (jZ (t.take (i+1)) (t.drop (i+1)) (pre++[(a,max b2 x.2)])):=by show jZ _ _ _;rw[TT.out];exact S2.out.join XR.out hj
     go_quiet (fail)
     have O3:Aside (bp w1.heap.size (w2.drewN nq).drew (Value.slice (some ⟨g,0,none⟩) (k+1) c') (pre++[(a,b2)])):=by have:=cA O2.out (nq+1) #[];rw[grow_empty]at this;exact this
     have B3:Hid (Below w1.heap.size w1 (w2.drewN nq).drew):=by have:=below_grown B2.out hs2 (nq+1) #[];rw[grow_empty]at this;exact this
     obtain⟨g3,cg3,ev3,hg3,_,da,db,fd,JT⟩:=O3.out.setLast;rw[hk]at ev3 da db fd JT;cases ev3;have O4:Aside (bp w1.heap.size ((w2.drewN nq).drew.setCell ⟨g,k*2+1,none⟩ (.int .i64 (max b2 x.2))) (Value.slice (some ⟨g,0,none⟩) (k+1) c') (pre++[(a,max b2 x.2)])):=JT _;have B4:Hid (Below w1.heap.size w1 ((w2.drewN nq).drew.setCell ⟨g,k*2+1,none⟩ (.int .i64 (max b2 x.2)))):=B3.out.setCell (p:=⟨g,k*2+1,none⟩) hg _;have p2:(w2.drewN nq).cell? ⟨q,0,none⟩=some (.int .i64 x.1):=p0;have p3:(w2.drewN nq).cell? ⟨q,1,none⟩=some (.int .i64 x.2):=p1;have cb3:(w2.drewN nq).cell? ⟨g,k*2+1,none⟩=some (.int .i64 b2):=db;have fb3:(w2.drewN nq).frozen? ⟨g,k*2+1,none⟩=false:=fd;clear p0 p1 O2 B2 P2 O3 B3 JT da db fd cb2 ca cb fb Zx;generalize w2.drewN nq=w3 at*
     go_wp2_with fail
     go_region
     all_goals go_wp2
     all_goals go_roundg (t.length- (i+1))
     case measure=>omega
     case rel=>exact⟨i+1,_,_,c',_,rfl,by go_num,by omega,Nat.le_refl _,O4,B4,S3⟩
    ·have S3:Hid (jZ (t.take (i+1)) (t.drop (i+1)) ((pre++[(a,b2)])++[x])):=by show jZ _ _ _;rw[TT.out];exact S2.out.add XR.out (S2.out.cn.MG (by simp only;omega))
     go_quiet (fail)
     have O3:Aside (bp w1.heap.size (w2.drewN nq) (Value.slice (some ⟨g,0,none⟩) (k+1) c') (pre++[(a,b2)])):=by have:=cA O2.out nq #[];rw[grow_empty]at this;exact this
     have B3:Hid (Below w1.heap.size w1 (w2.drewN nq)):=by have:=below_grown B2.out hs2 nq #[];rw[grow_empty]at this;exact this
     have P3:Hid (Cl (w2.drewN nq) q #[.int .i64 x.1,.int .i64 x.2] 112):=P2.out;have p2:=P3.out.two.1;have p3:=P3.out.two.2;have hs3:w1.heap.size<=(w2.drewN nq).heap.size:=hs2;clear p0 p1 cb2 O2 B2 P2;generalize w2.drewN nq=w3 at*
     go_wp2_with (at_builtin;refine qE rfl _ _ rfl w1.heap.size _ (pre++[(a,b2)]) rfl (O3.out.alloc _) w3.heap.size 0 1 rfl x (by simp) (by simp) hln (by simp;omega) ?_)
     intro Ww n4 c4 w4 td pW _;have O5:Aside (bp w1.heap.size w4 (.slice Ww n4 c4) ((pre++[(a,b2)])++[x])):=by show bp _ _ _ _;simpa using td
     have B5:Hid (Below w1.heap.size w1 w4):=pW _ (B3.out.alloc hs3 _);clear td pW O3 B3 P3;go_wp2
     go_roundg (t.length- (i+1))
     case measure=>omega
     case rel=>exact⟨i+1,Ww,n4,c4,_,rfl,by go_num,by omega,Nat.le_refl _,O5,B5,S3⟩
  ·have dO:¬(i:Int)< (t.length:Int):=by omega
   obtain rfl:i=t.length:=by omega
   have E:Hid (set=pE l):=Ia HS.out.cn fun n=>by
    have:=HS.out.same n;rw[List.take_length]at this;rw[this,HI.out n]
   go_wp2;go_ret;refine⟨_,rfl,?_,B1.out.trans (HB.out.mono B1.out.size)⟩;rw[<-E.out];exact HO.out.mono B1.out.size
theorem Ah (v:Value)(l:List Pr)(w:World)(h:Row ax 2 w v l)(hl:l.length<=100000):
  Calls Tryz.prog 79 #[v] w fun e w'=>∃v',e=.returned v'∧Own ax 2 w.heap.size w' v' (pE l)∧Below w.heap.size w w':=
 (JS v l w h hl).mono fun _ _ ⟨v',e,o,b⟩=>⟨v',e,o.own,b⟩
end
end
end Go.Proofs.YtcenfooehjcddaaGreatDoor
