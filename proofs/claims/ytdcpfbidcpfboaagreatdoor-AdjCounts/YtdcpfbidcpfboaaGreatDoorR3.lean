/- Walks of the package cowtree and of what it stands on: lemmas, made short. -/
import Derived.Test.YtdcpfbidcpfboaaGreatDoorRows
import Derived.WalkKit
import Derived.WalkSpells
import Derived.WalkLawsBesides
import Derived.Laws.OwnMore
import Derived.Laws.LoneSync
import Derived.ChangeMaps4
import Derived.Maps.Keyed
import Derived.BigRegion
import Derived.Maps.AppendAt
import Derived.Deep.RegionLaw
import Derived.Deep.LoopGhost
import Derived.Test.YtdcpfbidcpfboaaGreatDoorR1
import Derived.Deep.QuietTactic
import Derived.BigQuiet
import Derived.Deep.RegionHeld3
import Derived.Laws.ResultCell
import Derived.Test.YtdcpfbidcpfboaaGreatDoorR2
import Derived.Shelf.Small.Wraps
import Derived.Ground.NamesProg
import Derived.Test.YtdcpfbidcpfboaaGreatDoorProg
import Derived.Maps.OwnIn
import Derived.Maps.OwnSet
import Derived.Lib.SlKeysI
set_option maxHeartbeats 16000000
set_option maxRecDepth 100000
set_option linter.unusedVariables false
set_option linter.unusedSimpArgs false
namespace Go.Proofs.YtdcpfbidcpfboaaGreatDoor
section
section
open Go.RowKit
abbrev Wr:=Nat×ByteArray
structure Dk where
 sure:List ByteArray
 pend:List Wr
 brk:Option Nat
 down:Bool
 reads:Int
 writes:Int
def GA (l:List Wr)(k:Nat):Wr:=l.getD k (0,ByteArray.empty)
def Fw (l:List ByteArray)(i:Nat):ByteArray:=l.getD i ByteArray.empty
def uA (sure:List ByteArray)(pend:List Wr)(i:Nat)(n:Nat):ByteArray:=(List.range n).foldl (fun s k=>if(GA pend k).1=i then(GA pend k).2 else s) (Fw sure i)
def Dk.now (d:Dk)(i:Nat):ByteArray:=uA d.sure d.pend i d.pend.length
def jt (pend:List Wr)(i:Nat)(n:Nat):Option ByteArray:=(List.range n).foldl (fun s k=>if(GA pend k).1=i then some (GA pend k).2 else s) none
def jT:ByteArray:=⟨Array.replicate 256 0⟩
def Dk.new (n:Int):Dk:=⟨List.replicate (min (max n 0) 16384).toNat jT,[],none,false,0,0⟩
def Dk.has (d:Dk)(i:Int):Bool:=decide (0<=i∧i<d.sure.length)
def Dk.get (d:Dk)(i:Int):(ByteArray×Int)×Dk:=
 if d.down then((ByteArray.empty,4),d)else if d.has i then((d.now i.toNat,0),{d with reads:=wrap64 (d.reads+1)})else((ByteArray.empty,40),d)
structure Dk.Ok (d:Dk):Prop where
 len:d.sure.length<=16384
 sz:∀s∈d.sure,s.size=256
 pd:∀p∈d.pend,p.1<d.sure.length∧p.2.size=256
 brk:∀k,d.brk=some k->k<=9223372036854775807
theorem GG {l:List ByteArray}(h:∀s∈l,s.size=256){i:Nat}(hi:i<l.length):(Fw l i).size=256:=by
 unfold Fw;rw[List.getD_eq_getElem?_getD,List.getElem?_eq_getElem hi];exact h _ (List.getElem_mem hi)
theorem Qc {d:Dk}(h:d.Ok){k:Nat}(hk:k<d.pend.length):(GA d.pend k).1<d.sure.length∧(GA d.pend k).2.size=256:=by
 unfold GA;rw[List.getD_eq_getElem?_getD,List.getElem?_eq_getElem hk];exact h.pd _ (List.getElem_mem hk)
theorem rL (s:List ByteArray)(p:List Wr)(i n:Nat):uA s p i (n+1)=if(GA p n).1=i then(GA p n).2 else uA s p i n:=by simp[uA,List.range_succ]
theorem ye (p:List Wr)(i n:Nat):jt p i (n+1)=if(GA p n).1=i then some (GA p n).2 else jt p i n:=by simp[jt,List.range_succ]
theorem rM (s:List ByteArray)(p:List Wr)(i:Nat):∀n,uA s p i n=(jt p i n).getD (Fw s i)
 |0=>rfl
 |n+1=>by rw[rL,ye,rM s p i n];split<;>rfl
theorem Ak:jT.size=256:=by decide+kernel
theorem Dk.Al (n:Int):(Dk.new n).Ok:=by
 refine⟨?_,fun s hs=>?_,fun p hp=>?_,fun k hk=>?_⟩
 ·simp[Dk.new];omega
 ·simp only[Dk.new,List.mem_replicate]at hs;rw[hs.2];exact Ak
 ·simp[Dk.new]at hp
 ·simp[Dk.new]at hk
end
section
open Go.RowKit
open Go.ChangeMaps (setBlock)
def isKey (k:Int)(e:MapEntry):Bool:=match e.key with| .int .i64 j=>k==j|_=>false
def jU (w:World)(m:Nat)(g:Int->Option Value):Prop:=
 ∃es clock,w.heap[m]? =some (.map es clock)∧(∀e∈es.toList,∃k,e.key=.int .i64 k)∧∀k,(es.toList.find? (isKey k)).map (·.val)=g k
theorem oV (k:Int):∀(es:List MapEntry) (i:Nat),(∀e∈es,∃k,e.key=.int .i64 k)->
  (es.find? (isKey k)=none∧Instr.findNow (.int .i64) (.int .i64 k) es i=some none)∨
  ∃j e,es[j]? =some e∧es.find? (isKey k)=some e∧(∀n,n<j->∀x,es[n]? =some x->isKey k x=false)∧Instr.findNow (.int .i64) (.int .i64 k) es i=some (some (i+j,e.val))
 |[],_,_=>.inl ⟨rfl,rfl⟩
 |e::es,i,h=>by
  obtain⟨q,hq⟩:=h e (by simp);by_cases hk:k=q
  ·refine .inr ⟨0,e,rfl,?_,(fun n hn=>by omega),?_⟩
   ·simp[List.find?,isKey,hq,hk]
   ·simp[Instr.findNow,Instr.sameNow,hq,hk]
  ·have hkq:(k==q)=false:=beq_eq_false_iff_ne.2 hk;have hik:isKey k e=false:=by simp[isKey,hq,hkq]
   rcases oV k es (i+1) (fun x hx=>h x (by simp[hx]))with⟨h1,h2⟩| ⟨j,x,h1,h2,h3,h4⟩
   ·refine .inl ⟨?_,?_⟩
    ·rw[List.find?_cons,hik];exact h1
    ·simpa[Instr.findNow,Instr.sameNow,hq,hkq]using h2
   ·refine .inr ⟨j+1,x,by simpa using h1,?_,?_,?_⟩
    ·rw[List.find?_cons,hik];exact h2
    ·intro n hn y hy;cases n with
     |zero=>simp at hy;subst hy;exact hik
     |succ n=>exact h3 n (by omega) y (by simpa using hy)
    ·have e1:i+(j+1)=i+1+j:=by omega
     rw[e1];simpa[Instr.findNow,Instr.sameNow,hq,hkq]using h4
theorem oW (k:Int)(es:List MapEntry)(w:World)(r:Option (Nat×Value))(h:Instr.findNow (.int .i64) (.int .i64 k) es 0=some r):(Instr.findKey 3 (.int .i64 k) es).run Tryz.prog w=.ok r w:=by
 simp[Instr.findKey,run_underlying Tryz.underlying3,h,Result.andThen]
theorem mJ (k:Int)(b:Bool)(w:World):(Instr.checkKey b 10000 3 (.int .i64 k)).run Tryz.prog w=.ok () w:=by
 exact MapKept.run_checkKey (n:=9999) Tryz.underlying3 (by simp[MapKept.IsKey]) b
def T9:Value:=.agg #[.int .i64 0,.string ByteArray.empty]
theorem jU.look {w:World}{m:Nat}{g:Int->Option Value}(h:jU w m g)(k:Int):
  (Instr.lookup 129 (.map (some m)) (.int .i64 k) true).run Tryz.prog w=.ok (.tuple #[(g k).getD T9,.bool (g k).isSome]) w:=by
 obtain⟨es,clock,hb,hk,hg⟩:=h;rcases oV k es.toList 0 hk with⟨h1,h2⟩| ⟨j,e,h1,h2,h3,h4⟩
 ·have e:=hg k;rw[h1]at e;rw[<-e];simp[Instr.lookup,run_underlying Tryz.underlying129,MapKept.run_getObj_map hb,mJ,oW k _ w _ h2,Result.andThen];rfl
 ·have e1:=hg k;rw[h2]at e1;rw[<-e1];simp[Instr.lookup,run_underlying Tryz.underlying129,MapKept.run_getObj_map hb,mJ,oW k _ w _ h4,Result.andThen]
theorem jU.kept {w w':World}{m:Nat}{g:Int->Option Value}(h:jU w m g)(e:w'.heap[m]? =w.heap[m]?):jU w' m g:=by
 obtain⟨es,clock,hb,r⟩:=h;exact⟨es,clock,e.trans hb,r⟩
theorem jU.lt {w:World}{m:Nat}{g:Int->Option Value}(h:jU w m g):m<w.heap.size:=by
 obtain⟨es,clock,hb,_⟩:=h;exact(Array.getElem?_eq_some_iff.1 hb).1
theorem jU.empty {w:World}{m clock:Nat}(h:w.heap[m]? =some (.map #[] clock)):jU w m (fun _=>none):=⟨_,_,h,(fun e he=>by simp at he),fun k=>by simp⟩
theorem rN (w:World){m k:Nat}(h:k≠m)(o:Obj):(setBlock w m o).heap[k]? =w.heap[k]? :=by simp[setBlock,Ne.symm h]
def Ua (l:List Wr):List Value:=l.flatMap fun p=>[.int .i64 p.1,.string p.2]
def mapOf (pend:List Wr)(k:Int):Option Value:=if k<0 then none else(jt pend k.toNat pend.length).map fun s=>.agg #[.int .i64 k,.string s]
theorem Ef:mapOf []=fun _=>none:=by funext k;simp[mapOf,jt]
structure Mem (w:World)(b m g:Nat)(pv:Value)(br:Bool)(lf:Int)(d:Dk):Prop where
 blk:w.heap[b]? =some (.cells #[.slice (some ⟨g,0,none⟩) d.sure.length d.sure.length,pv,.map (some m),.bool br,.int .i64 lf,.bool d.down,.int .i64 d.reads,.int .i64 d.writes] 136 (0,0))
 row:w.heap[g]? =some (.cells (d.sure.map Value.string).toArray 9 (0,0))
 Xt:w.ownsRow 0 311 2 pv d.pend.length (Ua d.pend)
 map:jU w m (mapOf d.pend)
 enc:d.down=false->(d.brk=none∧br=false)∨∃k:Nat,d.brk=some k∧br=true∧lf=k
 ok:d.Ok
 bg:b≠g
 bm:b≠m
 gm:g≠m
 pb:pv.ownBlock≠some b
 pg:pv.ownBlock≠some g
 pm:pv.ownBlock≠some m
structure df (X:Nat->Prop)(w w':World):Prop where
 os:w'.os=w.os
 tape:w'.tape=w.tape
 output:w'.output=w.output
 size:w.heap.size<=w'.heap.size
 block:∀k,k<w.heap.size->¬X k->w'.heap[k]? =w.heap[k]?
def Mine (X:Nat->Prop)(w:World)(b:Nat)(d:Dk):Prop:=
 (∃m g pv br lf,Mem w b m g pv br lf d∧X b∧X m∧X g∧∀k,pv.ownBlock=some k->X k)∧∀k,X k->k<w.heap.size
theorem df.refl (X:Nat->Prop)(w:World):df X w w:=⟨rfl,rfl,rfl,Nat.le_refl _,fun _ _ _=>rfl⟩
theorem df.trans {X Y:Nat->Prop}{u v w:World}(h:df X u v)(k:df Y v w)(hY:∀k,Y k->X k∨u.heap.size<=k):df X u w:=
 ⟨k.os.trans h.os,k.tape.trans h.tape,k.output.trans h.output,Nat.le_trans h.size k.size,fun i hi hx=>(k.block i (Nat.lt_of_lt_of_le hi h.size) (fun hy=>(hY i hy).elim hx (fun h1=>by omega))).trans (h.block i hi hx)⟩
theorem df.alloc (X:Nat->Prop)(w:World)(o:Obj):df X w (w.alloc o):=⟨rfl,rfl,rfl,by simp,fun k hk _=>Below.heap_alloc _ _ _ hk⟩
theorem df.setCell {X:Nat->Prop}(w:World){b o:Nat}(hb:X b)(v:Value):df X w (w.setCell ⟨b,o,none⟩ v):=
 ⟨rfl,rfl,rfl,by simp[World.setCell],fun k _ hx=>Below.heap_setCell _ _ _ _ (fun e=>hx (by rw[e];exact hb))⟩
theorem df.setBlock {X:Nat->Prop}(w:World){b:Nat}(hb:X b)(o:Obj):df X w (setBlock w b o):=
 ⟨rfl,rfl,rfl,by simp[Go.ChangeMaps.setBlock],fun k _ hx=>rN w (fun e=>hx (by rw[e];exact hb)) o⟩
theorem df.grown {X:Nat->Prop}{w w':World}{row:Option Nat}(h:w.grownBy w' row)(hX:∀k,row=some k->X k):df X w w':=
 ⟨h.os,h.tape,h.output,h.size,fun k hk hx=>h.block k hk (fun e=>hx (hX k e.symm))⟩
theorem df.below {X:Nat->Prop}{B:Nat}{a w w':World}(hb:Below B a w)(h:df X w w')(hB:B<=w.heap.size)(hX:∀k,X k->B<=k):Below B a w':=
 hb.trans ⟨h.os,h.tape,h.output,h.size,fun k hk=>h.block k (by omega) (fun hx=>by have:=hX k hx;omega)⟩
theorem gj {w w':World}{base:Nat}{e:TypeId}{size:Nat}{v:Value}{n:Nat}{xs:List Value}(h:w.ownsRow base e size v n xs)(hk:∀k,v.ownBlock=some k->w'.heap[k]? =w.heap[k]?):w'.ownsRow base e size v n xs:=by
 refine⟨h.1,?_⟩;rcases h.2 with hn| ⟨g,cap,cur,rfl,hb,hg,rest⟩
 ·exact .inl hn
 ·exact .inr ⟨g,cap,cur,rfl,hb,(hk g rfl).trans hg,rest⟩
theorem Mem.kept {w w':World}{b m g:Nat}{pv:Value}{br:Bool}{lf:Int}{d:Dk}(h:Mem w b m g pv br lf d)(hb:w'.heap[b]? =w.heap[b]?)(hm:w'.heap[m]? =w.heap[m]?)(hg:w'.heap[g]? =w.heap[g]?)(hp:∀k,pv.ownBlock=some k->w'.heap[k]? =w.heap[k]?):Mem w' b m g pv br lf d:=
 ⟨hb.trans h.blk,hg.trans h.row,gj h.Xt hp,h.map.kept hm,h.enc,h.ok,h.bg,h.bm,h.gm,h.pb,h.pg,h.pm⟩
theorem Mem.pk {w:World}{b m g:Nat}{pv:Value}{br:Bool}{lf:Int}{d:Dk}(h:Mem w b m g pv br lf d){k:Nat}(hk:pv.ownBlock=some k):k<w.heap.size∧k≠b∧k≠g∧k≠m:=
 ⟨(h.Xt.lt k hk).2,fun e=>h.pb (by rw[hk,e]),fun e=>h.pg (by rw[hk,e]),fun e=>h.pm (by rw[hk,e])⟩
theorem Mem.bl {w:World}{b m g:Nat}{pv:Value}{br:Bool}{lf:Int}{d:Dk}(h:Mem w b m g pv br lf d):b<w.heap.size:=(Array.getElem?_eq_some_iff.1 h.blk).1
theorem Mem.gl {w:World}{b m g:Nat}{pv:Value}{br:Bool}{lf:Int}{d:Dk}(h:Mem w b m g pv br lf d):g<w.heap.size:=(Array.getElem?_eq_some_iff.1 h.row).1
end
section
open Go.RowKit
open Go.ChangeMaps (setBlock)
abbrev ptr (b:Nat):Value:=.pointer (some ⟨b,0,none⟩)
theorem uB {a b:Bool}(h:a=b):Ending.returned (.bool a)=.returned (.bool b):=by rw[h]
section
variable {w:World}{b m g:Nat}{pv:Value}{br:Bool}{lf:Int}{d:Dk}
theorem Mem.c0 (h:Mem w b m g pv br lf d):w.cell? ⟨b,0,none⟩=some (.slice (some ⟨g,0,none⟩) d.sure.length d.sure.length):=by simp[World.cell?,h.blk]
theorem Mem.c2 (h:Mem w b m g pv br lf d):w.cell? ⟨b,2,none⟩=some (.map (some m)):=by simp[World.cell?,h.blk]
theorem Mem.c5 (h:Mem w b m g pv br lf d):w.cell? ⟨b,5,none⟩=some (.bool d.down):=by simp[World.cell?,h.blk]
theorem Mem.c6 (h:Mem w b m g pv br lf d):w.cell? ⟨b,6,none⟩=some (.int .i64 d.reads):=by simp[World.cell?,h.blk]
theorem Mem.fz (h:Mem w b m g pv br lf d)(o:Nat):w.frozen? ⟨b,o,none⟩=false:=by simp[World.frozen?,h.blk]
theorem Qd (h:Mem w b m g pv br lf d):Calls Tryz.prog 239 #[ptr b] w fun e w'=>e=.returned (.bool d.down)∧w=w':=by
 have c5:=h.c5;have lt:=h.bl;clear h;go_enter Tryz.func239,Tryz.ntmps239;go_wp2;go_ret;exact⟨rfl,rfl⟩
theorem uC (h:Mem w b m g pv br lf d):Calls Tryz.prog 94 #[ptr b] w fun e w'=>e=.returned (.int .i64 d.sure.length)∧w=w':=by
 have c0:=h.c0;have lt:=h.bl;clear h;go_enter Tryz.func94,Tryz.ntmps94;go_wp2;go_ret;exact⟨rfl,rfl⟩
theorem Ub (h:Mem w b m g pv br lf d)(i:Int):Calls Tryz.prog 240 #[ptr b,.int .i64 i] w fun e w'=>e=.returned (.bool (d.has i))∧w=w':=by
 have C:Hid (Calls Tryz.prog 94 #[ptr b] w fun e w'=>e=.returned (.int .i64 d.sure.length)∧w=w'):=uC h;have lt:=h.bl;clear h;by_cases h0:0<=i
 ·go_enter Tryz.func240,Tryz.ntmps240
  go_wp2_with fail
  refine Calls.mono C.out ?_;rintro e w1 ⟨rfl,rfl⟩;go_wp2;go_ret;exact⟨uB (by unfold Dk.has;simp[h0]),rfl⟩
 ·have h1:i<0:=by omega
  go_enter Tryz.func240,Tryz.ntmps240;go_wp2;go_ret;exact⟨uB (by unfold Dk.has;simp;omega),rfl⟩
theorem Mem.Uc (h:Mem w b m g pv br lf d){i:Nat}(hi:i<d.sure.length):w.cell? ⟨g,i,none⟩=some (.string (Fw d.sure i)):=by
 simp[World.cell?,h.row,hi,Fw]
theorem Ud (o:Nat)(x y:Int)(c:w.cell? ⟨b,o,none⟩=some (.int .i64 x))(f:w.frozen? ⟨b,o,none⟩=false):Calls Tryz.prog 241 #[.pointer (some ⟨b,o,none⟩),.int .i64 y] w fun e w'=>e=.returned (.int .i64 (wrap64 (x+y)))∧w'=w.setCell ⟨b,o,none⟩ (.int .i64 (wrap64 (x+y))):=by
 have hl:=run_call_add (P:=Tryz.prog) Tryz.func250 (by kernel_rfl) (by kernel_rfl) (by kernel_rfl) .i64 (by kernel_rfl) (y:=y) (s:=wrap64 (x+y)) c f (by simp[go_sem,wrap64,IntKind.wrap_i64]);go_enter Tryz.func241,Tryz.ntmps241;go_wp2;go_ret;exact⟨rfl,rfl⟩
end
end
section
open Go.RowKit
open Go.ChangeMaps (setBlock)
structure iQ (b:Nat)(w w':World):Prop where
 os:w'.os=w.os
 tape:w'.tape=w.tape
 output:w'.output=w.output
 size:w'.heap.size=w.heap.size
 block:∀k,k≠b->w'.heap[k]? =w.heap[k]?
theorem iQ.refl (b:Nat)(w:World):iQ b w w:=⟨rfl,rfl,rfl,rfl,fun _ _=>rfl⟩
theorem iQ.trans {b:Nat}{u v w:World}(h:iQ b u v)(k:iQ b v w):iQ b u w:=
 ⟨k.os.trans h.os,k.tape.trans h.tape,k.output.trans h.output,k.size.trans h.size,fun i hi=>(k.block i hi).trans (h.block i hi)⟩
theorem iQ.setCell (b o:Nat)(w:World)(v:Value):iQ b w (w.setCell ⟨b,o,none⟩ v):=
 ⟨rfl,rfl,rfl,by simp[World.setCell],fun k hk=>Below.heap_setCell _ _ _ _ hk⟩
section
variable {w w':World}{b m g:Nat}{pv:Value}{br:Bool}{lf:Int}{d:Dk}
theorem Mem.upd (h:Mem w b m g pv br lf d)(o:iQ b w w'){Wc:Bool}{Xu:Int}{d':Dk}(hs:d'.sure=d.sure)(hp:d'.pend=d.pend)
  (hb:w'.heap[b]? =some (.cells #[.slice (some ⟨g,0,none⟩) d.sure.length d.sure.length,pv,.map (some m),.bool Wc,.int .i64 Xu,.bool d'.down,.int .i64 d'.reads,.int .i64 d'.writes] 136 (0,0)))
  (enc:d'.down=false->(d'.brk=none∧Wc=false)∨∃k:Nat,d'.brk=some k∧Wc=true∧Xu=k)(ok:d'.Ok):Mem w' b m g pv Wc Xu d':=
 ⟨by rw[hs];exact hb,by rw[hs];exact(o.block g h.bg.symm).trans h.row,by rw[hp];exact gj h.Xt (fun k hk=>o.block k (h.pk hk).2.1),by rw[hp];exact h.map.kept (o.block m h.bm.symm),enc,ok,h.bg,h.bm,h.gm,h.pb,h.pg,h.pm⟩
def Ue (w:World)(b m g:Nat)(pv:Value)(d:Dk):Prop:=∃br lf,Mem w b m g pv br lf d
theorem Mem.Xv (h:Mem w b m g pv br lf d)(x:Int):Mem (w.setCell ⟨b,6,none⟩ (.int .i64 x)) b m g pv br lf {d with reads:=x}:=
 h.upd (iQ.setCell b 6 w _) rfl rfl (by simp[World.setCell,Array.getElem?_modify,h.blk]) h.enc ⟨h.ok.len,h.ok.sz,h.ok.pd,h.ok.brk⟩
theorem Mem.alloc (h:Mem w b m g pv br lf d)(o:Obj):Mem (w.alloc o) b m g pv br lf d:=
 h.kept (Below.heap_alloc _ _ _ h.bl) (Below.heap_alloc _ _ _ h.map.lt) (Below.heap_alloc _ _ _ h.gl) (fun k hk=>Below.heap_alloc _ _ _ (h.pk hk).1)
end
end
section
open Go.RowKit
open Go.ChangeMaps (setBlock)
section
variable {w w':World}{b m g:Nat}{pv:Value}{br:Bool}{lf:Int}{d:Dk}
theorem Qe (h:Mem w b m g pv br lf d)(i:Int):Calls Tryz.prog 217 #[ptr b,.int .i64 i] w fun e w'=>e=.returned (.tuple #[.string (d.get i).1.1,.int .i64 (d.get i).1.2])∧df (fun k=>k=b) w w'∧Ue w' b m g pv (d.get i).2:=by
 have H:Hid (Mem w b m g pv br lf d):=h;have C1:Hid (Calls Tryz.prog 239 #[ptr b] w fun e w'=>e=.returned (.bool d.down)∧w=w'):=Qd h;have C2:Hid (Calls Tryz.prog 240 #[ptr b,.int .i64 i] w fun e w'=>e=.returned (.bool (d.has i))∧w=w'):=Ub h i;have lt:=h.bl;have hl:=h.ok.len;by_cases hd:d.down=true
 ·have HG:Hid (d.get i=((ByteArray.empty,4),d)):=by show d.get i=_;unfold Dk.get;rw[if_pos hd]
  clear h;go_enter Tryz.func217,Tryz.ntmps217
  go_wp2_with fail
  refine Calls.mono C1.out ?_;rintro e w1 ⟨rfl,rfl⟩;go_wp2;go_ret2;rw[HG.out];exact⟨rfl,df.refl _ _,br,lf,H.out⟩
 ·have hf:d.down=false:=by simpa using hd
  by_cases hi:d.has i=true
  ·have HG:Hid (d.get i=((d.now i.toNat,0),{d with reads:=wrap64 (d.reads+1)})):=by show d.get i=_;unfold Dk.get;rw[if_neg hd,if_pos hi]
   obtain⟨h0,h1⟩:=of_decide_eq_true hi;obtain⟨n,rfl⟩:∃n:Nat,i=n:=⟨i.toNat,by omega⟩;have hn:n<d.sure.length:=by omega
   have C3:Hid (Calls Tryz.prog 241 #[.pointer (some ⟨b,6,none⟩),.int .i64 1] w fun e w'=>e=.returned (.int .i64 (wrap64 (d.reads+1)))∧w'=w.setCell ⟨b,6,none⟩ (.int .i64 (wrap64 (d.reads+1)))):=Ud 6 _ _ h.c6 (h.fz 6);obtain⟨w2,e2⟩:∃w2,w2=w.setCell ⟨b,6,none⟩ (.int .i64 (wrap64 (d.reads+1))):=⟨_,rfl⟩;have h2:Mem w2 b m g pv br lf {d with reads:=wrap64 (d.reads+1)}:=by rw[e2];exact h.Xv _
   have H2:Hid (Mem w2 b m g pv br lf {d with reads:=wrap64 (d.reads+1)}):=h2;have T2:Hid (df (fun k=>k=b) w w2):=by show df _ _ _;rw[e2];exact df.setCell (X:=fun k=>k=b) w rfl _
   rw[<-e2]at C3;have c0:=h2.c0;have c2:=h2.c2;have lt2:=h2.bl;have gl2:=h2.gl;have cg:=h2.Uc (i:=n) hn;have hlk:=h2.map.look n;have HN:Hid (d.now (n:Int).toNat=(jt d.pend n d.pend.length).getD (Fw d.sure n)):=rM _ _ _ _;have em:mapOf d.pend n=(jt d.pend n d.pend.length).map fun s=>.agg #[.int .i64 n,.string s]:=by unfold mapOf;rw[if_neg (by omega)];rfl
   clear h h2 e2;cases hlast:jt d.pend n d.pend.length with
   |none=>
    rw[hlast]at em HN;rw[em]at hlk;have HLK:(Instr.lookup 129 (.map (some m)) (.int .i64 n) true).run Tryz.prog w2=.ok (.tuple #[.agg #[.int .i64 0,.string ByteArray.empty],.bool false]) w2:=hlk;clear hlast em hlk;go_enter Tryz.func217,Tryz.ntmps217
    go_wp2_with fail
    refine Calls.mono C1.out ?_;rintro e w1 ⟨rfl,rfl⟩
    go_wp2_with fail
    refine Calls.mono C2.out ?_;rintro e w1 ⟨rfl,rfl⟩
    go_wp2_with fail
    refine Calls.mono C3.out ?_;rintro e w1 ⟨rfl,rfl⟩;go_wp2;go_ret2;rw[HG.out];refine⟨?_,T2.out.trans (df.alloc (fun k=>k=b) _ _) (fun _ hk=>.inl hk),br,lf,H2.out.alloc _⟩;rw[HN.out];rfl
   |some s=>
    rw[hlast]at em HN;rw[em]at hlk;have HLK:(Instr.lookup 129 (.map (some m)) (.int .i64 n) true).run Tryz.prog w2=.ok (.tuple #[.agg #[.int .i64 n,.string s],.bool true]) w2:=hlk;clear hlast em hlk;go_enter Tryz.func217,Tryz.ntmps217
    go_wp2_with fail
    refine Calls.mono C1.out ?_;rintro e w1 ⟨rfl,rfl⟩
    go_wp2_with fail
    refine Calls.mono C2.out ?_;rintro e w1 ⟨rfl,rfl⟩
    go_wp2_with fail
    refine Calls.mono C3.out ?_;rintro e w1 ⟨rfl,rfl⟩;go_wp2;go_ret2;rw[HG.out];refine⟨?_,T2.out.trans (df.alloc (fun k=>k=b) _ _) (fun _ hk=>.inl hk),br,lf,H2.out.alloc _⟩;rw[HN.out];rfl
  ·have hif:d.has i=false:=by simpa using hi
   have HG:Hid (d.get i=((ByteArray.empty,40),d)):=by show d.get i=_;unfold Dk.get;rw[if_neg hd,if_neg hi]
   clear h;go_enter Tryz.func217,Tryz.ntmps217
   go_wp2_with fail
   refine Calls.mono C1.out ?_;rintro e w1 ⟨rfl,rfl⟩
   go_wp2_with fail
   refine Calls.mono C2.out ?_;rintro e w1 ⟨rfl,rfl⟩;go_wp2;go_ret2;rw[HG.out];exact⟨rfl,df.refl _ _,br,lf,H.out⟩
end
end
section
open Go.RowKit
open Go.ChangeMaps (setBlock)
section
variable {w w':World}{b m g:Nat}{pv:Value}{br:Bool}{lf:Int}{d:Dk}
abbrev bx (n:Nat)(s:ByteArray):Obj:=.cells #[.int .i64 n,.string s] 311
end
end
section
open Go.RowKit
open Go.ChangeMaps (setBlock)
section
variable {w w':World}{b m g:Nat}{pv:Value}{br:Bool}{lf:Int}{d:Dk}
end
end
section
open Go.RowKit
open Go.ChangeMaps (setBlock)
def nY (w:World)(v:Value)(l:List Int):Prop:=
 ∃ao cap,v=.slice ao l.length cap∧(l≠[]->∃r o,ao=some ⟨r,o,none⟩∧r<w.heap.size∧∀j,j<l.length->w.cell? ⟨r,o+j,none⟩=some (.int .i64 (l.getD j 0)))
theorem uD {keep:List Int}{t:Nat}(ht:t<keep.length):keep.take (t+1)=keep.take t++[keep.getD t 0]:=by
 rw[List.take_add_one,List.getElem?_eq_getElem ht,List.getD_eq_getElem?_getD,List.getElem?_eq_getElem ht];rfl
section
variable {w w':World}{b m g:Nat}{pv:Value}{br:Bool}{lf:Int}{d:Dk}
end
end
section
open Go.RowKit
end
section
open Go.RowKit
open Go.ChangeMaps (setBlock)
theorem Am:(Tryz.prog.info? 9).map (fun i=>(i.zero,i.size,i.bytes))=some (some (.string ByteArray.empty),1,16):=by kernel_rfl
def dU (N t:Nat):List ByteArray:=List.replicate t jT++List.replicate (N-t) ByteArray.empty
theorem tO {N t:Nat}(h:t<=N):(dU N t).length=N:=by simp[dU];omega
theorem Ao {N t:Nat}(h:t<N):dU N (t+1)=(dU N t).set t jT:=by
 unfold dU;rw[List.set_append_right _ _ (by simp),show N-t=(N- (t+1))+1 by omega,List.replicate_succ' (n:=t),List.replicate_succ (n:=N- (t+1))];simp
theorem Ap (N:Nat):dU N N=List.replicate N jT:=by simp[dU]
theorem Eg (w:World)(N:Nat)(hN:N<1000000):(Instr.makeSlice 54 (.int .i64 N) (.int .i64 N)).run Tryz.prog w=.ok (.slice (some ⟨w.heap.size,0,none⟩) N N) (w.alloc (.cells ((dU N 0).map Value.string).toArray 9)):=by
 obtain⟨i0,hi,hz0,hz1,hz2⟩:=info_parts Am;have h:=run_make (P:=Tryz.prog) w 54 9 i0 _ Tryz.underlying54 hi hz0 .i64 .i64 N N (by omega) (Int.le_refl _) (by rw[hz2];omega) (by omega);rw[h];have e:madeCells (Value.string ByteArray.empty).cells ((N:Int).toNat*i0.size)=((dU N 0).map Value.string).toArray:=by
  rw[hz1,Int.toNat_natCast,Nat.mul_one];apply Array.toList_inj.1;rw[show(Value.string ByteArray.empty).cells=#[Value.string ByteArray.empty]from rfl,toList_madeCells_one];simp[dU]
 rw[e];simp
theorem vO:(⟨(Lib.repeatL [0] 256).toArray⟩:ByteArray)=jT:=by decide+kernel
theorem Uf (n:Int)(w:World):Calls Tryz.prog 38 #[.int .i64 n] w fun e w'=>∃b,e=.returned (ptr b)∧Below w.heap.size w w'∧Mine (fun k=>w.heap.size<=k∧k<w'.heap.size) w' b (Dk.new n):=by
 obtain⟨N,hN⟩:∃N:Nat,N=(min (max n 0) 16384).toNat:=⟨_,rfl⟩;have hNl:N<=16384:=by omega
 have HD:Hid (Dk.new n=⟨List.replicate N jT,[],none,false,0,0⟩):=by show Dk.new n=_;unfold Dk.new;rw[hN]
 have OKD:Hid ((Dk.new n).Ok):=Dk.Al n;have hmk:=Eg w N (by omega);have hmm:=@run_makeMap Tryz.prog;obtain⟨w1,e1⟩:∃w1,w1=w.alloc (.cells ((dU N 0).map Value.string).toArray 9):=⟨_,rfl⟩;rw[<-e1]at hmk;have Q1:Hid (w1.heap[w.heap.size]? =some (.cells ((dU N 0).map Value.string).toArray 9 (0,0))):=by show _=_;rw[e1];exact heap_alloc_new w _
 have B1:Hid (Below w.heap.size w w1):=by show Below _ _ _;rw[e1];exact(Below.refl _ _).alloc (Nat.le_refl _) _
 have S1:w1.heap.size=w.heap.size+1:=by rw[e1];simp
 clear e1;have hmx:min (max n 0) 16384=(N:Int):=by omega
 clear hN;go_enter Tryz.func38,Tryz.ntmps38
 go_wp2_with fail
 obtain⟨w3,e3⟩:∃w3,w3=(w1.alloc (.map #[] 0)).alloc (.cells #[.slice (some ⟨w.heap.size,0,none⟩) N N,.slice none 0 0,.map (some (w.heap.size+1)),.bool false,.int .i64 0,.bool false,.int .i64 0,.int .i64 0] 136):=⟨_,rfl⟩;rw[<-e3];have hA:(w1.alloc (.map #[] 0)).heap.size=w.heap.size+1+1:=by simp[S1]
 have P3:Hid (w3.heap[w.heap.size+1+1]? =some (.cells #[.slice (some ⟨w.heap.size,0,none⟩) N N,.slice none 0 0,.map (some (w.heap.size+1)),.bool false,.int .i64 0,.bool false,.int .i64 0,.int .i64 0] 136 (0,0))):=by
  show _=_;rw[e3,<-hA];exact heap_alloc_new _ _
 have K3:Hid (∀k,k<w1.heap.size->w3.heap[k]? =w1.heap[k]?):=fun k hk=>by
  rw[e3];exact(Below.heap_alloc _ _ k (by rw[hA];omega)).trans (Below.heap_alloc _ _ k hk)
 have N3:Hid (w3.heap[w.heap.size+1]? =some (.map #[] 0)):=by
  show _=_;rw[e3,Below.heap_alloc _ _ _ (by rw[hA];omega),<-S1];exact heap_alloc_new _ _
 have S3:w3.heap.size=w.heap.size+3:=by rw[e3];simp[S1]
 have B3:Hid (Below w.heap.size w w3):=by show Below _ _ _;rw[e3];exact(B1.out.alloc (by omega) _).alloc (by rw[hA];omega) _
 clear e3 hA;have RC:Hid (Calls Tryz.prog 70 #[.string ⟨#[0]⟩,.int .i64 (256:Nat)] w3 fun e w'=>e=.returned (.string ⟨(Lib.repeatL [0] 256).toArray⟩)∧Below w3.heap.size w3 w'):=Tryz.strings_Repeat ⟨#[0]⟩ 256 w3 (by omega) (by show 1*256<=_;omega);refine Calls.mono RC.out ?_;rintro e w4 ⟨rfl,b4⟩;rw[vO];have B4:Hid (Below w3.heap.size w3 w4):=b4;have s4:w.heap.size+3<=w4.heap.size:=by rw[<-S3];exact b4.size
 have P4:Hid (w4.heap[w.heap.size+1+1]? =some (.cells #[.slice (some ⟨w.heap.size,0,none⟩) N N,.slice none 0 0,.map (some (w.heap.size+1)),.bool false,.int .i64 0,.bool false,.int .i64 0,.int .i64 0] 136 (0,0))):=(b4.block _ (by omega)).trans P3.out;have N4:Hid (w4.heap[w.heap.size+1]? =some (.map #[] 0)):=(b4.block _ (by omega)).trans N3.out;have Q4:Hid (w4.heap[w.heap.size]? =some (.cells ((dU N 0).map Value.string).toArray 9 (0,0))):=(b4.block _ (by omega)).trans ((K3.out _ (by omega)).trans Q1.out);have c0:w4.cell? ⟨w.heap.size+1+1,0,none⟩=some (.slice (some ⟨w.heap.size,0,none⟩) N N):=by simp[World.cell?,P4.out]
 have lt4:w.heap.size+1+1<w4.heap.size:=by omega
 clear b4 RC hmm hmk hmx;obtain⟨z,hz⟩:∃z,z=jT:=⟨_,rfl⟩;rw[<-hz];have HZ:Hid (z=jT):=hz;clear hz;go_wp2
 go_loopg [19] N (fun gk s19 wr=>∃t:Nat,s19=.int .i64 t∧t<=N∧N-t<=gk∧Aside (wr.heap[w.heap.size]? =some (.cells ((dU N t).map Value.string).toArray 9 (0,0)))∧Hid (iQ w.heap.size w4 wr))
 case atStart=>exact⟨0,rfl,Nat.zero_le _,Nat.le_refl _,Q4.out,iQ.refl _ _⟩
 case round=>
  obtain⟨t,rfl,ht,hgt,HQ,HO⟩:=hrel;have cr:wr.cell? ⟨w.heap.size+1+1,0,none⟩=some (.slice (some ⟨w.heap.size,0,none⟩) N N):=(World.cell?_of_block (a:=⟨w.heap.size+1+1,0,none⟩) (HO.out.block _ (by show w.heap.size+1+1≠w.heap.size;omega))).trans c0;have ltr:w.heap.size+1+1<wr.heap.size:=by rw[HO.out.size];exact lt4
  by_cases htl:t<N
  ·have htz:(t:Int)< (N:Int):=by omega
   have q0:wr.cell? ⟨w.heap.size,t,none⟩=some (.string (Fw (dU N t) t)):=by
    have hl:t< (dU N t).length:=by rw[tO ht];exact htl
    simp only[World.cell?,HQ.out];simp[Fw,hl]
   have qf:wr.frozen? ⟨w.heap.size,t,none⟩=false:=by simp[World.frozen?,HQ.out]
   have Hfs:Hid (dU N (t+1)=(dU N t).set t jT):=Ao htl;generalize Fw (dU N t) t=old at*;go_wp2
   go_roundg (N- (t+1))
   case measure=>omega
   case rel=>
    refine⟨t+1,by go_num,by omega,Nat.le_refl _,?_,HO.out.trans (iQ.setCell _ _ _ _)⟩;show _=_;rw[Hfs.out,HZ.out];simp[World.setCell,Array.getElem?_modify,HQ.out]
  ·have htz:¬(t:Int)< (N:Int):=by omega
   obtain rfl:t=N:=by omega
   have fin:Below w.heap.size w wr∧Mine (fun k=>w.heap.size<=k∧k<wr.heap.size) wr (w.heap.size+1+1) (Dk.new n):=by
    refine⟨B3.out.trans ⟨HO.out.os.trans B4.out.os,HO.out.tape.trans B4.out.tape,HO.out.output.trans B4.out.output,by rw[HO.out.size];omega,fun k hk=>(HO.out.block k (by omega)).trans (B4.out.block k (by omega))⟩,⟨w.heap.size+1,w.heap.size,.slice none 0 0,false,0,?_,by omega,by omega,by omega,fun k hk=>by simp[Value.ownBlock]at hk⟩,fun k hk=>hk.2⟩;have OK:=OKD.out;rw[HD.out]at OK⊢;refine⟨?_,?_,World.ownsRow_nil _ _ _ _,?_,fun _=>.inl ⟨rfl,rfl⟩,OK,by omega,by omega,by omega,by simp[Value.ownBlock],by simp[Value.ownBlock],by simp[Value.ownBlock]⟩
    ·rw[HO.out.block _ (by omega),P4.out];simp
    ·rw[HQ.out,Ap]
    ·rw[Ef];exact jU.empty ((HO.out.block _ (by omega)).trans N4.out)
   have FIN:Hid (Below w.heap.size w wr∧Mine (fun k=>w.heap.size<=k∧k<wr.heap.size) wr (w.heap.size+1+1) (Dk.new n)):=fin;clear fin HQ HO;go_wp2;go_ret;exact⟨_,rfl,FIN.out⟩
end
section
open Go.RowKit
def Goes (X:Nat->Prop)(w w':World)(b:Nat)(d':Dk):Prop:=∃X',Mine X' w' b d'∧df X w w'∧∀k,X' k->X k∨w.heap.size<=k
section
variable {X:Nat->Prop}{w w':World}{b m g:Nat}{pv pv':Value}{br:Bool}{lf:Int}{d d':Dk}
theorem Lv (hl:∀k,X k->k<w.heap.size)(hM:Ue w' b m g pv' d')(xb:X b)(xm:X m)(xg:X g)(hp:∀k,pv'.ownBlock=some k->X k∨w.heap.size<=k)(ht:df X w w'):Goes X w w' b d':=by
 obtain⟨br,lf,h⟩:=hM;refine⟨fun k=>X k∨(w.heap.size<=k∧k<w'.heap.size),⟨⟨m,g,pv',br,lf,h,.inl xb,.inl xm,.inl xg,fun k hk=>(hp k hk).elim .inl (fun h1=>.inr ⟨h1,(h.pk hk).1⟩)⟩,fun k hk=>?_⟩,ht,fun k hk=>hk.elim .inl (fun h=>.inr h.1)⟩;rcases hk with h1|h1
 ·exact Nat.lt_of_lt_of_le (hl k h1) ht.size
 ·exact h1.2
theorem df.sub {Y:Nat->Prop}(t:df Y w w')(h:∀k,Y k->X k):df X w w':=⟨t.os,t.tape,t.output,t.size,fun k hk hx=>t.block k hk (fun hy=>hx (h k hy))⟩
theorem Eh (h:Mine X w b d):Calls Tryz.prog 94 #[ptr b] w fun e w'=>e=.returned (.int .i64 d.sure.length)∧w=w':=by
 obtain⟨⟨m,g,pv,br,lf,hM,_⟩,_⟩:=h;exact uC hM
theorem Qf (h:Mine X w b d)(i:Int):Calls Tryz.prog 217 #[ptr b,.int .i64 i] w fun e w'=>e=.returned (.tuple #[.string (d.get i).1.1,.int .i64 (d.get i).1.2])∧Goes X w w' b (d.get i).2:=by
 obtain⟨⟨m,g,pv,br,lf,hM,xb,xm,xg,xp⟩,hl⟩:=h;refine(Qe hM i).mono ?_;rintro e w' ⟨he,ht,hm⟩;exact⟨he,Lv hl hm xb xm xg (fun k hk=>.inl (xp k hk)) (ht.sub (fun k hk=>by subst hk;exact xb))⟩
def One (B:Nat)(w0 w:World)(b:Nat)(d:Dk):Prop:=B<=w.heap.size∧Below B w0 w∧∃X,Mine X w b d∧∀k,X k->B<=k
end
end
section
open Go.RowKit
abbrev aN:=World->(Nat->Prop)->Prop
structure Good (r:aN):Prop where
 kept:∀w w' X,r w X->(∀k,X k->w'.heap[k]? =w.heap[k]?)->w.heap.size<=w'.heap.size->r w' X
 lt:∀w X,r w X->∀k,X k->k<w.heap.size
def Hp (w:World):List aN->(Nat->Prop)->Prop
 |[],Y=>∀k,¬Y k
 |r::l,Y=>Good r∧∃X Z,r w X∧Hp w l Z∧(∀k,X k->¬Z k)∧∀k,Y k↔X k∨Z k
def Sep (B:Nat)(w0 w:World)(l:List aN):Prop:=B<=w.heap.size∧Below B w0 w∧∃Y,Hp w l Y∧∀k,Y k->B<=k
theorem Hp.lt {w:World}:∀ {l:List aN} {Y:Nat->Prop},Hp w l Y->∀k,Y k->k<w.heap.size
 |[],_,h,k,hk=>absurd hk (h k)
 |r::l,_,⟨g,X,Z,hr,hl,_,hy⟩,k,hk=>by
  rcases(hy k).1 hk with h|h
  ·exact g.lt w X hr k h
  ·exact hl.lt k h
theorem Hp.kept {w w':World}(hs:w.heap.size<=w'.heap.size):∀ {l:List aN} {Y:Nat->Prop},Hp w l Y->(∀k,Y k->w'.heap[k]? =w.heap[k]?)->Hp w' l Y
 |[],_,h,_=>h
 |r::l,_,⟨g,X,Z,hr,hl,hd,hy⟩,hk=>⟨g,X,Z,g.kept w w' X hr (fun k h=>hk k ((hy k).2 (.inl h))) hs,hl.kept hs (fun k h=>hk k ((hy k).2 (.inr h))),hd,hy⟩
theorem Hp.swap {w:World}{a b:aN}{l:List aN}{Y:Nat->Prop}(h:Hp w (a::b::l) Y):Hp w (b::a::l) Y:=by
 obtain⟨ga,X,Z,ha,⟨gb,X2,Z2,hb,hl,hd2,hy2⟩,hd,hy⟩:=h;refine⟨gb,X2,fun k=>X k∨Z2 k,hb,⟨ga,X,Z2,ha,hl,fun k hk h2=>hd k hk ((hy2 k).2 (.inr h2)),fun k=>Iff.rfl⟩,fun k hk h2=>?_,fun k=>?_⟩
 ·rcases h2 with h2|h2
  ·exact hd k h2 ((hy2 k).2 (.inl hk))
  ·exact hd2 k hk h2
 ·rw[hy k,hy2 k];constructor
  ·rintro(h|h|h)
   ·exact .inr (.inl h)
   ·exact .inl h
   ·exact .inr (.inr h)
  ·rintro(h|h|h)
   ·exact .inr (.inl h)
   ·exact .inl h
   ·exact .inr (.inr h)
theorem Hp.under {w:World}{a:aN}{l l':List aN}{Y:Nat->Prop}(h:Hp w (a::l) Y)(f:∀Z,Hp w l Z->Hp w l' Z):Hp w (a::l') Y:=by
 obtain⟨ga,X,Z,ha,hl,hd,hy⟩:=h;exact⟨ga,X,Z,ha,f Z hl,hd,hy⟩
section
variable {B:Nat}{w0 w w':World}{a b c e:aN}{l:List aN}
theorem Sep.map {l l':List aN}(h:Sep B w0 w l)(f:∀Z,Hp w l Z->Hp w l' Z):Sep B w0 w l':=by
 obtain⟨hB,hb,Y,hl,hY⟩:=h;exact⟨hB,hb,Y,f Y hl,hY⟩
theorem Sep.rO (h:Sep B w0 w (a::b::l)):Sep B w0 w (b::a::l):=h.map fun _=>Hp.swap
theorem Sep.OE (h:Sep B w0 w (a::b::c::l)):Sep B w0 w (c::a::b::l):=(h.map fun _ h=>Hp.under h fun _=>Hp.swap).rO
theorem Sep.up3 (h:Sep B w0 w (a::b::c::e::l)):Sep B w0 w (e::a::b::c::l):=(h.map fun _ h=>Hp.under h fun _ h=>Hp.under h fun _=>Hp.swap).OE
theorem Sep.Ug (h:Sep B w0 w (c::a::b::l)):Sep B w0 w (a::b::c::l):=h.rO.map fun _ h=>Hp.under h fun _=>Hp.swap
theorem Sep.Zn (h:Sep B w0 w (e::a::b::c::l)):Sep B w0 w (a::b::c::e::l):=h.Ug.map fun _ h=>Hp.under h fun _ h=>Hp.under h fun _=>Hp.swap
theorem Sep.Xw {f:aN}(h:Sep B w0 w (f::a::b::c::e::l)):Sep B w0 w (a::b::c::e::f::l):=h.Zn.map fun _ h=>Hp.under h fun _ h=>Hp.under h fun _ h=>Hp.under h fun _=>Hp.swap
theorem Sep.Fx (h:Sep B w0 w l):Below B w0 w:=h.2.1
theorem Sep.below {l:List aN}(h:Sep B w0 w l)(hb:Below w.heap.size w w'):Sep B w0 w' l:=by
 obtain⟨hB,hb0,Y,hl,hY⟩:=h;exact⟨Nat.le_trans hB hb.size,hb0.trans (hb.mono hB),Y,hl.kept hb.size (fun k hk=>hb.block k (hl.lt k hk)),hY⟩
theorem Sep.alloc {l:List aN}(h:Sep B w0 w l)(o:Obj):Sep B w0 (w.alloc o) l:=h.below ((Below.refl _ _).alloc (Nat.le_refl _) o)
theorem Sep.drew {l:List aN}(h:Sep B w0 w l):Sep B w0 w.drew l:=h.below (Below.refl _ _).drew
theorem Sep.nil (hB:B<=w.heap.size)(hb:Below B w0 w):Sep B w0 w []:=⟨hB,hb,fun _=>False,fun _ h=>h,fun _ h=>h.elim⟩
theorem Sep.step {a':aN}(h:Sep B w0 w (a::l))(g':Good a')(f:∀X,a w X->∃X',a' w' X'∧df X w w'∧∀k,X' k->X k∨w.heap.size<=k):Sep B w0 w' (a'::l):=by
 obtain⟨hB,hb,Y,⟨ga,X,Z,ha,hl,hd,hy⟩,hY⟩:=h;obtain⟨X',ha',ht,hx⟩:=f X ha;have hlt:=hl.lt;refine⟨Nat.le_trans hB ht.size,ht.below hb hB (fun k hk=>hY k ((hy k).2 (.inl hk))),fun k=>X' k∨Z k,⟨g',X',Z,ha',hl.kept ht.size (fun k hk=>ht.block k (hlt k hk) (fun hx=>hd k hx hk)),fun k hk hz=>?_,fun k=>Iff.rfl⟩,fun k hk=>?_⟩
 ·rcases hx k hk with h1|h1
  ·exact hd k h1 hz
  ·have:=hlt k hz;omega
 ·rcases hk with h1|h1
  ·rcases hx k h1 with h2|h2
   ·exact hY k ((hy k).2 (.inl h2))
   ·omega
  ·exact hY k ((hy k).2 (.inr h1))
theorem Sep.add {a':aN}(h:Sep B w0 w l)(hb:Below w.heap.size w w')(g':Good a'){X:Nat->Prop}(ha:a' w' X)(hX:∀k,X k->w.heap.size<=k):Sep B w0 w' (a'::l):=by
 have h':=h.below hb;obtain⟨hB,_,Y,hl,hY⟩:=h;have hlt:=hl.lt;obtain⟨hB',hb',_⟩:=h';refine⟨hB',hb',fun k=>X k∨Y k,⟨g',X,Y,ha,hl.kept hb.size (fun k hk=>hb.block k (hlt k hk)),fun k hk hz=>?_,fun k=>Iff.rfl⟩,fun k hk=>?_⟩
 ·have:=hX k hk;have:=hlt k hz;omega
 ·rcases hk with h1|h1
  ·have:=hX k h1;omega
  ·exact hY k h1
end
def pF (b:Nat)(d:Dk):aN:=fun w X=>Mine X w b d
theorem nZ (b:Nat)(d:Dk):Good (pF b d):=
 ⟨fun w w' X h hk hs=>by
  obtain⟨⟨m,g,pv,br,lf,hM,xb,xm,xg,xp⟩,hl⟩:=h
  exact⟨⟨m,g,pv,br,lf,hM.kept (hk _ xb) (hk _ xm) (hk _ xg) (fun k h=>hk k (xp k h)),xb,xm,xg,xp⟩,fun k hk=>Nat.lt_of_lt_of_le (hl k hk) hs⟩,fun w X h=>h.2⟩
section
variable {B:Nat}{w0 w w':World}{b:Nat}{d d':Dk}{l:List aN}
theorem Sep.mine (h:Sep B w0 w (pF b d::l)):∃X,Mine X w b d:=by
 obtain⟨_,_,Y,⟨_,X,_,ha,_⟩,_⟩:=h;exact⟨X,ha⟩
theorem Sep.ok (h:Sep B w0 w (pF b d::l)):d.Ok:=by
 obtain⟨X,⟨m,g,pv,br,lf,hM,_⟩,_⟩:=h.mine;exact hM.ok
theorem Calls.Lx {P:Program}{f:Nat}{args:Array Value}{Q:Ending->World->Prop}{v:Value}(h:Sep B w0 w (pF b d::l))(hQ:∀X,Mine X w b d->Calls P f args w (fun e w'=>e=.returned v∧Goes X w w' b d')):Calls P f args w fun e w'=>e=.returned v∧Sep B w0 w' (pF b d'::l):=by
 obtain⟨hB,hb,Y,⟨ga,X,Z,ha,hl,hd,hy⟩,hY⟩:=h;refine(hQ X ha).mono ?_;rintro e w' ⟨he,X',hm,ht,hx⟩;refine⟨he,Nat.le_trans hB ht.size,ht.below hb hB (fun k hk=>hY k ((hy k).2 (.inl hk))),fun k=>X' k∨Z k,⟨nZ b d',X',Z,hm,hl.kept ht.size (fun k hk=>ht.block k (hl.lt k hk) (fun hx=>hd k hx hk)),fun k hk hz=>?_,fun k=>Iff.rfl⟩,fun k hk=>?_⟩
 ·rcases hx k hk with h1|h1
  ·exact hd k h1 hz
  ·have:=hl.lt k hz;omega
 ·rcases hk with h1|h1
  ·rcases hx k h1 with h2|h2
   ·exact hY k ((hy k).2 (.inl h2))
   ·omega
  ·exact hY k ((hy k).2 (.inr h1))
theorem Uh (n:Int)(h:Sep B w0 w l):Calls Tryz.prog 38 #[.int .i64 n] w fun e w'=>∃b,e=.returned (ptr b)∧Sep B w0 w' (pF b (Dk.new n)::l):=by
 refine(Uf n w).mono ?_;rintro e w' ⟨b,he,hbl,hm⟩;exact⟨b,he,h.add hbl (nZ _ _) hm (fun k hk=>hk.1)⟩
theorem Ei (h:Sep B w0 w (pF b d::l)):Calls Tryz.prog 94 #[ptr b] w fun e w'=>e=.returned (.int .i64 d.sure.length)∧w=w':=by obtain⟨X,hm⟩:=h.mine;exact Eh hm
theorem Qg (h:Sep B w0 w (pF b d::l))(i:Int):Calls Tryz.prog 217 #[ptr b,.int .i64 i] w fun e w'=>e=.returned (.tuple #[.string (d.get i).1.1,.int .i64 (d.get i).1.2])∧Sep B w0 w' (pF b (d.get i).2::l):=Calls.Lx (Q:=fun _ _=>True) h fun _ hm=>Qf hm i
end
def aR (e:TypeId)(v:Value)(cs:List Value):aN:=fun w X=>w.ownsRow 0 e 1 v cs.length cs∧∀k,X k↔v.ownBlock=some k
theorem good_row (e:TypeId)(v:Value)(cs:List Value):Good (aR e v cs):=
 ⟨fun w w' X h hk _=>⟨gj h.1 (fun k hk'=>hk k ((h.2 k).2 hk')),h.2⟩,fun w X h k hk=>(h.1.lt k ((h.2 k).1 hk)).2⟩
section
variable {B:Nat}{w0 w w':World}{l:List aN}{e:TypeId}{v:Value}{cs:List Value}
theorem Sep.rP (h:Sep B w0 w l)(e:TypeId):Sep B w0 w (aR e (.slice none 0 0) []::l):=
 h.add (Below.refl _ _) (good_row _ _ _) (X:=fun _=>False) ⟨by simpa using World.ownsRow_nil w 0 e 1,fun k=>by simp[Value.ownBlock]⟩ (fun _ h=>h.elim)
theorem Sep.row (h:Sep B w0 w (aR e v cs::l)):w.ownsRow 0 e 1 v cs.length cs:=by
 obtain⟨_,_,Y,⟨_,X,_,ha,_⟩,_⟩:=h;exact ha.1
theorem Sep.cell (h:Sep B w0 w (aR e v cs::l)){j:Nat}(hj:j<cs.length):∃r c,v=.slice (some ⟨r,0,none⟩) cs.length c∧cs.length<=c∧r<w.heap.size∧w.cell? ⟨r,j,none⟩=cs[j]? ∧w.frozen? ⟨r,j,none⟩=false:=by
 have hr:=h.row;rcases hr.2 with⟨_,h2⟩| ⟨g,cap,cur,h1,_,hg,hc,_⟩
 ·omega
 ·rw[h1]at hr;exact⟨g,cap,h1,hc,(Array.getElem?_eq_some_iff.1 hg).1,hr.cellAt j (by omega),hr.frozenAt j⟩
theorem Sep.shape (h:Sep B w0 w (aR e v cs::l)):∃ao c,v=.slice ao cs.length c:=by
 rcases h.row.2 with⟨h1,h2⟩| ⟨g,cap,cur,h1,_⟩
 ·exact⟨none,0,by rw[h1,h2]⟩
 ·exact⟨_,_,h1⟩
end
theorem mK:(Tryz.prog.info? 9).map (fun i=>(i.zero,i.size,i.bytes))=some (some (.string ByteArray.empty),1,16):=by kernel_rfl
theorem pV:(Tryz.prog.info? 3).map (fun i=>(i.zero,i.size,i.bytes))=some (some (.int .i64 0),1,8):=by kernel_rfl
section
variable {ops:Array Oper}{rest:List Oper}{o:Oper}{a:Act}{Q:Exit->Act->World->Prop}{B:Nat}{w0 w:World}{l:List aN}
theorem Sep.appended {e:TypeId}{v v':Value}{cs:List Value}{u:Value}{w':World}(h:Sep B w0 w (aR e v cs::l))(h2:w'.ownsRow 0 e 1 v' (cs.length+1) (cs++[u]))(hg:w.grownBy w' v.ownBlock)(hloc:v'.ownBlock=v.ownBlock∨v'.ownBlock=some w.heap.size):Sep B w0 w' (aR e v' (cs++[u])::l):=by
 refine h.step (good_row _ _ _) fun X hX=>⟨fun k=>v'.ownBlock=some k,⟨by rw[List.length_append];exact h2,fun k=>Iff.rfl⟩,df.grown hg (fun k hk=>(hX.2 k).2 hk),fun k hk=>?_⟩;rcases hloc with e1|e1
 ·exact .inl ((hX.2 k).2 (e1▸hk))
 ·rw[e1]at hk;exact .inr (Nat.le_of_eq (Option.some.inj hk))
theorem yf {e:TypeId}{v:Value}{n:Nat}{cs:List Value}(h:w.ownsRow 0 e 1 v n cs):∃ao c,v=.slice ao n c:=by
 rcases h.2 with⟨h1,h2⟩| ⟨g,cap,cur,h1,_⟩
 ·exact⟨none,0,by rw[h1,h2]⟩
 ·exact⟨_,_,h1⟩
theorem Lz (hgd:o.guard=.none)(s x:Operand)(ho:o.op=.call {callee:=.builtin .append,args:=#[s,x],argTypes:=#[54,54]})(v:Value)(cs:List Value)(hs:a.eval s=v)(h:Sep B w0 w (aR 9 v cs::l))
  (r c:Nat)(t:ByteArray)(hx:a.eval x=.slice (some ⟨r,0,none⟩) 1 c)(c0:w.cell? ⟨r,0,none⟩=some (.string t))(hl:cs.length<100000)
  (hK:∀ao n' c' w',Sep B w0 w' (aR 9 (.slice ao n' c') (cs++[.string t])::l)->wpList Tryz.prog ops Q rest (a.put o.dst (.slice ao n' c')) w'):wpList Tryz.prog ops Q (o::rest) a w:=by
 obtain⟨i0,hi,hz0,hz1,hz2⟩:=info_parts mK;refine wpList_append_own_at w hgd s x 54 ho 0 9 i0 _ 1 16 Tryz.underlying54 hi hz0 hz1 hz2 rfl (by decide) v cs.length cs hs h.row ⟨r,0,none⟩ 1 c [.string t] hx rfl (fun j u hj=>?_) (fun u hu=>by simp at hu;subst hu;rfl) (by unfold maxLen;omega) (by omega) (Nat.zero_le _) ?_
 ·match j,hj with
  |0,hj=>simp at hj;subst hj;exact c0
  |j+1,hj=>simp at hj
 ·intro v' w' h2 h3 _ h5;obtain⟨ao,c',rfl⟩:=yf h2;exact hK _ _ _ _ (h.appended h2 h3 h5)
theorem mL (hgd:o.guard=.none)(s x:Operand)(ho:o.op=.call {callee:=.builtin .append,args:=#[s,x],argTypes:=#[93,93]})(v:Value)(cs:List Value)(hs:a.eval s=v)(h:Sep B w0 w (aR 3 v cs::l))
  (r c:Nat)(t:Int)(hx:a.eval x=.slice (some ⟨r,0,none⟩) 1 c)(c0:w.cell? ⟨r,0,none⟩=some (.int .i64 t))(hl:cs.length<100000)
  (hK:∀ao n' c' w',Sep B w0 w' (aR 3 (.slice ao n' c') (cs++[.int .i64 t])::l)->wpList Tryz.prog ops Q rest (a.put o.dst (.slice ao n' c')) w'):wpList Tryz.prog ops Q (o::rest) a w:=by
 obtain⟨i0,hi,hz0,hz1,hz2⟩:=info_parts pV;refine wpList_append_own_at w hgd s x 93 ho 0 3 i0 _ 1 8 Tryz.underlying93 hi hz0 hz1 hz2 rfl (by decide) v cs.length cs hs h.row ⟨r,0,none⟩ 1 c [.int .i64 t] hx rfl (fun j u hj=>?_) (fun u hu=>by simp at hu;subst hu;rfl) (by unfold maxLen;omega) (by omega) (Nat.zero_le _) ?_
 ·match j,hj with
  |0,hj=>simp at hj;subst hj;exact c0
  |j+1,hj=>simp at hj
 ·intro v' w' h2 h3 _ h5;obtain⟨ao,c',rfl⟩:=yf h2;exact hK _ _ _ _ (h.appended h2 h3 h5)
end
end
section
open Go.RowKit
structure Up (n:Nat)(d:Dk):Prop where
 dn:d.down=false
 br:d.brk=none
 sl:d.sure.length=n
end
section
open Go.RowKit
theorem Sep.drewN {B:Nat}{w0 w:World}{l:List aN}(h:Sep B w0 w l)(n:Nat):Sep B w0 (w.drewN n) l:=h.below ⟨rfl,rfl,rfl,Nat.le_refl _,fun _ _=>rfl⟩
end
section
open Go.RowKit
def Both (r s:aN):aN:=fun w X=>∃X1 X2,r w X1∧s w X2∧(∀k,X1 k->¬X2 k)∧∀k,X k↔X1 k∨X2 k
theorem aO {r s:aN}(gr:Good r)(gs:Good s):Good (Both r s):=
 ⟨fun w w' X ⟨X1,X2,h1,h2,hd,hx⟩ hk hs=>⟨X1,X2,gr.kept w w' X1 h1 (fun k h=>hk k ((hx k).2 (.inl h))) hs,gs.kept w w' X2 h2 (fun k h=>hk k ((hx k).2 (.inr h))) hs,hd,hx⟩,
  fun w X ⟨X1,X2,h1,h2,_,hx⟩ k hk=>((hx k).1 hk).elim (gr.lt w X1 h1 k) (gs.lt w X2 h2 k)⟩
theorem Hp.join {w:World}{r s:aN}{l:List aN}{Y:Nat->Prop}(h:Hp w (r::s::l) Y):Hp w (Both r s::l) Y:=by
 obtain⟨gr,X1,Z1,hr,⟨gs,X2,Z2,hs,hl,hd2,hy2⟩,hd1,hy1⟩:=h;refine⟨aO gr gs,fun k=>X1 k∨X2 k,Z2,⟨X1,X2,hr,hs,fun k h1 h2=>hd1 k h1 ((hy2 k).2 (.inl h2)),fun _=>Iff.rfl⟩,hl,fun k hk hz=>?_,fun k=>?_⟩
 ·rcases hk with h1|h1
  ·exact hd1 k h1 ((hy2 k).2 (.inr hz))
  ·exact hd2 k h1 hz
 ·rw[hy1 k,hy2 k,or_assoc]
theorem Hp.part {w:World}{r s:aN}{l:List aN}{Y:Nat->Prop}(gr:Good r)(gs:Good s)(h:Hp w (Both r s::l) Y):Hp w (r::s::l) Y:=by
 obtain⟨_,X,Z,⟨X1,X2,hr,hs,hd,hx⟩,hl,hdz,hy⟩:=h;refine⟨gr,X1,fun k=>X2 k∨Z k,hr,⟨gs,X2,Z,hs,hl,fun k h1 h2=>hdz k ((hx k).2 (.inr h1)) h2,fun _=>Iff.rfl⟩,fun k h1 h2=>?_,fun k=>?_⟩
 ·rcases h2 with h2|h2
  ·exact hd k h1 h2
  ·exact hdz k ((hx k).2 (.inl h1)) h2
 ·rw[hy k,hx k,or_assoc]
theorem Sep.join {B:Nat}{w0 w:World}{r s:aN}{l:List aN}(h:Sep B w0 w (r::s::l)):Sep B w0 w (Both r s::l):=h.map fun _=>Hp.join
def ax (q:Nat)(o:Obj):aN:=fun w X=>w.heap[q]? =some o∧∀k,X k↔k=q
theorem aT (q:Nat)(o:Obj):Good (ax q o):=
 ⟨fun w w' X h hk _=>⟨(hk q ((h.2 q).2 rfl)).trans h.1,h.2⟩,fun w X h k hk=>by rw[(h.2 k).1 hk];exact(Array.getElem?_eq_some_iff.1 h.1).1⟩
theorem Sep.aQ {B:Nat}{w0 w:World}{l:List aN}(h:Sep B w0 w l)(o:Obj):Sep B w0 (w.alloc o) (ax w.heap.size o::l):=
 h.add ((Below.refl _ _).alloc (Nat.le_refl _) _) (aT _ _) (X:=fun k=>k=w.heap.size) ⟨heap_alloc_new w o,fun _=>Iff.rfl⟩ (fun k hk=>Nat.le_of_eq hk.symm)
theorem Sep.blk {B:Nat}{w0 w:World}{l:List aN}{q:Nat}{o:Obj}(h:Sep B w0 w (ax q o::l)):w.heap[q]? =some o:=by
 obtain⟨_,_,Y,⟨_,X,_,ha,_⟩,_⟩:=h;exact ha.1
theorem Sep.drop {B:Nat}{w0 w:World}{l:List aN}{a:aN}(h:Sep B w0 w (a::l)):Sep B w0 w l:=by
 obtain⟨hB,hb,Y,⟨_,X,Z,_,hl,_,hy⟩,hY⟩:=h;exact⟨hB,hb,Z,hl,fun k hk=>hY k ((hy k).2 (.inr hk))⟩
theorem Sep.Qh {B:Nat}{w0 w:World}{l:List aN}(h:Sep B w0 w l)(e:TypeId)(cs:List Value)(n:Nat)(hn:cs.length=n)(hm:n<=1000):Sep B w0 (w.alloc (.cells cs.toArray e)) (aR e (.slice (some ⟨w.heap.size,0,none⟩) n n) cs::l):=by
 subst hn;exact h.add ((Below.refl _ _).alloc (Nat.le_refl _) _) (good_row _ _ _) (X:=fun k=>k=w.heap.size) ⟨World.ownsRow_lit w _ cs.length (Nat.zero_le _) (by unfold maxLen;omega) (by simp),fun k=>by simp[Value.ownBlock,eq_comm]⟩ (fun k hk=>Nat.le_of_eq hk.symm)
def Zo (l:List Bool)(i:Nat):Bool:=l.getD i false
def kAt (l:List UInt8)(i:Nat):UInt8:=l.getD i 0
end
end
section
section
open Go.RowKit
def tP (d:Dk)(id:Int):Bool:=decide (2<=id∧id<d.sure.length)
def rQ (kind:UInt8)(o:UInt8×List UInt8×Int):ByteArray×Int:=if o.2.2=0∧o.1=kind then(⟨o.2.1.toArray⟩,0)else(ByteArray.empty,3)
def Dk.rd (d:Dk)(id:Int)(kind:UInt8):(ByteArray×Int)×Dk:=
 if tP d id then(if(d.get id).1.2=0 then rQ kind (opn id (d.get id).1.1.data.toList)else(ByteArray.empty,(d.get id).1.2),(d.get id).2)else((ByteArray.empty,40),d)
def Ui (id:Int)(kind:UInt8)(b:ByteArray):ByteArray:=⟨(cJ id.toNat kind b.data.toList).toArray⟩
def Dk.room (d:Dk):Nat:=max d.sure.length 2
end
section
open Go.RowKit
def uE (b:Nat):Obj:=.cells #[ptr b] 128 (0,0)
def File (f b:Nat)(d:Dk):aN:=Both (pF b d) (ax f (uE b))
def cd (B:Nat)(w0:World):Prop:=∀u,Below B w0 u->uv u
theorem LA {w:World}(h:uv w):cd w.heap.size w:=fun _ hu=>h.below hu
section
variable {B:Nat}{w0 w w':World}{f b:Nat}{d d':Dk}{l:List aN}
theorem Sep.part (h:Sep B w0 w (File f b d::l)):Sep B w0 w (pF b d::ax f (uE b)::l):=h.map fun _=>Hp.part (nZ _ _) (aT _ _)
theorem Sep.OG (h:Sep B w0 w (File f b d::l)):w.cell? ⟨f,0,none⟩=some (ptr b)∧f<w.heap.size:=by
 have hb:=h.part.rO.blk;exact⟨by simp[World.cell?,hb,uE],(Array.getElem?_eq_some_iff.1 hb).1⟩
theorem Sep.Zp (h:Sep B w0 w (File f b d::l)):d.Ok:=h.part.ok
theorem rR (ok:d.Ok){i:Nat}(hi:i<d.sure.length):∀n,n<=d.pend.length->(uA d.sure d.pend i n).size=256
 |0,_=>GG ok.sz hi
 |n+1,hn=>by
  rw[rL];split
  ·exact(Qc ok (by omega)).2
  ·exact rR ok hi n (by omega)
theorem Dk.GI (ok:d.Ok)(i:Int):(d.get i).1.1.size<=maxLen:=by
 unfold Dk.get;split
 ·unfold maxLen;simp
 ·split
  ·rename_i h
   have:=of_decide_eq_true h;show(d.now i.toNat).size<=maxLen;unfold Dk.now;rw[rR ok (by omega) _ (Nat.le_refl _)];decide
  ·unfold maxLen;simp
theorem Uj (h:Sep B w0 w (pF b d::l)):Calls Tryz.prog 37 #[ptr b] w fun e w'=>∃f,e=.returned (ptr f)∧Sep B w0 w' (File f b d::l):=by
 have S1:Hid (Sep B w0 (w.alloc (uE b)) (File w.heap.size b d::l)):=(h.aQ (uE b)).rO.join;unfold uE at S1;clear h;go_enter Tryz.func37,Tryz.ntmps37;go_wp2;go_ret;exact⟨_,rfl,S1.out⟩
theorem Aq (h:Sep B w0 w (File f b d::l)):Calls Tryz.prog 68 #[ptr f] w fun e w'=>e=.returned (.int .i64 d.room)∧w=w':=by
 obtain⟨c0,hf⟩:=h.OG;have C:Hid _:=Ei h.part;have hl:Hid (d.sure.length<=16384):=h.Zp.len;clear h;go_enter Tryz.func68,Tryz.ntmps68
 go_wp2_with fail
 refine Calls.mono C.out ?_;rintro e w1 ⟨rfl,rfl⟩;clear C;go_wp2;go_ret;exact⟨gI (by unfold Dk.room;omega),rfl⟩
theorem Ej (h:Sep B w0 w (File f b d::l))(id:Int):Calls Tryz.prog 216 #[ptr f,.int .i64 id] w fun e w'=>e=.returned (.bool (tP d id))∧w=w':=by
 have C:Hid _:=Aq h;clear h;by_cases h2:2<=id
 ·have E:Hid (decide (id< (d.room:Int))=tP d id):=by
   show _=_;unfold tP Dk.room;rw[decide_eq_decide];omega
  generalize tP d id=y at E;generalize d.room=R at*;go_enter Tryz.func216,Tryz.ntmps216
  go_wp2_with fail
  refine Calls.mono C.out ?_;rintro e w1 ⟨rfl,rfl⟩;clear C;go_wp2;go_ret;exact⟨fL E.out,rfl⟩
 ·have E:Hid (tP d id=false):=by
   show _=_;unfold tP;rw[decide_eq_false_iff_not];omega
  go_enter Tryz.func216,Tryz.ntmps216;go_wp2;go_ret;exact⟨fL E.out.symm,rfl⟩
theorem yg (kind:UInt8)(id:Int)(s:List UInt8):((opn id s).2.2≠0∧rQ kind (opn id s)=(ByteArray.empty,3)∧opn id s=(0,[],3))∨
  ((opn id s).2.2=0∧(opn id s).1≠kind∧rQ kind (opn id s)=(ByteArray.empty,3))∨((opn id s).2.2=0∧(opn id s).1=kind∧rQ kind (opn id s)=(⟨(opn id s).2.1.toArray⟩,0)):=by
 unfold rQ;by_cases h:(opn id s).2.2=0
 ·by_cases hk:(opn id s).1=kind
  ·exact .inr (.inr ⟨h,hk,by rw[if_pos ⟨h,hk⟩]⟩)
  ·exact .inr (.inl ⟨h,hk,by rw[if_neg (fun c=>hk c.2)]⟩)
 ·exact .inl ⟨h,by rw[if_neg (fun c=>h c.1)],Lg h⟩
theorem LB {a b:UInt8}(h:a≠b):((a.toNat:Int)==(b.toNat:Int))=false:=by
 rw[beq_eq_false_iff_ne];intro e;exact h (UInt8.toNat_inj.1 (by omega))
theorem Qi (T:cd B w0)(h:Sep B w0 w (File f b d::l))(id:Int)(kind:UInt8):
  Calls Tryz.prog 182 #[ptr f,.int .i64 id,.int .u8 (kind.toNat:Int)] w fun e w'=>e=.returned (.tuple #[.string (d.rd id kind).1.1,.int .i64 (d.rd id kind).1.2])∧Sep B w0 w' (File f b (d.rd id kind).2::l):=by
 have Ts:=Ej h id;have HS:Hid (Sep B w0 w (File f b d::l)):=h;obtain⟨c0,hf⟩:=h.OG;cases hp:tP d id with
 |false=>
  rw[hp]at Ts;have CH:Hid _:=Ts;have E:Hid (d.rd id kind=((ByteArray.empty,40),d)):=by show _=_;unfold Dk.rd;rw[hp];rfl
  rw[E.out];clear h Ts hp;go_enter Tryz.func182,Tryz.ntmps182
  go_wp2_with fail
  refine Calls.mono CH.out ?_;rintro e w1 ⟨rfl,rfl⟩;clear CH;go_wp2;go_ret2;exact⟨rfl,HS.out⟩
 |true=>
  rw[hp]at Ts;have CH:Hid _:=Ts;have Tt:=Qg h.part id;have hz:=Dk.GI h.Zp id;have E:d.rd id kind=(if(d.get id).1.2=0 then rQ kind (opn id (d.get id).1.1.data.toList)else(ByteArray.empty,(d.get id).1.2),(d.get id).2):=by unfold Dk.rd;rw[hp];rfl
  rw[E];clear h Ts hp E HS;generalize(d.get id).1.1=s at*;generalize(d.get id).1.2=er at*;generalize(d.get id).2=d2 at*;have CR:Hid _:=Tt;clear Tt;by_cases he:er=0
  ·subst he;rw[if_pos rfl];have CO:Hid (∀u,uv u->_):=fun u hu=>Gc id s u hu hz;rcases yg kind id s.data.toList with⟨h1,h2,h3⟩| ⟨h1,h2,h3⟩| ⟨h1,h2,h3⟩
   ·rw[h2];rw[h3]at CO;clear h1 h2 h3;go_enter Tryz.func182,Tryz.ntmps182
    go_wp2_with fail
    refine Calls.mono CH.out ?_;rintro e w1 ⟨rfl,rfl⟩;clear CH
    go_wp2_with fail
    refine Calls.mono CR.out ?_;rintro e w2 ⟨rfl,s2⟩;have S2:Hid (Sep B w0 w2 (File f b d2::l)):=s2.join;have C3:Hid _:=CO.out w2 (T w2 s2.Fx);clear CR s2 CO
    go_wp2_with fail
    refine Calls.mono C3.out ?_;rintro e w3 ⟨rfl,b3⟩;have S3:Hid (Sep B w0 w3 (File f b d2::l)):=S2.out.below b3;clear b3 C3 S2;go_wp2;go_ret2;exact⟨rfl,S3.out⟩
   ·rw[h3];have hne:=LB h2;rw[h1]at CO;clear h1 h2 h3;generalize(opn id s.data.toList).1.toNat=K at*;generalize(opn id s.data.toList).2.1.toArray=bo at*;go_enter Tryz.func182,Tryz.ntmps182
    go_wp2_with fail
    refine Calls.mono CH.out ?_;rintro e w1 ⟨rfl,rfl⟩;clear CH
    go_wp2_with fail
    refine Calls.mono CR.out ?_;rintro e w2 ⟨rfl,s2⟩;have S2:Hid (Sep B w0 w2 (File f b d2::l)):=s2.join;have C3:Hid _:=CO.out w2 (T w2 s2.Fx);clear CR s2 CO
    go_wp2_with fail
    refine Calls.mono C3.out ?_;rintro e w3 ⟨rfl,b3⟩;have S3:Hid (Sep B w0 w3 (File f b d2::l)):=S2.out.below b3;clear b3 C3 S2;go_wp2;go_ret2;exact⟨rfl,S3.out⟩
   ·rw[h3];rw[h1,h2]at CO;clear h1 h2 h3;generalize(opn id s.data.toList).2.1.toArray=bo at*;go_enter Tryz.func182,Tryz.ntmps182
    go_wp2_with fail
    refine Calls.mono CH.out ?_;rintro e w1 ⟨rfl,rfl⟩;clear CH
    go_wp2_with fail
    refine Calls.mono CR.out ?_;rintro e w2 ⟨rfl,s2⟩;have S2:Hid (Sep B w0 w2 (File f b d2::l)):=s2.join;have C3:Hid _:=CO.out w2 (T w2 s2.Fx);clear CR s2 CO
    go_wp2_with fail
    refine Calls.mono C3.out ?_;rintro e w3 ⟨rfl,b3⟩;have S3:Hid (Sep B w0 w3 (File f b d2::l)):=S2.out.below b3;clear b3 C3 S2;go_wp2;go_ret2;exact⟨rfl,S3.out⟩
  ·rw[if_neg he];have hne:(er != 0)=true:=by rw[bne_iff_ne];exact he
   clear he;go_enter Tryz.func182,Tryz.ntmps182
   go_wp2_with fail
   refine Calls.mono CH.out ?_;rintro e w1 ⟨rfl,rfl⟩;clear CH
   go_wp2_with fail
   refine Calls.mono CR.out ?_;rintro e w2 ⟨rfl,s2⟩;have S2:Hid (Sep B w0 w2 (File f b d2::l)):=s2.join;clear CR s2;go_wp2;go_ret2;exact⟨rfl,S2.out⟩
end
end
section
open Go.RowKit
def zs (s:ByteArray)(n:Nat):ByteArray:=⟨(s.data.toList++List.replicate n 0).toArray⟩
def ab:ByteArray:=⟨#[97,98]⟩
structure A1 where
 k:Int
 i:Int
 kd:UInt8
 s:ByteArray
def a0:A1:=⟨0,0,0,ByteArray.empty⟩
end
section
open Go.RowKit
structure Zq (d:Dk)(kinds:List UInt8)(bodies:List ByteArray)(there:List Bool):Prop where
 kl:kinds.length=12
 bl:bodies.length=12
 tl:there.length=12
 yes:∀j,2<=j->j<12->Zo there j=true->d.now j=Ui j (kAt kinds j) (Fw bodies j)∧(Fw bodies j).size<=240
 no:∀j,2<=j->j<12->Zo there j=false->d.now j=jT
end
end
section
open Go.RowKit
def dD (v:Int):Bool:=decide (0<=v∧v<1048576)
def zT (v:Int):Int:=if dD v=true then 0 else 30
theorem lM (v:Int)(w:World):Calls Tryz.prog 92 #[.int .i64 v] w fun e w'=>e=.returned (.int .i64 (zT v))∧w=w':=by
 by_cases h1:v<0
 ·have E:Hid (zT v=30):=by
   have:dD v=false:=by simp[dD];omega
   simp[Hid,zT,this]
  go_enter Tryz.func92,Tryz.ntmps92;go_wp2;go_ret;exact⟨gI E.out.symm,rfl⟩
 ·by_cases h2:1048576<=v
  ·have E:Hid (zT v=30):=by
    have:dD v=false:=by simp[dD];omega
    simp[Hid,zT,this]
   go_enter Tryz.func92,Tryz.ntmps92;go_wp2;go_ret;exact⟨gI E.out.symm,rfl⟩
  ·have E:Hid (zT v=0):=by
    have:dD v=true:=by simp[dD];omega
    simp[Hid,zT,this]
   go_enter Tryz.func92,Tryz.ntmps92;go_wp2;go_ret;exact⟨gI E.out.symm,rfl⟩
theorem rS (u v:Int)(w:World):Calls Tryz.prog 71 #[.int .i64 u,.int .i64 v] w fun e w'=>e=.returned (.bool (dD u&&dD v))∧w=w':=by
 have VU:Aside (∀w,Calls Tryz.prog 92 #[.int .i64 u] w fun e w'=>e=.returned (.int .i64 (zT u))∧w=w'):=fun w=>lM u w;have VV:Aside (∀w,Calls Tryz.prog 92 #[.int .i64 v] w fun e w'=>e=.returned (.int .i64 (zT v))∧w=w'):=fun w=>lM v w;have eu:zT u=if dD u=true then 0 else 30:=rfl;have ev:zT v=if dD v=true then 0 else 30:=rfl;rw[eu]at VU;rw[ev]at VV;clear eu ev;cases hu:dD u
 ·rw[hu]at VU;simp only[Bool.false_eq_true,if_false]at VU;go_enter Tryz.func71,Tryz.ntmps71
  go_wp2_with fail
  refine Calls.mono (VU.out _) ?_;rintro e w' ⟨rfl,rfl⟩;go_wp2;go_ret;exact⟨fL (by simp),rfl⟩
 ·rw[hu]at VU;simp only[if_true]at VU;cases hv:dD v
  ·rw[hv]at VV;simp only[Bool.false_eq_true,if_false]at VV;go_enter Tryz.func71,Tryz.ntmps71
   go_wp2_with fail
   refine Calls.mono (VU.out _) ?_;rintro e w' ⟨rfl,rfl⟩
   go_wp2_with fail
   refine Calls.mono (VV.out _) ?_;rintro e w' ⟨rfl,rfl⟩;go_wp2;go_ret;exact⟨fL (by simp),rfl⟩
  ·rw[hv]at VV;simp only[if_true]at VV;go_enter Tryz.func71,Tryz.ntmps71
   go_wp2_with fail
   refine Calls.mono (VU.out _) ?_;rintro e w' ⟨rfl,rfl⟩
   go_wp2_with fail
   refine Calls.mono (VV.out _) ?_;rintro e w' ⟨rfl,rfl⟩;go_wp2;go_ret;exact⟨fL (by simp),rfl⟩
def cf (u v:Int):Int×Int:=if(dD u&&dD v)=true∧u≠v then(min u v,max u v)else(0,0)
def dR (u v:Int):Int:=if(dD u&&dD v)=true then(if u=v then 31 else 0)else 30
theorem mM (u v:Int)(w:World):Calls Tryz.prog 41 #[.int .i64 u,.int .i64 v] w fun e w'=>e=.returned (.tuple #[.agg #[.int .i64 (cf u v).1,.int .i64 (cf u v).2],.int .i64 (dR u v)])∧Below w.heap.size w w':=by
 have A:Aside (∀w,Calls Tryz.prog 71 #[.int .i64 u,.int .i64 v] w fun e w'=>e=.returned (.bool (dD u&&dD v))∧w=w'):=fun w=>rS u v w;cases hv:(dD u&&dD v)
 ·have E1:Hid (cf u v=(0,0)):=by simp[Hid,cf,hv]
  have E2:Hid (dR u v=30):=by simp[Hid,dR,hv]
  rw[hv]at A;clear hv;go_enter Tryz.func41,Tryz.ntmps41
  go_wp2_with (go_at_call 71;refine Calls.mono (A.out _) ?_;rintro e w' ⟨rfl,rfl⟩)
  (try simp only[Exit.inBlock,Exit.then])
  refine bodyPost_ret (v:=.tuple #[.agg #[.int .i64 0,.int .i64 0],.int .i64 30]) ?_ rfl ⟨?_,?_⟩
  ·rw[results_cell_tmp rfl];go_simp
  ·rw[E1.out,E2.out]
  ·exact(Below.refl _ _).alloc (Nat.le_refl _) _
 ·by_cases he:u=v
  ·subst he;have E1:Hid (cf u u=(0,0)):=by simp[Hid,cf]
   have E2:Hid (dR u u=31):=by show dR u u=31;unfold dR;rw[if_pos hv,if_pos rfl]
   rw[hv]at A;clear hv;go_enter Tryz.func41,Tryz.ntmps41
   go_wp2_with (go_at_call 71;refine Calls.mono (A.out _) ?_;rintro e w' ⟨rfl,rfl⟩)
   (try simp only[Exit.inBlock,Exit.then])
   refine bodyPost_ret (v:=.tuple #[.agg #[.int .i64 0,.int .i64 0],.int .i64 31]) ?_ rfl ⟨?_,?_⟩
   ·rw[results_cell_tmp rfl];go_simp
   ·rw[E1.out,E2.out]
   ·exact(Below.refl _ _).alloc (Nat.le_refl _) _
  ·have hb:(u==v)=false:=beq_eq_false_iff_ne.2 he;have E2:Hid (dR u v=0):=by simp[Hid,dR,hv,he]
   have E1:Hid (cf u v=(min u v,max u v)):=by show cf u v=_;unfold cf;rw[if_pos ⟨hv,he⟩]
   rw[hv]at A;clear hv;by_cases hl:u<v
   ·have hl2:¬v<u:=by omega
    have E3:Hid (min u v=u∧max u v=v):=⟨by omega,by omega⟩;clear he;go_enter Tryz.func41,Tryz.ntmps41
    go_wp2_with (go_at_call 71;refine Calls.mono (A.out _) ?_;rintro e w' ⟨rfl,rfl⟩)
    (try simp only[Exit.inBlock,Exit.then])
    refine bodyPost_ret (v:=.tuple #[.agg #[.int .i64 u,.int .i64 v],.int .i64 0]) ?_ rfl ⟨?_,?_⟩
    ·rw[results_cell_tmp rfl];go_simp;exact E3.out
    ·rw[E1.out,E2.out,E3.out.1,E3.out.2]
    ·exact(Below.refl _ _).alloc (Nat.le_refl _) _
   ·have hl2:v<u:=by omega
    have E3:Hid (min u v=v∧max u v=u):=⟨by omega,by omega⟩;clear he;go_enter Tryz.func41,Tryz.ntmps41
    go_wp2_with (go_at_call 71;refine Calls.mono (A.out _) ?_;rintro e w' ⟨rfl,rfl⟩)
    (try simp only[Exit.inBlock,Exit.then])
    refine bodyPost_ret (v:=.tuple #[.agg #[.int .i64 v,.int .i64 u],.int .i64 0]) ?_ rfl ⟨?_,?_⟩
    ·rw[results_cell_tmp rfl];go_simp;exact E3.out
    ·rw[E1.out,E2.out,E3.out.1,E3.out.2]
    ·exact(Below.refl _ _).alloc (Nat.le_refl _) _
def fc (u v:Int):List UInt8:=if(dD u&&dD v)=true then beBytes 4 u.toNat++beBytes 4 v.toNat else []
def vP (u v:Int):Int:=if(dD u&&dD v)=true then 0 else 30
theorem mN {u:Int}(h:dD u=true):∃n:Nat,u=n∧n<1048576:=by
 have:0<=u∧u<1048576:=by simpa[dD]using h
 exact⟨u.toNat,by omega,by omega⟩
theorem pW {u:Int}(h:dD u=true):gY 4 u=beBytes 4 u.toNat∧jn 4 u=0:=by
 obtain⟨n,rfl,hn⟩:=mN h;have:fH 4 (n:Int)=true:=by simp[fH,bT];omega
 simp[gY,jn,this]
theorem LC {a b:List UInt8}{c d:Int}(h:a=b)(k:c=d):Ending.returned (.tuple #[.string ⟨a.toArray⟩,.int .i64 c])=.returned (.tuple #[.string ⟨b.toArray⟩,.int .i64 d]):=by rw[h,k]
theorem BZ (u v:Int)(w:World):Calls Tryz.prog 51 #[.int .i64 u,.int .i64 v] w fun e w'=>e=.returned (.tuple #[.string ⟨(fc u v).toArray⟩,.int .i64 (vP u v)])∧Below w.heap.size w w':=by
 have A:Aside (∀w,Calls Tryz.prog 71 #[.int .i64 u,.int .i64 v] w fun e w'=>e=.returned (.bool (dD u&&dD v))∧w=w'):=fun w=>rS u v w;cases hv:(dD u&&dD v)
 ·have E1:Hid (fc u v=[]):=by simp[Hid,fc,hv]
  have E2:Hid (vP u v=30):=by simp[Hid,vP,hv]
  rw[hv]at A;clear hv;go_enter Tryz.func51,Tryz.ntmps51
  go_wp2_with (go_at_call 71;refine Calls.mono (A.out _) ?_;rintro e w' ⟨rfl,rfl⟩)
  go_ret2;rw[E1.out,E2.out];exact⟨rfl,Below.refl _ _⟩
 ·have h2:=Bool.and_eq_true_iff.1 hv;have E1:Hid (fc u v=gY 4 u++gY 4 v):=by rw[(pW h2.1).1,(pW h2.2).1];simp[Hid,fc,hv]
  have E2:Hid (vP u v=0):=by simp[Hid,vP,hv]
  have L1:(gY 4 u).length=4:=by rw[(pW h2.1).1,beBytes_length]
  have L2:(gY 4 v).length=4:=by rw[(pW h2.2).1,beBytes_length]
  have P1:Hid (∀w,Calls Tryz.prog 77 #[.int .i64 4,.int .i64 u] w fun r w'=>r=.returned (.tuple #[.string ⟨(gY 4 u).toArray⟩,.int .i64 (jn 4 u)])∧Below w.heap.size w w'):=fun w=>jo 4 u w;have P2:Hid (∀w,Calls Tryz.prog 77 #[.int .i64 4,.int .i64 v] w fun r w'=>r=.returned (.tuple #[.string ⟨(gY 4 v).toArray⟩,.int .i64 (jn 4 v)])∧Below w.heap.size w w'):=fun w=>jo 4 v w;generalize gY 4 u=X at*;generalize gY 4 v=Y at*;generalize jn 4 u=x at*;generalize jn 4 v=y at*;rw[hv]at A;clear hv h2;go_enter Tryz.func51,Tryz.ntmps51
  go_wp2_with (go_at_call 71;refine Calls.mono (A.out _) ?_;rintro e w' ⟨rfl,rfl⟩)
  refine Calls.mono (P1.out _) ?_;rintro e w1 ⟨rfl,hb1⟩
  go_wp2_with fail
  refine Calls.mono (P2.out _) ?_;rintro e w2 ⟨rfl,hb2⟩
  go_wp2_with fail
  refine(Oz ⟨X.toArray⟩ ⟨Y.toArray⟩ w2 (by rw[dT,dT];omega)).mono ?_;rintro e w3 ⟨rfl,hb3⟩;go_wp2;go_ret2;have k1:=hb1.size;have k2:=hb2.size;exact⟨LC (by rw[E1.out]) E2.out.symm,(hb1.trans (hb2.mono k1)).trans (hb3.mono (by omega))⟩
def pG (s:ByteArray):Int×Int×Int:=
 if eO (bn (bn s 0 4).2.1 (bn s 0 4).2.2 4).2.1 (bn (bn s 0 4).2.1 (bn s 0 4).2.2 4).2.2=0∧(dD (bn s 0 4).1&&dD (bn (bn s 0 4).2.1 (bn s 0 4).2.2 4).1)=true then((bn s 0 4).1,(bn (bn s 0 4).2.1 (bn s 0 4).2.2 4).1,0)else(0,0,30)
theorem vQ {s:ByteArray}{u v e1 e2:Int}{s1 s2:ByteArray}(hA:bn s 0 4=(u,s1,e1))(hB:bn s1 e1 4=(v,s2,e2)):
  pG s=if eO s2 e2=0∧(dD u&&dD v)=true then(u,v,0)else(0,0,30):=by
 unfold pG;rw[hA];simp only;rw[hB]
theorem Ek (s:ByteArray):(∃x y,pG s=(x,y,0)∧dD x=true∧dD y=true∧s=⟨(fc x y).toArray⟩)∨pG s=(0,0,30):=by
 obtain⟨u,s1,e1,hA⟩:∃u s1 e1,bn s 0 4=(u,s1,e1):=⟨_,_,_,rfl⟩;obtain⟨v,s2,e2,hB⟩:∃v s2 e2,bn s1 e1 4=(v,s2,e2):=⟨_,_,_,rfl⟩;rw[vQ hA hB];by_cases h:eO s2 e2=0∧(dD u&&dD v)=true
 ·rw[if_pos h];left;have hv:=Bool.and_eq_true_iff.1 h.2;have he:e2=0∧s2.size=0:=by
   have h1:=h.1;unfold eO at h1;by_cases a:e2=0
   ·by_cases b:s2.size=0
    ·exact⟨a,b⟩
    ·simp[a,b]at h1
   ·simp[a]at h1
  obtain⟨e1z,_,l2,r2,hs1,hn2,hI2⟩:=iK s1 e1 4 (by rw[hB];exact he.1);obtain⟨_,_,l1,r1,hs,hn1,hI1⟩:=iK s 0 4 (by rw[hA];exact e1z);rw[hA]at hI1;rw[hB]at hI2;simp only[Prod.mk.injEq]at hI1 hI2;obtain⟨rfl,hr1,_⟩:=hI1;obtain⟨rfl,hr2,_⟩:=hI2;have hr:r1=l2++r2:=by
   have h1:=hr1.symm.trans hs1;have h2:=congrArg (fun b:ByteArray=>b.data.toList) h1;simpa using h2
  have hz:r2=[]:=by
   have:=he.2;rw[hr2,dT]at this;exact List.length_eq_zero_iff.1 this
  subst hz;rw[List.append_nil]at hr;subst hr;refine⟨_,_,rfl,hv.1,hv.2,?_⟩;have k:fc (beNat l1) (beNat r1)=l1++r1:=by
   unfold fc;rw[if_pos h.2,Int.toNat_natCast,Int.toNat_natCast,jO 4 l1 (by omega),jO 4 r1 (by omega)]
  rw[k];exact hs
 ·rw[if_neg h];exact Or.inr rfl
theorem LD {u v:Int}(hu:dD u=true)(hv:dD v=true):pG ⟨(fc u v).toArray⟩=(u,v,0):=by
 have hc:(dD u&&dD v)=true:=by rw[hu,hv];rfl
 have e:fc u v=beBytes 4 u.toNat++beBytes 4 v.toNat:=by unfold fc;rw[if_pos hc]
 obtain⟨n,rfl,hn⟩:=mN hu;obtain⟨m,rfl,hm⟩:=mN hv;rw[Int.toNat_natCast,Int.toNat_natCast]at e;have hA:=ei (beBytes 4 n) (beBytes 4 m) 4 (by rw[beBytes_length];rfl) rfl;have hB:=ei (beBytes 4 m) [] 4 (by rw[beBytes_length];rfl) rfl;rw[List.append_nil]at hB;rw[dB 4 n (by omega)]at hA;rw[dB 4 m (by omega)]at hB;rw[e,vQ hA hB,if_pos ⟨rfl,hc⟩]
theorem El (s:ByteArray)(w:World)(hs:s.size<=maxLen):Calls Tryz.prog 53 #[.string s] w fun e w'=>e=.returned (.tuple #[.int .i64 (pG s).1,.int .i64 (pG s).2.1,.int .i64 (pG s).2.2])∧Below w.heap.size w w':=by
 obtain⟨u,s1,e1,hA⟩:∃u s1 e1,bn s 0 4=(u,s1,e1):=⟨_,_,_,rfl⟩;obtain⟨v,s2,e2,hB⟩:∃v s2 e2,bn s1 e1 4=(v,s2,e2):=⟨_,_,_,rfl⟩;have P:Hid (pG s=if eO s2 e2=0∧(dD u&&dD v)=true then(u,v,0)else(0,0,30)):=vQ hA hB;have C1:=jm _ s 0 4 _ (Rd.made s hs w);rw[hA]at C1;have D1:Hid _:=C1;have C2:Hid (∀b W,Rd b s1 e1 W->Calls Tryz.prog 81 #[.pointer (some ⟨b,0,none⟩),.int .i64 4] W fun r w'=>r=.returned (.int .i64 v)∧Rd b s2 e2 w'∧Only b W w'):=fun b W h=>by
  have:=jm b s1 e1 4 W h;rw[hB]at this;exact this
 have AV:Hid (∀w,Calls Tryz.prog 71 #[.int .i64 u,.int .i64 v] w fun e w'=>e=.returned (.bool (dD u&&dD v))∧w=w'):=fun w=>rS u v w;clear hA hB C1;go_enter Tryz.func53,Tryz.ntmps53
 go_wp2_with fail
 refine(mo _ _).mono ?_;rintro e w1 ⟨rfl,rfl⟩
 go_wp2_with fail
 refine Calls.mono D1.out ?_;rintro e w2 ⟨rfl,hr2,ho2⟩;have R2:Hid (Rd _ _ _ _):=hr2;have O2:Hid (Only _ _ _):=ho2;clear hr2 ho2
 go_wp2_with fail
 refine Calls.mono (C2.out _ _ R2.out) ?_;rintro e w3 ⟨rfl,hr3,ho3⟩;have R3:Hid (Rd _ _ _ _):=hr3;have O3:Hid (Only _ _ _):=ho3;clear hr3 ho3;have B:Hid (Below w.heap.size w w3):=((((Below.refl _ w).alloc (Nat.le_refl _) _).trans (O2.out.below (Nat.le_refl _))).trans (O3.out.below (Nat.le_refl _)))
 go_wp2_with fail
 refine(mq _ _ _ _ R3.out).mono ?_;rintro e w4 ⟨rfl,rfl⟩;by_cases hz:eO s2 e2=0
 ·rw[hz]at P⊢;clear hz
  go_wp2_with fail
  refine Calls.mono (AV.out _) ?_;rintro e w5 ⟨rfl,rfl⟩;cases hv:(dD u&&dD v)
  ·rw[hv]at P;go_wp2
   go_ret3
   rw[P.out,if_neg (by simp)];exact⟨rfl,B.out⟩
  ·rw[hv]at P;go_wp2
   go_ret3
   rw[P.out,if_pos (by simp)];exact⟨rfl,B.out⟩
 ·have hz':(eO s2 e2 != 0)=true:=by rw[bne_iff_ne];exact hz
  have P':Hid (pG s=(0,0,30)):=by have:=P.out;rw[if_neg (fun h=>hz h.1)]at this;exact this
  generalize eO s2 e2=z at*;clear hz P;go_wp2
  go_ret3
  rw[P'.out];exact⟨rfl,B.out⟩
end
namespace P
open Go.RowKit Go.Lib
open N (En bp)
def tN (b:Bool):ByteArray:=if b=true then⟨#[116]⟩else⟨#[110]⟩
theorem GQ {a b:Bool}(h:tN a=tN b):a=b:=by
 cases a<;>cases b<;>first|rfl| (revert h;decide+kernel)
def bQ (u v:Int):ByteArray:=if dR u v=0 then⟨(65::fc u v).toArray⟩else⟨#[]⟩
theorem eG {u v:Int}:dR u v=0↔dD u=true∧dD v=true∧u≠v:=by
 unfold dR;split
 ·rename_i h
  have h:=Bool.and_eq_true_iff.1 h;split
  ·rename_i e
   exact⟨fun h=>(by cases h),fun h=>absurd e h.2.2⟩
  ·rename_i e
   exact⟨fun _=>⟨h.1,h.2,e⟩,fun _=>rfl⟩
 ·rename_i h
  exact⟨fun h=>(by cases h),fun e=>absurd (show(dD u&&dD v)=true by rw[e.1,e.2.1];rfl) h⟩
theorem vR {u v:Int}(h:dR u v=0):dR v u=0:=by
 obtain⟨a,b,c⟩:=eG.1 h;exact eG.2 ⟨b,a,fun e=>c e.symm⟩
theorem LF {u v:Int}(h:dR u v=0):fc u v=beBytes 4 u.toNat++beBytes 4 v.toNat:=by
 obtain⟨a,b,_⟩:=eG.1 h;unfold fc;rw[if_pos (by rw[a,b];rfl)]
def dK (e:En):(Int×Int×Bool)×Bool:=
 if Lib.hasPrefix e.1.data.toList [65]=true∧(pG ⟨(Lib.trimPrefix e.1.data.toList [65]).toArray⟩).2.2=0∧(pG ⟨(Lib.trimPrefix e.1.data.toList [65]).toArray⟩).1≠(pG ⟨(Lib.trimPrefix e.1.data.toList [65]).toArray⟩).2.1∧(e.2=tN true∨e.2=tN false)then
  (((pG ⟨(Lib.trimPrefix e.1.data.toList [65]).toArray⟩).1,(pG ⟨(Lib.trimPrefix e.1.data.toList [65]).toArray⟩).2.1,decide (e.2=tN true)),true)else((0,0,false),false)
theorem iu {s:List UInt8}:Lib.hasPrefix s [65]=true↔∃r,s=65::r:=by
 cases s with
 |nil=>simp[Lib.hasPrefix]
 |cons a r=>
  simp only[Lib.hasPrefix,List.isPrefixOf,Bool.and_true,beq_iff_eq];exact⟨fun h=>⟨r,by rw[h]⟩,fun⟨_,h⟩=>by injection h with h;exact h.symm⟩
theorem vS (r:List UInt8):Lib.trimPrefix (65::r) [65]=r:=by
 unfold Lib.trimPrefix;rw[if_pos (iu.2 ⟨r,rfl⟩)];rfl
theorem yh (s:ByteArray):(⟨s.data.toList.toArray⟩:ByteArray)=s:=by cases s;simp
theorem kC {u v:Int}{b:Bool}(h:dR u v=0):dK (bQ u v,tN b)=((u,v,b),true):=by
 obtain⟨h1,h2,h3⟩:=eG.1 h;have e:bQ u v=⟨(65::fc u v).toArray⟩:=by unfold bQ;rw[if_pos h]
 unfold dK;rw[e];simp only[vS,LD h1 h2];rw[if_pos ⟨iu.2 ⟨_,rfl⟩,trivial,h3,by cases b<;>simp⟩];cases b
 ·have:tN false≠tN true:=by decide+kernel
  simp[this]
 ·simp
theorem oc (e:En):(∃u v b,dK e=((u,v,b),true)∧dR u v=0∧e=(bQ u v,tN b))∨dK e=((0,0,false),false):=by
 obtain⟨k,x⟩:=e;unfold dK;split
 ·rename_i h
  obtain⟨h1,h2,h3,h4⟩:=h;obtain⟨r,hr⟩:=iu.1 h1;simp only at h1 h2 h3 h4 hr;simp only[hr,vS]at h2 h3⊢;rcases Ek ⟨r.toArray⟩with⟨u,v,hp,a,b,c⟩|hp
  ·rw[hp]at h3⊢;have hm:dR u v=0:=eG.2 ⟨a,b,h3⟩;have hk:k=bQ u v:=by
    unfold bQ;rw[if_pos hm,<-yh k,hr];have:=congrArg (fun s:ByteArray=>s.data.toList) c;simp only at this;rw[this]
   refine .inl ⟨u,v,decide (x=tN true),rfl,hm,?_⟩;rw[hk];rcases h4 with h4|h4
   ·rw[h4];simp
   ·have:tN false≠tN true:=by decide+kernel
    rw[h4];simp[this]
  ·rw[hp]at h2;cases h2
 ·exact .inr rfl
theorem vT:∀(p q x y:List UInt8),p.length=q.length->Op.bytesLess (p++x) (q++y)=(Op.bytesLess p q||(decide (p=q)&&Op.bytesLess x y))
 |[],[],x,y,_=>by simp[Op.bytesLess]
 |a::p,b::q,x,y,h=>by
  simp only[List.cons_append,Op.bytesLess];rw[vT p q x y (by simpa using h)];by_cases h1:a=b
  ·subst h1;simp
  ·have h2:¬(a::p=b::q):=fun e=>h1 (by injection e);have h3:(a==b)=false:=beq_eq_false_iff_ne.2 h1;simp[h1,h2,h3]
theorem yi (x:List UInt8):∀i:Nat,x.foldl (fun a c=>a*256+c.toNat) i=i*256^x.length+beNat x:=by
 induction x with
 |nil=>intro i;simp[beNat]
 |cons a x ih=>
  intro i;have e:beNat (a::x)=a.toNat*256^x.length+beNat x:=by rw[beNat,List.foldl_cons,ih];simp
  rw[List.foldl_cons,ih,e,List.length_cons,Nat.pow_succ,Nat.add_mul,Nat.mul_assoc,Nat.mul_comm 256,Nat.add_assoc]
theorem rT (a:UInt8)(x:List UInt8):beNat (a::x)=a.toNat*256^x.length+beNat x:=by
 rw[beNat,List.foldl_cons,yi];simp
theorem oX (a b p x y:Nat)(h:a<b)(hx:x<p):a*p+x<b*p+y:=by
 have h1:(a+1)*p<=b*p:=Nat.mul_le_mul_right p h;rw[Nat.add_mul,Nat.one_mul]at h1;omega
theorem tQ (x:List UInt8):∀y:List UInt8,x.length=y.length->Op.bytesLess x y=decide (beNat x<beNat y):=by
 induction x with
 |nil=>intro y h;rw[List.length_eq_zero_iff.1 h.symm];rfl
 |cons a x ih=>
  intro y h;cases y with
  |nil=>simp at h
  |cons b y=>
   have hl:x.length=y.length:=by simpa using h
   have hx:=jN x;have hy:=jN y;rw[Op.bytesLess,ih y hl,rT,rT,hl];rw[hl]at hx;rcases Nat.lt_trichotomy a.toNat b.toNat with c|c|c
   ·have e1:a<b:=UInt8.lt_iff_toNat_lt.2 c;have e2:=oX a.toNat b.toNat _ (beNat x) (beNat y) c hx;simp[e1,e2]
   ·have e1:a=b:=UInt8.toNat_inj.1 c;subst e1;simp
   ·have e1:¬a<b:=by rw[UInt8.lt_iff_toNat_lt];omega
    have e2:a≠b:=by intro e;subst e;omega
    have e3:=oX b.toNat a.toNat _ (beNat y) (beNat x) c hy;have e4:¬(a.toNat*256^y.length+beNat x<b.toNat*256^y.length+beNat y):=Nat.not_lt.2 (Nat.le_of_lt e3);rw[decide_eq_false e4];simp[e1,e2]
theorem GS (k n m:Nat)(hn:n<256^k)(hm:m<256^k):Op.bytesLess (beBytes k n) (beBytes k m)=decide (n<m):=by
 rw[tQ _ _ (by rw[beBytes_length,beBytes_length]),dB k n hn,dB k m hm]
theorem Qj (k n m:Nat)(hn:n<256^k)(hm:m<256^k):(beBytes k n==beBytes k m)=decide (n=m):=by
 by_cases h:n=m
 ·subst h;simp
 ·simp[h];intro e;apply h;rw[<-dB k n hn,<-dB k m hm,e]
theorem lN (x y:List UInt8):bp ⟨x.toArray⟩ ⟨y.toArray⟩=Op.bytesLess x y:=by
 unfold bp;rw[toList_data,toList_data]
theorem lO {u:Int}(h:dD u=true):0<=u∧u<1048576:=of_decide_eq_true h
theorem mO {u v:Int}(h:dD u=true)(k:dD v=true):Op.bytesLess (beBytes 4 u.toNat) (beBytes 4 v.toNat)=decide (u<v):=by
 have a:=lO h;have b:=lO k;rw[GS 4 _ _ (by omega) (by omega)];exact decide_eq_decide.2 ⟨fun h=>by omega,fun h=>by omega⟩
theorem OH {u v:Int}(h:dD u=true)(k:dD v=true):beBytes 4 u.toNat=beBytes 4 v.toNat↔u=v:=by
 have a:=lO h;have b:=lO k;refine⟨fun e=>?_,fun e=>by rw[e]⟩;have:=Qj 4 u.toNat v.toNat (by omega) (by omega);rw[e]at this;simp at this;omega
theorem iC {u v:Int}(h:dR u v=0):bQ u v=⟨(65::(beBytes 4 u.toNat++beBytes 4 v.toNat)).toArray⟩:=by
 unfold bQ;rw[if_pos h,LF h]
theorem vU {u v a b:Int}(h:dR u v=0)(k:dR a b=0):bp (bQ u v) (bQ a b)=decide (u<a∨(u=a∧v<b)):=by
 obtain⟨h1,h2,_⟩:=eG.1 h;obtain⟨k1,k2,_⟩:=eG.1 k;rw[iC h,iC k,lN];simp only[Op.bytesLess];rw[vT _ _ _ _ (by rw[beBytes_length,beBytes_length]),mO h1 k1,mO h2 k2];have:=OH h1 k1;by_cases c:u=a
 ·subst c;simp
 ·simp[c,this]
theorem kD {u v a b:Int}(h:dR u v=0)(k:dR a b=0)(e:bQ u v=bQ a b):u=a∧v=b:=by
 have h1:=vU h k;have h2:=vU k h;rw[e,N.dh]at h1 h2;have h1:=of_decide_eq_false h1.symm;have h2:=of_decide_eq_false h2.symm;omega
def xz (u:Int):ByteArray:=⟨(65::beBytes 4 u.toNat).toArray⟩
def toA (u:Int):ByteArray:=⟨(65::(beBytes 4 u.toNat++List.replicate 16 255)).toArray⟩
theorem Uk {v:Int}(h:dD v=true):Op.bytesLess (beBytes 4 v.toNat) (List.replicate 16 255)=true:=by
 have a:=lO h;have e:v.toNat/256/256/256%256=0:=by omega
 simp only[beBytes,e,List.nil_append,List.cons_append];rfl
theorem pY {u a b:Int}(hu:dD u=true)(h:dR a b=0):(!bp (bQ a b) (xz u)&&bp (bQ a b) (toA u))=decide (a=u):=by
 obtain⟨h1,h2,_⟩:=eG.1 h;have e1:bp (bQ a b) (xz u)=decide (a<u):=by
  unfold xz;rw[iC h,lN];simp only[Op.bytesLess];have:=vT (beBytes 4 a.toNat) (beBytes 4 u.toNat) (beBytes 4 b.toNat) [] (by rw[beBytes_length,beBytes_length]);rw[List.append_nil]at this;rw[this,mO h1 hu];cases beBytes 4 b.toNat<;>simp[Op.bytesLess]
 have e2:bp (bQ a b) (toA u)=decide (a<u∨a=u):=by
  unfold toA;rw[iC h,lN];simp only[Op.bytesLess];rw[vT _ _ _ _ (by rw[beBytes_length,beBytes_length]),mO h1 hu,Uk h2];have:=OH h1 hu;by_cases c:a=u
  ·subst c;simp
  ·simp[c,this]
 rw[e1,e2];by_cases c:a=u
 ·subst c;simp
 ·by_cases d:a<u
  ·simp[c,d]
  ·simp[c,d]
end P
end Go.Proofs.YtdcpfbidcpfboaaGreatDoor
section
namespace Go.Proofs
open Go.Shelf
def Tryz.yj:Go.Shelf.Ren:=⟨fun|103=>52|210=>79|206=>107|n=>n,fun|9=>9|4=>4|24=>99|3=>3|n=>n,fun|n=>n⟩
theorem Tryz.LG:Go.Proofs.Lays.n103 Tryz.prog Tryz.yj:={
 mixed:=by kernel_rfl
 f103:=Tryz.func52.trans (congrArg some (by kernel_rfl))
 f206:=Tryz.func107.trans (congrArg some (by kernel_rfl))
 f210:=Tryz.func79.trans (congrArg some (by kernel_rfl))
 t3:=Tryz.underlying3
 a3:=Tryz.isAgg3
 z3:=Tryz.sizeOf3
 v3:=Tryz.zeroValue3
 t4:=Tryz.underlying4
 a4:=Tryz.isAgg4
 z4:=Tryz.sizeOf4
 v4:=Tryz.zeroValue4
 t9:=Tryz.underlying9
 a9:=Tryz.isAgg9
 z9:=Tryz.sizeOf9
 v9:=Tryz.zeroValue9
 t24:=Tryz.underlying99
 a24:=Tryz.isAgg99
 z24:=Tryz.sizeOf99
 v24:=Tryz.zeroValue99}
open Go.RowKit in
theorem Tryz.strings_CutPrefix (s p:ByteArray)(w:World):
 Calls Tryz.prog 52 #[.string s,.string p] w fun e w'=>e=.returned (.tuple #[.string ⟨(Lib.trimPrefix s.data.toList p.data.toList).toArray⟩,.bool (Lib.hasPrefix s.data.toList p.data.toList)])∧w'=w:=Any.strings_CutPrefix Tryz.LG s p w
end Go.Proofs
end
namespace Go.Proofs.YtdcpfbidcpfboaaGreatDoor
namespace P
open Go.Shelf Go.RowKit Go.Lib
open N (En)
theorem Ca {u v:Int}(h:dR u v=0):(⟨#[65]⟩:ByteArray)++⟨(fc u v).toArray⟩=bQ u v:=by
 unfold bQ;rw[if_pos h,show(⟨#[65]⟩:ByteArray)=⟨([65]:List UInt8).toArray⟩from rfl];apply iz;rw[ByteArray.data_append];simp
theorem og (u v:Int):(⟨(fc u v).toArray⟩:ByteArray).size<=8:=by
 rw[dT];unfold fc;split
 ·rw[List.length_append,beBytes_length,beBytes_length];omega
 ·exact Nat.zero_le _
theorem bP {fn:Func}{t u v x:Tmp}(h:fn.results=#[.tmp t,.tmp u,.tmp v,.tmp x])(tmps:Array Value)(P:Program)(w:World):
  (results fn tmps).run P w=.ok (.tuple #[tmps.getD t undef,tmps.getD u undef,tmps.getD v undef,tmps.getD x undef]) w:=by
 simp[results,h]
theorem jV (u v:Int)(w:World):Calls Tryz.prog 20 #[.int .i64 u,.int .i64 v] w fun e w'=>e=.returned (.string (bQ u v))∧Below w.heap.size w w':=by
 have KM:Hid _:=mM u v w;have KK:Hid (∀w',Calls Tryz.prog 51 #[.int .i64 u,.int .i64 v] w' fun e w''=>e=.returned (.tuple #[.string ⟨(fc u v).toArray⟩,.int .i64 (vP u v)])∧Below w'.heap.size w' w''):=fun w'=>BZ u v w';by_cases hm:dR u v=0
 ·have HC:Hid _:=Ca hm;rw[hm]at KM;have hz:¬9223372036854775807<1+(⟨(fc u v).toArray⟩:ByteArray).size:=by have:=og u v;omega
  clear hm;generalize bQ u v=ky at*;generalize vP u v=ke at*;generalize(⟨(fc u v).toArray⟩:ByteArray)=ks at*;generalize(cf u v).1=p1 at*;generalize(cf u v).2=p2 at*;go_enter Tryz.func20,Tryz.ntmps20
  go_wp2_with fail
  refine Calls.mono KM.out ?_;rintro e w1 ⟨rfl,b1⟩;have B1:Hid _:=b1;clear KM b1
  go_wp2_with fail
  refine Calls.mono (KK.out _) ?_;rintro e w2 ⟨rfl,b2⟩;have B2:Hid (Below w.heap.size w w2):=(B1.out.alloc B1.out.size _).trans (b2.mono (B1.out.alloc B1.out.size _).size);clear KK b2;go_wp2;go_ret;exact⟨by rw[<-HC.out];rfl,B2.out⟩
 ·have HC:Hid (bQ u v=⟨#[]⟩):=by show _=_;unfold bQ;rw[if_neg hm]
  have hmb:(dR u v != 0)=true:=bne_iff_ne.2 hm;clear hm;generalize dR u v=er at*;generalize(cf u v).1=p1 at*;generalize(cf u v).2=p2 at*;go_enter Tryz.func20,Tryz.ntmps20
  go_wp2_with fail
  refine Calls.mono KM.out ?_;rintro e w1 ⟨rfl,b1⟩;have B1:Hid _:=b1;clear KM b1;go_wp2;go_ret;exact⟨by rw[HC.out];rfl,B1.out.alloc B1.out.size _⟩
theorem Em (k:ByteArray):(⟨(Lib.trimPrefix k.data.toList [65]).toArray⟩:ByteArray).size<=k.size:=by
 rw[dT];have:=Lib.trimPrefix_le k.data.toList [65];have e:k.data.toList.length=k.size:=Array.length_toList;omega
theorem ju (x:En)(w:World)(hs:x.1.size<=maxLen):Calls Tryz.prog 21 #[.agg #[.string x.1,.string x.2]] w fun e w'=>e=.returned (.tuple #[.int .i64 (dK x).1.1,.int .i64 (dK x).1.2.1,.bool (dK x).1.2.2,.bool (dK x).2])∧Below w.heap.size w w':=by
 obtain⟨k,v⟩:=x;have HS:Hid (k.size<=maxLen):=hs;obtain⟨tx,htx⟩:∃tx:ByteArray,tx=⟨(Lib.trimPrefix k.data.toList [65]).toArray⟩:=⟨_,rfl⟩;have HT:Hid (tx.size<=maxLen):=by show _<=_;rw[htx];exact Nat.le_trans (Em k) hs
 have KC:Hid (∀w,Calls Tryz.prog 52 #[.string k,.string ⟨#[65]⟩] w fun e w'=>e=.returned (.tuple #[.string tx,.bool (Lib.hasPrefix k.data.toList [65])])∧w'=w):=fun w=>by
  have:=Tryz.strings_CutPrefix k ⟨#[65]⟩ w;rw[htx];exact this
 have KP:Hid (∀w,Calls Tryz.prog 53 #[.string tx] w fun e w'=>e=.returned (.tuple #[.int .i64 (pG tx).1,.int .i64 (pG tx).2.1,.int .i64 (pG tx).2.2])∧Below w.heap.size w w'):=fun w=>El tx w HT.out;have HP:Hid (dK (k,v)=if Lib.hasPrefix k.data.toList [65]=true∧(pG tx).2.2=0∧(pG tx).1≠(pG tx).2.1∧(v=tN true∨v=tN false)then(((pG tx).1,(pG tx).2.1,decide (v=tN true)),true)else((0,0,false),false)):=by
  show _=_;unfold dK;simp only[<-htx]
 clear hs htx;generalize pG tx=pr at*;obtain⟨u,t,er⟩:=pr;simp only at KP HP;generalize dK (k,v)=res at*;cases hp:Lib.hasPrefix k.data.toList [65]with
 |false=>
  have HR:Hid (res=((0,0,false),false)):=by have:=HP.out;rw[if_neg (by rw[hp];simp)]at this;exact this
  rw[hp]at KC;rw[HR.out];clear HP hp;go_enter Tryz.func21,Tryz.ntmps21
  go_wp2_with fail
  refine Calls.mono (KC.out _) ?_;rintro e w1 ⟨rfl,rfl⟩
  go_wp2_with fail
  refine Calls.mono (KP.out _) ?_;rintro e w2 ⟨rfl,b2⟩;have B2:Hid _:=b2;clear KC KP b2;go_wp2
  (try simp only[Exit.inBlock,Exit.then])
  refine bodyPost_ret (bP rfl _ _ _) rfl ?_;exact⟨rfl,(Below.refl _ w).alloc (Nat.le_refl _) _ |>.trans (B2.out.mono (by simp))⟩
 |true=>
  rw[hp]at KC;by_cases h1:er=0
  ·subst h1;by_cases h2:u=t
   ·have HR:Hid (res=((0,0,false),false)):=by have:=HP.out;rw[if_neg (fun c=>c.2.2.1 h2)]at this;exact this
    have Wd:(u==t)=true:=beq_iff_eq.2 h2;rw[HR.out];clear HP hp h2;go_enter Tryz.func21,Tryz.ntmps21
    go_wp2_with fail
    refine Calls.mono (KC.out _) ?_;rintro e w1 ⟨rfl,rfl⟩
    go_wp2_with fail
    refine Calls.mono (KP.out _) ?_;rintro e w2 ⟨rfl,b2⟩;have B2:Hid (Below w.heap.size w w2):=(Below.refl _ w).alloc (Nat.le_refl _) _ |>.trans (b2.mono (by simp));have q0:=(b2.cell (p:=⟨w.heap.size,0,none⟩) (by simp)).trans (N.Cl.new w #[.string k,.string v] 49).two.1;have q1:=(b2.cell (p:=⟨w.heap.size,1,none⟩) (by simp)).trans (N.Cl.new w #[.string k,.string v] 49).two.2;clear KC KP b2;go_wp2
    (try simp only[Exit.inBlock,Exit.then])
    refine bodyPost_ret (bP rfl _ _ _) rfl ?_;exact⟨rfl,B2.out⟩
   ·have Wd:(u==t)=false:=beq_eq_false_iff_ne.2 h2;by_cases h3:v=tN true
    ·have HR:Hid (res=((u,t,true),true)):=by have:=HP.out;rw[if_pos ⟨hp,rfl,h2,.inl h3⟩,decide_eq_true h3]at this;exact this
     have Ul:v.toList=[116]:=by rw[h3];decide+kernel
     rw[HR.out];clear HP hp h2 h3;go_enter Tryz.func21,Tryz.ntmps21
     go_wp2_with fail
     refine Calls.mono (KC.out _) ?_;rintro e w1 ⟨rfl,rfl⟩
     go_wp2_with fail
     refine Calls.mono (KP.out _) ?_;rintro e w2 ⟨rfl,b2⟩;have B2:Hid (Below w.heap.size w w2):=(Below.refl _ w).alloc (Nat.le_refl _) _ |>.trans (b2.mono (by simp));have q0:=(b2.cell (p:=⟨w.heap.size,0,none⟩) (by simp)).trans (N.Cl.new w #[.string k,.string v] 49).two.1;have q1:=(b2.cell (p:=⟨w.heap.size,1,none⟩) (by simp)).trans (N.Cl.new w #[.string k,.string v] 49).two.2;clear KC KP b2;go_wp2
     go_region
     go_wp2
     (try simp only[Exit.inBlock,Exit.then])
     refine bodyPost_ret (bP rfl _ _ _) rfl ?_;exact⟨rfl,B2.out.drew⟩
    ·have Ul:¬v.toList=[116]:=fun e=>h3 (N.gJ (e.trans (show [116]=(tN true).toList by decide+kernel)));by_cases h4:v=tN false
     ·have HR:Hid (res=((u,t,false),true)):=by have:=HP.out;rw[if_pos ⟨hp,rfl,h2,.inr h4⟩,decide_eq_false h3]at this;exact this
      have Um:v.toList=[110]:=by rw[h4];decide+kernel
      rw[HR.out];clear HP hp h2 h3 h4;go_enter Tryz.func21,Tryz.ntmps21
      go_wp2_with fail
      refine Calls.mono (KC.out _) ?_;rintro e w1 ⟨rfl,rfl⟩
      go_wp2_with fail
      refine Calls.mono (KP.out _) ?_;rintro e w2 ⟨rfl,b2⟩;have B2:Hid (Below w.heap.size w w2):=(Below.refl _ w).alloc (Nat.le_refl _) _ |>.trans (b2.mono (by simp));have q0:=(b2.cell (p:=⟨w.heap.size,0,none⟩) (by simp)).trans (N.Cl.new w #[.string k,.string v] 49).two.1;have q1:=(b2.cell (p:=⟨w.heap.size,1,none⟩) (by simp)).trans (N.Cl.new w #[.string k,.string v] 49).two.2;clear KC KP b2;go_wp2
      go_region
      go_wp2
      (try simp only[Exit.inBlock,Exit.then])
      refine bodyPost_ret (bP rfl _ _ _) rfl ?_;exact⟨rfl,B2.out.drew⟩
     ·have HR:Hid (res=((0,0,false),false)):=by have:=HP.out;rw[if_neg (fun c=>c.2.2.2.elim h3 h4)]at this;exact this
      have Um:¬v.toList=[110]:=fun e=>h4 (N.gJ (e.trans (show [110]=(tN false).toList by decide+kernel)));have h3d:(v.toList== [116])=false:=beq_eq_false_iff_ne.2 Ul;have h4d:(v.toList== [110])=false:=beq_eq_false_iff_ne.2 Um;rw[HR.out];clear HP hp h2 h3 h4;go_enter Tryz.func21,Tryz.ntmps21
      go_wp2_with fail
      refine Calls.mono (KC.out _) ?_;rintro e w1 ⟨rfl,rfl⟩
      go_wp2_with fail
      refine Calls.mono (KP.out _) ?_;rintro e w2 ⟨rfl,b2⟩;have B2:Hid (Below w.heap.size w w2):=(Below.refl _ w).alloc (Nat.le_refl _) _ |>.trans (b2.mono (by simp));have q0:=(b2.cell (p:=⟨w.heap.size,0,none⟩) (by simp)).trans (N.Cl.new w #[.string k,.string v] 49).two.1;have q1:=(b2.cell (p:=⟨w.heap.size,1,none⟩) (by simp)).trans (N.Cl.new w #[.string k,.string v] 49).two.2;clear KC KP b2;go_wp2
      (try simp only[Exit.inBlock,Exit.then])
      refine bodyPost_ret (bP rfl _ _ _) rfl ?_;exact⟨rfl,B2.out⟩
  ·have h1b:(er != 0)=true:=bne_iff_ne.2 h1;have HR:Hid (res=((0,0,false),false)):=by have:=HP.out;rw[if_neg (fun c=>h1 c.2.1)]at this;exact this
   rw[HR.out];clear HP hp h1;go_enter Tryz.func21,Tryz.ntmps21
   go_wp2_with fail
   refine Calls.mono (KC.out _) ?_;rintro e w1 ⟨rfl,rfl⟩
   go_wp2_with fail
   refine Calls.mono (KP.out _) ?_;rintro e w2 ⟨rfl,b2⟩;have B2:Hid (Below w.heap.size w w2):=(Below.refl _ w).alloc (Nat.le_refl _) _ |>.trans (b2.mono (by simp));have q0:=(b2.cell (p:=⟨w.heap.size,0,none⟩) (by simp)).trans (N.Cl.new w #[.string k,.string v] 49).two.1;have q1:=(b2.cell (p:=⟨w.heap.size,1,none⟩) (by simp)).trans (N.Cl.new w #[.string k,.string v] 49).two.2;clear KC KP b2;go_wp2
   (try simp only[Exit.inBlock,Exit.then])
   refine bodyPost_ret (bP rfl _ _ _) rfl ?_;exact⟨rfl,B2.out⟩
end P
section
open Go.RowKit
open Go.ChangeMaps (setBlock)
structure C3 where
 there:Bool
 kind:UInt8
 body:ByteArray
def c0:C3:=⟨false,0,ByteArray.empty⟩
def cV (c:C3):Value:=.agg #[.bool c.there,.int .u8 (c.kind.toNat:Int),.string c.body]
def RC (v:Value):Option (DataW Value×List MemPlace):=some (.held v,[])
def Wf (k:Int):Prop:=-9223372036854775808<=k∧k<=9223372036854775807
theorem Wf.lit {k:Int}(h:Wf k):(Lit.int .i64 k).wf=true:=by
 have h1:=h.1;have h2:=h.2;have e1:IntKind.min .i64=-9223372036854775808:=by decide
 have e2:IntKind.max .i64=9223372036854775807:=by decide
 unfold Lit.wf;simp only[e1,e2];simp[h1,h2]
theorem Wf.key {k:Int}(h:Wf k):keyOf Tryz.prog 3 (.int .i64 k)=some (.int .i64 k):=Maps.keyOf_int_mk Tryz.underlying3 h.lit
theorem ie:Maps.Keyed Tryz.prog 3:=Maps.int_keyed Tryz.underlying3
theorem Un (w:World):(zeroValue 226).run Tryz.prog w=.ok (cV c0) w:=by kernel_rfl
abbrev Fr:=Int->Option C3
def View (D:DataW Value)(g:Fr):Prop:=∀k,Maps.has D (.int .i64 k)=(g k).isSome∧∀z,D.atKey (.int .i64 k) z=(g k).elim z fun c=>.held (cV c)
def gN (g:Fr)(k:Int)(c:C3):Fr:=fun q=>if q=k then some c else g q
def rU (g:Fr)(k:Int):Fr:=fun q=>if q=k then none else g q
theorem GU:View (.map []) (fun _=>none):=fun k=>⟨rfl,fun z=>rfl⟩
theorem jW {q k:Int}(h:q≠k):(Lit.int .i64 q)≠.int .i64 k:=fun e=>h (by injection e)
theorem View.put {D:DataW Value}{g:Fr}(h:View D g)(hD:Maps.IsMap D)(k:Int)(c:C3):View (D.put (.int .i64 k) (.held (cV c))) (gN g k c):=by
 intro q;unfold gN;by_cases hq:q=k
 ·subst hq;rw[if_pos rfl];have hkl:WideAt.IsKeyLit (.int .i64 q):=by simp[WideAt.IsKeyLit]
  exact⟨Maps.has_put_same hD hkl _,fun z=>Maps.atKey_put_same hD hkl _ z⟩
 ·rw[if_neg hq];exact⟨(Maps.has_put_other (jW hq) _).trans (h q).1,fun z=>(Maps.atKey_put_other (jW hq) _ z).trans ((h q).2 z)⟩
theorem View.del {D:DataW Value}{g:Fr}(h:View D g)(k:Int):View (D.del (.int .i64 k)) (rU g k):=by
 intro q;unfold rU;by_cases hq:q=k
 ·subst hq;rw[if_pos rfl];exact⟨Maps.has_del_same,fun z=>Maps.atKey_del_same z⟩
 ·rw[if_neg hq];exact⟨(Maps.has_del_other (jW hq)).trans (h q).1,fun z=>(Maps.atKey_del_other (jW hq) z).trans ((h q).2 z)⟩
def mP (m:Nat)(g:Fr)(n:Nat):aN:=fun w X=>(∃D,w.ownsMap Tryz.prog 3 RC m n D∧View D g)∧∀k,X k↔k=m
theorem ig (m:Nat)(g:Fr)(n:Nat):Good (mP m g n):=
 ⟨fun w w' X h hk _=>by
  obtain⟨⟨D,⟨es,clock,hb,r⟩,hv⟩,hX⟩:=h
  exact⟨⟨D,⟨es,clock,(hk m ((hX m).2 rfl)).trans hb,r⟩,hv⟩,hX⟩,fun w X h k hk=>by
  obtain⟨⟨D,o,_⟩,hX⟩:=h
  rw[(hX k).1 hk];exact o.lt⟩
section
variable {B:Nat}{w0 w w':World}{l:List aN}{m n:Nat}{g:Fr}
theorem Sep.Qk (h:Sep B w0 w (mP m g n::l)):∃D,w.ownsMap Tryz.prog 3 RC m n D∧View D g:=by
 obtain⟨_,_,Y,⟨_,X,_,ha,_⟩,_⟩:=h;exact ha.1
theorem Sep.Ql (h:Sep B w0 w l):Sep B w0 (w.alloc (.map #[] 0)) (mP w.heap.size (fun _=>none) 0::l):=
 h.add ((Below.refl _ _).alloc (Nat.le_refl _) _) (ig _ _ _) (X:=fun k=>k=w.heap.size) ⟨⟨_,World.ownsMap_made w _ _ _,GU⟩,fun _=>Iff.rfl⟩ (fun k hk=>Nat.le_of_eq hk.symm)
theorem GV {v:Value}{z c:C3}{D:DataW Value}{ps:List MemPlace}{g:Option C3}(hv:RC v=some (D,ps))(hD:D=g.elim (.held (cV z)) fun c=>.held (cV c)):v=cV (g.getD z):=by
 unfold RC at hv;cases g with
 |none=>subst hD;simp at hv;exact hv.1
 |some c=>subst hD;simp at hv;exact hv.1
theorem Sep.GW (h:Sep B w0 w (mP m g n::l)){k:Int}(hk:Wf k):(Instr.lookup 124 (.map (some m)) (.int .i64 k) true).run Tryz.prog w=.ok (.tuple #[cV ((g k).getD c0),.bool (g k).isSome]) w:=by
 obtain⟨D,o,hv⟩:=h.Qk;obtain⟨v,ps,hr,hR⟩:=o.look_ok ie Tryz.underlying124 (Un w) (zd:=.held (cV c0)) (zp:=[]) rfl hk.key;rw[hr,GV (z:=c0) (c:=c0) hR ((hv k).2 _),(hv k).1]
theorem df.mapTurned {X:Nat->Prop}{w w':World}{m:Nat}(hm:X m)(h:w.mapTurned w' m):df X w w':=by
 obtain⟨es,clock,es',clock',hb,rfl⟩:=h;exact df.setBlock w hm _
theorem Sep.Qm (h:Sep B w0 w (mP m g n::l)){k:Int}(hk:Wf k)(c:C3)(hn:n<1000000):∃w',(Instr.mapUpdate 124 (.map (some m)) (.int .i64 k) (cV c)).run Tryz.prog w=.ok () w'∧Sep B w0 w' (mP m (gN g k c) (n+1)::l):=by
 obtain⟨D,o,hv⟩:=h.Qk;obtain⟨w',hr,o',ht⟩:=o.store ie Tryz.underlying124 (Nat.lt_of_lt_of_le hn (by decide)) hk.key (val:=cV c) (d:=.held (cV c)) (ps:=[]) rfl;refine⟨w',hr,h.step (ig _ _ _) fun X hX=>⟨X,⟨⟨_,o',hv.put o.isMap k c⟩,hX.2⟩,df.mapTurned ((hX.2 m).2 rfl) ht,fun k hk=>.inl hk⟩⟩
theorem Sep.Qn (h:Sep B w0 w (mP m g n::l)){k:Int}(hk:Wf k)(ty:TypeId):∃w',(Builtin.delete_ #[124,3] ty #[.map (some m),.int .i64 k]).run Tryz.prog w=.ok (.tuple #[]) w'∧Sep B w0 w' (mP m (rU g k) n::l):=by
 obtain⟨D,o,hv⟩:=h.Qk;obtain⟨w',hr,o',ht⟩:=o.drop ie Tryz.underlying124 hk.key ty;refine⟨w',hr,h.step (ig _ _ _) fun X hX=>⟨X,⟨⟨_,o',hv.del k⟩,hX.2⟩,df.mapTurned ((hX.2 m).2 rfl) ht,fun k hk=>.inl hk⟩⟩
end
def KeysOf (g:Fr)(L:List Int):Prop:=L.Pairwise (· < ·)∧∀k,k∈L↔(g k).isSome=true
theorem OJ {w:World}{m n:Nat}{g:Fr}{D:DataW Value}(o:w.ownsMap Tryz.prog 3 RC m n D)(hv:View D g){ss:List Int}(hp:ss.Perm (intKeys D)):KeysOf g (ss.mergeSort (fun x y=>decide (x<=y)))∧ss.length<=n:=by
 obtain⟨es,rfl,hpw,_⟩:=o.entries ie;obtain⟨es',hD',hko⟩:=o.keysOf;obtain rfl:es=es':=by simpa using hD'
 have hkk:∀p∈es,∃x,p.1=.int .i64 x:=fun p hp=>by obtain⟨v,hv⟩:=hko p hp;obtain⟨x,_,hx,_⟩:=Maps.keyOf_i64 Tryz.underlying3 hv;exact⟨x,hx⟩
 have hnd:(intKeys (.map es)).Nodup:=by
  show(es.map fun p=>Go.intOf p.1).Nodup;refine List.pairwise_map.2 (hpw.imp_of_mem fun {p q} hp' hq' hne e=>hne ?_);obtain⟨a,ha⟩:=hkk p hp';obtain⟨b,hb⟩:=hkk q hq';rw[ha,hb]at e⊢;exact congrArg _ e
 have hmem:∀x,x∈intKeys (.map es)↔(g x).isSome=true:=fun x=>by
  rw[<- (hv x).1,Maps.has_eq,List.any_eq_true];show x∈es.map (fun p=>Go.intOf p.1)↔_;rw[List.mem_map];constructor
  ·rintro⟨p,hp',rfl⟩;obtain⟨a,ha⟩:=hkk p hp';exact⟨p,hp',by rw[ha];simp[Lit.sameKey,Go.intOf]⟩
  ·rintro⟨p,hp',hs⟩;obtain⟨a,ha⟩:=hkk p hp';rw[ha]at hs;exact⟨p,hp',by rw[ha];simpa[Lit.sameKey,Go.intOf]using hs⟩
 refine⟨⟨?_,fun k=>?_⟩,?_⟩
 ·have tr:∀a b c:Int,leI a b=true->leI b c=true->leI a c=true:=fun a b c h1 h2=>by simp only[leI,decide_eq_true_eq]at*;exact Int.le_trans h1 h2
  have tt:∀a b:Int,(leI a b||leI b a)=true:=fun a b=>by simp only[leI,Bool.or_eq_true,decide_eq_true_eq];exact Int.le_total a b
  have h1:=List.pairwise_mergeSort tr tt ss;have h2:(ss.mergeSort leI).Nodup:=((List.mergeSort_perm ss leI).trans hp).nodup_iff.2 hnd;refine(List.pairwise_and_iff.2 ⟨h1,h2⟩).imp fun {a b} hab=>?_;have:=of_decide_eq_true hab.1;have h3:=hab.2;omega
 ·rw[((List.mergeSort_perm ss _).trans hp).mem_iff];exact hmem k
 ·rw[hp.length_eq];have:=o.size_le;simpa[intKeys,Maps.size]using this
end
section
open Go.RowKit
open Go.ChangeMaps (setBlock)
abbrev Gv:=Int->Option Value
def zN:Value:=.agg #[.bool false,.slice none 0 0,.slice none 0 0,.slice none 0 0]
theorem OL (w:World):(zeroValue 184).run Tryz.prog w=.ok zN w:=by kernel_rfl
def lq (D:DataW Value)(g:Gv):Prop:=∀k,Maps.has D (.int .i64 k)=(g k).isSome∧∀z,D.atKey (.int .i64 k) z=(g k).elim z fun c=>.held c
def pH (g:Gv)(k:Int)(c:Value):Gv:=fun q=>if q=k then some c else g q
def LH (g:Gv)(k:Int):Gv:=fun q=>if q=k then none else g q
theorem Eo:lq (.map []) (fun _=>none):=fun k=>⟨rfl,fun z=>rfl⟩
theorem lq.put {D:DataW Value}{g:Gv}(h:lq D g)(hD:Maps.IsMap D)(k:Int)(c:Value):lq (D.put (.int .i64 k) (.held c)) (pH g k c):=by
 intro q;unfold pH;by_cases hq:q=k
 ·subst hq;rw[if_pos rfl];have hkl:WideAt.IsKeyLit (.int .i64 q):=by simp[WideAt.IsKeyLit]
  exact⟨Maps.has_put_same hD hkl _,fun z=>Maps.atKey_put_same hD hkl _ z⟩
 ·rw[if_neg hq];exact⟨(Maps.has_put_other (jW hq) _).trans (h q).1,fun z=>(Maps.atKey_put_other (jW hq) _ z).trans ((h q).2 z)⟩
theorem lq.del {D:DataW Value}{g:Gv}(h:lq D g)(k:Int):lq (D.del (.int .i64 k)) (LH g k):=by
 intro q;unfold LH;by_cases hq:q=k
 ·subst hq;rw[if_pos rfl];exact⟨Maps.has_del_same,fun z=>Maps.atKey_del_same z⟩
 ·rw[if_neg hq];exact⟨(Maps.has_del_other (jW hq)).trans (h q).1,fun z=>(Maps.atKey_del_other (jW hq) z).trans ((h q).2 z)⟩
def cT (m:Nat)(g:Gv)(n:Nat):aN:=fun w X=>(∃D,w.ownsMap Tryz.prog 3 RC m n D∧lq D g)∧∀k,X k↔k=m
theorem dz (m:Nat)(g:Gv)(n:Nat):Good (cT m g n):=
 ⟨fun w w' X h hk _=>by
  obtain⟨⟨D,⟨es,clock,hb,r⟩,hv⟩,hX⟩:=h
  exact⟨⟨D,⟨es,clock,(hk m ((hX m).2 rfl)).trans hb,r⟩,hv⟩,hX⟩,fun w X h k hk=>by
  obtain⟨⟨D,o,_⟩,hX⟩:=h
  rw[(hX k).1 hk];exact o.lt⟩
section
variable {B:Nat}{w0 w w':World}{l:List aN}{m n:Nat}{g:Gv}
theorem Sep.rV (h:Sep B w0 w (cT m g n::l)):∃D,w.ownsMap Tryz.prog 3 RC m n D∧lq D g:=by
 obtain⟨_,_,Y,⟨_,X,_,ha,_⟩,_⟩:=h;exact ha.1
theorem Sep.Cb (h:Sep B w0 w l):Sep B w0 (w.alloc (.map #[] 0)) (cT w.heap.size (fun _=>none) 0::l):=
 h.add ((Below.refl _ _).alloc (Nat.le_refl _) _) (dz _ _ _) (X:=fun k=>k=w.heap.size) ⟨⟨_,World.ownsMap_made w _ _ _,Eo⟩,fun _=>Iff.rfl⟩ (fun k hk=>Nat.le_of_eq hk.symm)
theorem oh {v:Value}{z c:Value}{D:DataW Value}{ps:List MemPlace}{g:Option Value}(hv:RC v=some (D,ps))(hD:D=g.elim (.held z) fun c=>.held c):v=g.getD z:=by
 unfold RC at hv;cases g with
 |none=>subst hD;simp at hv;exact hv.1
 |some c=>subst hD;simp at hv;exact hv.1
theorem Sep.LI (h:Sep B w0 w (cT m g n::l)){k:Int}(hk:Wf k):(Instr.lookup 151 (.map (some m)) (.int .i64 k) true).run Tryz.prog w=.ok (.tuple #[((g k).getD zN),.bool (g k).isSome]) w:=by
 obtain⟨D,o,hv⟩:=h.rV;obtain⟨v,ps,hr,hR⟩:=o.look_ok ie Tryz.underlying151 (OL w) (zd:=.held zN) (zp:=[]) rfl hk.key;rw[hr,oh (z:=zN) (c:=zN) hR ((hv k).2 _),(hv k).1]
theorem Sep.Qo (h:Sep B w0 w (cT m g n::l)){k:Int}(hk:Wf k):(Instr.lookup 151 (.map (some m)) (.int .i64 k) false).run Tryz.prog w=.ok (((g k).getD zN)) w:=by
 obtain⟨D,o,hv⟩:=h.rV;obtain⟨v,ps,hr,hR⟩:=o.lookup ie Tryz.underlying151 (OL w) (zd:=.held zN) (zp:=[]) rfl hk.key;rw[hr,oh (z:=zN) (c:=zN) hR ((hv k).2 _)]
theorem Sep.LJ (h:Sep B w0 w (cT m g n::l)){k:Int}(hk:Wf k)(c:Value)(hn:n<1000000):∃w',(Instr.mapUpdate 151 (.map (some m)) (.int .i64 k) c).run Tryz.prog w=.ok () w'∧Sep B w0 w' (cT m (pH g k c) (n+1)::l):=by
 obtain⟨D,o,hv⟩:=h.rV;obtain⟨w',hr,o',ht⟩:=o.store ie Tryz.underlying151 (Nat.lt_of_lt_of_le hn (by decide)) hk.key (val:=c) (d:=.held c) (ps:=[]) rfl;refine⟨w',hr,h.step (dz _ _ _) fun X hX=>⟨X,⟨⟨_,o',hv.put o.isMap k c⟩,hX.2⟩,df.mapTurned ((hX.2 m).2 rfl) ht,fun k hk=>.inl hk⟩⟩
theorem Sep.LN (h:Sep B w0 w (cT m g n::l)){k:Int}(hk:Wf k)(ty:TypeId):∃w',(Builtin.delete_ #[151,3] ty #[.map (some m),.int .i64 k]).run Tryz.prog w=.ok (.tuple #[]) w'∧Sep B w0 w' (cT m (LH g k) n::l):=by
 obtain⟨D,o,hv⟩:=h.rV;obtain⟨w',hr,o',ht⟩:=o.drop ie Tryz.underlying151 hk.key ty;refine⟨w',hr,h.step (dz _ _ _) fun X hX=>⟨X,⟨⟨_,o',hv.del k⟩,hX.2⟩,df.mapTurned ((hX.2 m).2 rfl) ht,fun k hk=>.inl hk⟩⟩
end
def GY (g:Gv)(L:List Int):Prop:=L.Pairwise (· < ·)∧∀k,k∈L↔(g k).isSome=true
theorem vV {w:World}{m n:Nat}{g:Gv}{D:DataW Value}(o:w.ownsMap Tryz.prog 3 RC m n D)(hv:lq D g){ss:List Int}(hp:ss.Perm (intKeys D)):GY g (ss.mergeSort (fun x y=>decide (x<=y)))∧ss.length<=n:=by
 obtain⟨es,rfl,hpw,_⟩:=o.entries ie;obtain⟨es',hD',hko⟩:=o.keysOf;obtain rfl:es=es':=by simpa using hD'
 have hkk:∀p∈es,∃x,p.1=.int .i64 x:=fun p hp=>by obtain⟨v,hv⟩:=hko p hp;obtain⟨x,_,hx,_⟩:=Maps.keyOf_i64 Tryz.underlying3 hv;exact⟨x,hx⟩
 have hnd:(intKeys (.map es)).Nodup:=by
  show(es.map fun p=>Go.intOf p.1).Nodup;refine List.pairwise_map.2 (hpw.imp_of_mem fun {p q} hp' hq' hne e=>hne ?_);obtain⟨a,ha⟩:=hkk p hp';obtain⟨b,hb⟩:=hkk q hq';rw[ha,hb]at e⊢;exact congrArg _ e
 have hmem:∀x,x∈intKeys (.map es)↔(g x).isSome=true:=fun x=>by
  rw[<- (hv x).1,Maps.has_eq,List.any_eq_true];show x∈es.map (fun p=>Go.intOf p.1)↔_;rw[List.mem_map];constructor
  ·rintro⟨p,hp',rfl⟩;obtain⟨a,ha⟩:=hkk p hp';exact⟨p,hp',by rw[ha];simp[Lit.sameKey,Go.intOf]⟩
  ·rintro⟨p,hp',hs⟩;obtain⟨a,ha⟩:=hkk p hp';rw[ha]at hs;exact⟨p,hp',by rw[ha];simpa[Lit.sameKey,Go.intOf]using hs⟩
 refine⟨⟨?_,fun k=>?_⟩,?_⟩
 ·have tr:∀a b c:Int,leI a b=true->leI b c=true->leI a c=true:=fun a b c h1 h2=>by simp only[leI,decide_eq_true_eq]at*;exact Int.le_trans h1 h2
  have tt:∀a b:Int,(leI a b||leI b a)=true:=fun a b=>by simp only[leI,Bool.or_eq_true,decide_eq_true_eq];exact Int.le_total a b
  have h1:=List.pairwise_mergeSort tr tt ss;have h2:(ss.mergeSort leI).Nodup:=((List.mergeSort_perm ss leI).trans hp).nodup_iff.2 hnd;refine(List.pairwise_and_iff.2 ⟨h1,h2⟩).imp fun {a b} hab=>?_;have:=of_decide_eq_true hab.1;have h3:=hab.2;omega
 ·rw[((List.mergeSort_perm ss _).trans hp).mem_iff];exact hmem k
 ·rw[hp.length_eq];have:=o.size_le;simpa[intKeys,Maps.size]using this
end
end Go.Proofs.YtdcpfbidcpfboaaGreatDoor
