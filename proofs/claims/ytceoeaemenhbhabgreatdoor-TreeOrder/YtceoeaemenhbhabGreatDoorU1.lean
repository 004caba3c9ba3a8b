/- Walks of the package cowtree and of what it stands on: lemmas, made short. -/
import Derived.Shelf.Strings.OnBuilder
import Derived.Shelf.Strings.Repeat
import Derived.Ground.NamesProg
import Derived.Shelf.SlGeneric
import Derived.Shelf.SlicesG.Cmp
import Derived.Shelf.SlicesQ.IndexFunc
import Derived.Shelf.Spec.SlicesGrow
import Derived.Ground.SlgcProg
import Derived.Ground.SlgfProg
import Derived.Ground.Names8Prog
import Derived.Shelf.Small.Strs
import Derived.Shelf.SlicesE.Clone
import Derived.Ground.SlgnProg
import Derived.Test.YtceoeaemenhbhabGreatDoorProg
import Derived.Test.YtceoeaemenhbhabGreatDoorRows
import Derived.WalkKit
import Derived.WalkSpells
import Derived.WalkLawsBesides
import Derived.Laws.BitsAllLaws
import Derived.Test.YtceoeaemenhbhabGreatDoorChecked
import Derived.Below
import Derived.LoopTactic
import Derived.Lib.LaidTab
import Derived.LaidMore
import Derived.MakeChecks
import Derived.OwnWalk
import Derived.Deep.QuietTactic
import Derived.Laws.OwnMore
import Derived.Laws.LoneSync
import Derived.ChangeMaps4
import Derived.Maps.Keyed
import Derived.BigRegion
import Derived.Maps.AppendAt
import Derived.Deep.RegionLaw
import Derived.Deep.LoopGhost
import Derived.BigQuiet
import Derived.Deep.RegionHeld3
import Derived.Maps.OwnIn
import Derived.Maps.OwnSet
import Derived.Lib.SlKeysI
set_option maxHeartbeats 16000000
set_option maxRecDepth 100000
set_option linter.unusedVariables false
set_option linter.unusedSimpArgs false
section
namespace Go.Proofs
open Go.Shelf
def Tryz.oq:Go.Shelf.Ren:=⟨fun|156=>187|165=>65|166=>66|169=>68|240=>90|241=>91|276=>120|277=>121|n=>n,fun|31=>52|9=>9|3=>3|4=>4|0=>0|20=>20|72=>133|76=>137|70=>130|37=>131|75=>136|127=>169|164=>194|5=>5|80=>139|n=>n,fun|n=>n⟩
theorem Tryz.Bl:Go.Proofs.Lays.n156 Tryz.prog Tryz.oq:={
 mixed:=by kernel_rfl
 f156:=Tryz.func187.trans (congrArg some (by kernel_rfl))
 f165:=Tryz.func65.trans (congrArg some (by kernel_rfl))
 f166:=Tryz.func66.trans (congrArg some (by kernel_rfl))
 f169:=Tryz.func68.trans (congrArg some (by kernel_rfl))
 f240:=Tryz.func90.trans (congrArg some (by kernel_rfl))
 f241:=Tryz.func91.trans (congrArg some (by kernel_rfl))
 f276:=Tryz.func120.trans (congrArg some (by kernel_rfl))
 f277:=Tryz.func121.trans (congrArg some (by kernel_rfl))
 t0:=Tryz.underlying0
 a0:=Tryz.isAgg0
 z0:=Tryz.sizeOf0
 v0:=Tryz.zeroValue0
 t3:=Tryz.underlying3
 a3:=Tryz.isAgg3
 z3:=Tryz.sizeOf3
 v3:=Tryz.zeroValue3
 t4:=Tryz.underlying4
 a4:=Tryz.isAgg4
 z4:=Tryz.sizeOf4
 v4:=Tryz.zeroValue4
 t9:=Tryz.underlying9
 a9:=Tryz.isAgg9
 z9:=Tryz.sizeOf9
 v9:=Tryz.zeroValue9
 t20:=Tryz.underlying20
 a20:=Tryz.isAgg20
 z20:=Tryz.sizeOf20
 v20:=Tryz.zeroValue20
 t31:=Tryz.underlying52
 a31:=Tryz.isAgg52
 z31:=Tryz.sizeOf52
 v31:=Tryz.zeroValue52
 t37:=Tryz.underlying131
 a37:=Tryz.isAgg131
 z37:=Tryz.sizeOf131
 v37:=Tryz.zeroValue131
 t70:=Tryz.underlying130
 a70:=Tryz.isAgg130
 z70:=Tryz.sizeOf130
 v70:=Tryz.zeroValue130
 t72:=Tryz.underlying133
 a72:=Tryz.isAgg133
 z72:=Tryz.sizeOf133
 v72:=Tryz.zeroValue133
 t75:=Tryz.underlying136
 a75:=Tryz.isAgg136
 z75:=Tryz.sizeOf136
 v75:=Tryz.zeroValue136
 t76:=Tryz.underlying137
 a76:=Tryz.isAgg137
 z76:=Tryz.sizeOf137
 v76:=Tryz.zeroValue137
 t127:=Tryz.underlying169
 a127:=Tryz.isAgg169
 z127:=Tryz.sizeOf169
 v127:=Tryz.zeroValue169
 t164:=Tryz.underlying194
 a164:=Tryz.isAgg194
 z164:=Tryz.sizeOf194
 v164:=Tryz.zeroValue194}
theorem Tryz.ia:Builder.Extra Tryz.prog Tryz.oq:={
 sizeBuilder:=by kernel_rfl
 liesBuilder:=by kernel_rfl
 t5:=Tryz.underlying5
 a5:=Tryz.isAgg5
 z5:=Tryz.sizeOf5
 v5:=Tryz.zeroValue5
 infoByte:=by kernel_rfl
 cellsByte:=by kernel_rfl
 sizeByte:=by kernel_rfl
 neB5:=by decide}
open Go.RowKit in
theorem Tryz.strings_Join_none (a:Option Addr)(c:Nat)(sep:ByteArray)(w:World):
 Calls Tryz.prog 187 #[.slice a 0 c,.string sep] w fun e w'=>e=.returned (.string ⟨#[]⟩)∧w'=w:=Any.strings_Join_none Tryz.Bl Tryz.ia a c sep w
open Go.RowKit in
theorem Tryz.strings_Join (bk o c:Nat)(xs:List ByteArray)(sep:ByteArray)(w:World)(hcells:∀(j:Nat) x,xs[j]? =some x->w.cell? ⟨bk,o+j,none⟩=some (.string x))(hbk:bk<w.heap.size)(hN:xs.length<=140737488355328)(hcap:xs.length<=c)(hlen:(Lib.join (xs.map (·.data.toList)) sep.data.toList).length<=140737488355328):
 Calls Tryz.prog 187 #[.slice (some ⟨bk,o,none⟩) xs.length c,.string sep] w fun e w'=>e=.returned (.string ⟨(Lib.join (xs.map (·.data.toList)) sep.data.toList).toArray⟩)∧Below w.heap.size w w':=Any.strings_Join Tryz.Bl Tryz.ia bk o c xs sep w hcells hbk hN hcap hlen
def Tryz.ot:Go.Shelf.Ren:=⟨fun|105=>46|212=>63|99=>64|165=>65|166=>66|170=>67|169=>68|263=>87|264=>88|206=>89|240=>90|241=>91|276=>120|277=>121|n=>n,fun|9=>9|3=>3|4=>4|20=>20|0=>0|46=>127|109=>128|5=>5|72=>133|76=>137|51=>163|146=>164|53=>166|148=>167|70=>130|37=>131|75=>136|127=>169|164=>194|80=>139|n=>n,fun|n=>n⟩
theorem Tryz.Lj:Go.Proofs.Lays.n105 Tryz.prog Tryz.ot:={
 mixed:=by kernel_rfl
 f99:=Tryz.func64.trans (congrArg some (by kernel_rfl))
 f105:=Tryz.func46.trans (congrArg some (by kernel_rfl))
 f165:=Tryz.func65.trans (congrArg some (by kernel_rfl))
 f166:=Tryz.func66.trans (congrArg some (by kernel_rfl))
 f169:=Tryz.func68.trans (congrArg some (by kernel_rfl))
 f170:=Tryz.func67.trans (congrArg some (by kernel_rfl))
 f206:=Tryz.func89.trans (congrArg some (by kernel_rfl))
 f212:=Tryz.func63.trans (congrArg some (by kernel_rfl))
 f240:=Tryz.func90.trans (congrArg some (by kernel_rfl))
 f241:=Tryz.func91.trans (congrArg some (by kernel_rfl))
 f263:=Tryz.func87.trans (congrArg some (by kernel_rfl))
 f264:=Tryz.func88.trans (congrArg some (by kernel_rfl))
 f276:=Tryz.func120.trans (congrArg some (by kernel_rfl))
 f277:=Tryz.func121.trans (congrArg some (by kernel_rfl))
 t0:=Tryz.underlying0
 a0:=Tryz.isAgg0
 z0:=Tryz.sizeOf0
 v0:=Tryz.zeroValue0
 t3:=Tryz.underlying3
 a3:=Tryz.isAgg3
 z3:=Tryz.sizeOf3
 v3:=Tryz.zeroValue3
 t4:=Tryz.underlying4
 a4:=Tryz.isAgg4
 z4:=Tryz.sizeOf4
 v4:=Tryz.zeroValue4
 t5:=Tryz.underlying5
 a5:=Tryz.isAgg5
 z5:=Tryz.sizeOf5
 v5:=Tryz.zeroValue5
 t9:=Tryz.underlying9
 a9:=Tryz.isAgg9
 z9:=Tryz.sizeOf9
 v9:=Tryz.zeroValue9
 t20:=Tryz.underlying20
 a20:=Tryz.isAgg20
 z20:=Tryz.sizeOf20
 v20:=Tryz.zeroValue20
 t37:=Tryz.underlying131
 a37:=Tryz.isAgg131
 z37:=Tryz.sizeOf131
 v37:=Tryz.zeroValue131
 t46:=Tryz.underlying127
 a46:=Tryz.isAgg127
 z46:=Tryz.sizeOf127
 v46:=Tryz.zeroValue127
 t51:=Tryz.underlying163
 a51:=Tryz.isAgg163
 z51:=Tryz.sizeOf163
 v51:=Tryz.zeroValue163
 t53:=Tryz.underlying166
 a53:=Tryz.isAgg166
 z53:=Tryz.sizeOf166
 v53:=Tryz.zeroValue166
 t70:=Tryz.underlying130
 a70:=Tryz.isAgg130
 z70:=Tryz.sizeOf130
 v70:=Tryz.zeroValue130
 t72:=Tryz.underlying133
 a72:=Tryz.isAgg133
 z72:=Tryz.sizeOf133
 v72:=Tryz.zeroValue133
 t75:=Tryz.underlying136
 a75:=Tryz.isAgg136
 z75:=Tryz.sizeOf136
 v75:=Tryz.zeroValue136
 t76:=Tryz.underlying137
 a76:=Tryz.isAgg137
 z76:=Tryz.sizeOf137
 v76:=Tryz.zeroValue137
 t109:=Tryz.underlying128
 a109:=Tryz.isAgg128
 z109:=Tryz.sizeOf128
 v109:=Tryz.zeroValue128
 t127:=Tryz.underlying169
 a127:=Tryz.isAgg169
 z127:=Tryz.sizeOf169
 v127:=Tryz.zeroValue169
 t146:=Tryz.underlying164
 a146:=Tryz.isAgg164
 z146:=Tryz.sizeOf164
 v146:=Tryz.zeroValue164
 t148:=Tryz.underlying167
 a148:=Tryz.isAgg167
 z148:=Tryz.sizeOf167
 v148:=Tryz.zeroValue167
 t164:=Tryz.underlying194
 a164:=Tryz.isAgg194
 z164:=Tryz.sizeOf194
 v164:=Tryz.zeroValue194}
theorem Tryz.lV:Builder.Extra Tryz.prog Tryz.ot:={
 sizeBuilder:=by kernel_rfl
 liesBuilder:=by kernel_rfl
 t5:=Tryz.underlying5
 a5:=Tryz.isAgg5
 z5:=Tryz.sizeOf5
 v5:=Tryz.zeroValue5
 infoByte:=by kernel_rfl
 cellsByte:=by kernel_rfl
 sizeByte:=by kernel_rfl
 neB5:=by decide}
open Go.RowKit in
theorem Tryz.strings_Repeat (s:ByteArray)(c:Nat)(w:World)(hc:c<=9223372036854775807)(hlen:s.size*c<=140737488355328):
 Calls Tryz.prog 46 #[.string s,.int .i64 c] w fun e w'=>e=.returned (.string ⟨(Lib.repeatL s.data.toList c).toArray⟩)∧Below w.heap.size w w':=Any.strings_Repeat Tryz.Lj Tryz.lV s c w hc hlen
def Tryz.zL:Go.Shelf.Ren:=⟨fun|5=>119|7=>159|n=>n,fun|22=>3|3=>3|4=>4|n=>n,fun|n=>n⟩
theorem Tryz.PT:Go.Proofs.SlLaysC2.n5 Tryz.prog Tryz.zL:={
 mixed:=by kernel_rfl
 f5:=⟨Tryz.f119.name,by decide,Tryz.func119.trans (congrArg some (by kernel_rfl))⟩
 f7:=⟨Tryz.f159.name,by decide,Tryz.func159.trans (congrArg some (by kernel_rfl))⟩
 t3:=Tryz.underlying3
 a3:=Tryz.isAgg3
 z3:=Tryz.sizeOf3
 v3:=Tryz.zeroValue3
 t4:=Tryz.underlying4
 a4:=Tryz.isAgg4
 z4:=Tryz.sizeOf4
 v4:=Tryz.zeroValue4
 t22:=Tryz.underlying3
 a22:=Tryz.isAgg3
 z22:=Tryz.sizeOf3
 v22:=Tryz.zeroValue3}
def Tryz.oO:Go.Shelf.Ren:=⟨fun|8=>146|6=>189|n=>n,fun|22=>89|23=>92|25=>219|4=>4|3=>3|0=>0|n=>n,fun|n=>n⟩
theorem Tryz.xi:Go.Proofs.SlLaysH0.n8 Tryz.prog Tryz.oO:={
 mixed:=by kernel_rfl
 f6:=⟨Tryz.f189.name,by decide,Tryz.func189.trans (congrArg some (by kernel_rfl))⟩
 f8:=⟨Tryz.f146.name,by decide,Tryz.func146.trans (congrArg some (by kernel_rfl))⟩
 t0:=Tryz.underlying0
 a0:=Tryz.isAgg0
 z0:=Tryz.sizeOf0
 v0:=Tryz.zeroValue0
 t3:=Tryz.underlying3
 a3:=Tryz.isAgg3
 z3:=Tryz.sizeOf3
 v3:=Tryz.zeroValue3
 t4:=Tryz.underlying4
 a4:=Tryz.isAgg4
 z4:=Tryz.sizeOf4
 v4:=Tryz.zeroValue4
 t22:=Tryz.underlying89
 a22:=Tryz.isAgg89
 z22:=Tryz.sizeOf89
 v22:=Tryz.zeroValue89
 t25:=Tryz.underlying219
 a25:=Tryz.isAgg219
 z25:=Tryz.sizeOf219
 v25:=Tryz.zeroValue219}
def Tryz.fV:Go.Shelf.Ren:=⟨fun|4=>208|n=>n,fun|22=>89|25=>92|3=>3|4=>4|9=>9|20=>20|0=>0|2=>3|n=>n,fun|n=>n⟩
theorem Tryz.Bn:Go.Proofs.Lays8.n4 Tryz.prog Tryz.fV:={
 mixed:=by kernel_rfl
 f4:=⟨Tryz.f208.name,by decide,Tryz.func208.trans (congrArg some (by kernel_rfl))⟩
 t0:=Tryz.underlying0
 a0:=Tryz.isAgg0
 z0:=Tryz.sizeOf0
 v0:=Tryz.zeroValue0
 t3:=Tryz.underlying3
 a3:=Tryz.isAgg3
 z3:=Tryz.sizeOf3
 v3:=Tryz.zeroValue3
 t4:=Tryz.underlying4
 a4:=Tryz.isAgg4
 z4:=Tryz.sizeOf4
 v4:=Tryz.zeroValue4
 t9:=Tryz.underlying9
 a9:=Tryz.isAgg9
 z9:=Tryz.sizeOf9
 v9:=Tryz.zeroValue9
 t20:=Tryz.underlying20
 a20:=Tryz.isAgg20
 z20:=Tryz.sizeOf20
 v20:=Tryz.zeroValue20
 t22:=Tryz.underlying89
 a22:=Tryz.isAgg89
 z22:=Tryz.sizeOf89
 v22:=Tryz.zeroValue89}
def Tryz.qC:Go.Shelf.Ren:=⟨fun|41=>51|n=>n,fun|22=>32|23=>38|4=>4|n=>n,fun|n=>n⟩
theorem Tryz.qD:Go.Proofs.SlLaysE0.n41 Tryz.prog Tryz.qC:={
 mixed:=by kernel_rfl
 f41:=⟨Tryz.f51.name,by decide,Tryz.func51.trans (congrArg some (by kernel_rfl))⟩
 t4:=Tryz.underlying4
 a4:=Tryz.isAgg4
 z4:=Tryz.sizeOf4
 v4:=Tryz.zeroValue4
 t22:=Tryz.underlying32
 a22:=Tryz.isAgg32
 z22:=Tryz.sizeOf32
 v22:=Tryz.zeroValue32}
def Tryz.xj:Go.Shelf.Ren:=⟨fun|106=>79|213=>108|265=>145|n=>n,fun|9=>9|3=>3|n=>n,fun|n=>n⟩
theorem Tryz.Lk:Go.Proofs.Lays.n106 Tryz.prog Tryz.xj:={
 mixed:=by kernel_rfl
 f106:=Tryz.func79.trans (congrArg some (by kernel_rfl))
 f213:=Tryz.func108.trans (congrArg some (by kernel_rfl))
 f265:=Tryz.func145.trans (congrArg some (by kernel_rfl))
 t3:=Tryz.underlying3
 a3:=Tryz.isAgg3
 z3:=Tryz.sizeOf3
 v3:=Tryz.zeroValue3
 t9:=Tryz.underlying9
 a9:=Tryz.isAgg9
 z9:=Tryz.sizeOf9
 v9:=Tryz.zeroValue9}
end Go.Proofs
end
namespace Go.Proofs.YtceoeaemenhbhabGreatDoor
section
section
def beNat (l:List UInt8):Nat:=l.foldl (fun a c=>a*256+c.toNat) 0
def beBytes:Nat->Nat->List UInt8
 |0,_=>[]
 |k+1,n=>beBytes k (n/256)++[UInt8.ofNat (n%256)]
theorem jg (l:List UInt8)(c:UInt8):beNat (l++[c])=beNat l*256+c.toNat:=by simp[beNat]
theorem beBytes_length (k:Nat):∀n,(beBytes k n).length=k:=by
 induction k with
 |zero=>intro n;rfl
 |succ k ih=>intro n;simp[beBytes,ih]
theorem Bo {α:Type}(l:List α)(k:Nat)(h:l.length=k+1):∃a c,l=a++[c]∧a.length=k:=by
 have hne:l≠[]:=by intro e;subst e;simp at h
 refine⟨l.dropLast,l.getLast hne,(List.dropLast_concat_getLast hne).symm,by simp[h]⟩
theorem uU (k:Nat):∀l:List UInt8,l.length=k->beNat l<256^k:=by
 induction k with
 |zero=>intro l h;rw[List.length_eq_zero_iff.1 h];decide
 |succ k ih=>
  intro l h;obtain⟨a,c,rfl,ha⟩:=Bo l k h;have h1:=ih a ha;have h2:c.toNat<256:=UInt8.toNat_lt c;rw[jg,Nat.pow_succ];omega
theorem xk (l:List UInt8):beNat l<256^l.length:=uU _ l rfl
theorem jC (k:Nat):∀n,n<256^k->beNat (beBytes k n)=n:=by
 induction k with
 |zero=>intro n h;simp at h;subst h;rfl
 |succ k ih=>
  intro n h;rw[beBytes,jg,ih (n/256) (by rw[Nat.pow_succ]at h;omega)];have:(UInt8.ofNat (n%256)).toNat=n%256:=by simp
  omega
theorem xl (k:Nat):∀l:List UInt8,l.length=k->beBytes k (beNat l)=l:=by
 induction k with
 |zero=>intro l h;rw[List.length_eq_zero_iff.1 h];rfl
 |succ k ih=>
  intro l h;obtain⟨a,c,rfl,ha⟩:=Bo l k h;have h2:c.toNat<256:=UInt8.toNat_lt c;rw[jg,beBytes];have e1:(beNat a*256+c.toNat)/256=beNat a:=by omega
  have e2:(beNat a*256+c.toNat)%256=c.toNat:=by omega
  rw[e1,e2,ih a ha];simp
theorem zM (l:List UInt8)(k:Nat)(h:k<l.length):beNat (l.take (k+1))=beNat (l.take k)*256+(l[k]).toNat:=by
 rw[List.take_succ_eq_append_getElem h,jg]
theorem tx (l:List UInt8)(k:Nat)(h:k<4):beNat (l.take k)<16777216:=by
 have h1:=xk (l.take k);have h2:(l.take k).length<=3:=by simp;omega
 have h3:256^(l.take k).length<=256^3:=Nat.pow_le_pow_right (by omega) h2;have h4:(256:Nat)^3=16777216:=by decide
 omega
end
section
open Go.RowKit
def bS (n:Int):Bool:=decide (n=1∨n=2∨n=4)
structure Rd (b:Nat)(s:ByteArray)(e:Int)(w:World):Prop where
 blk:w.heap[b]? =some (.cells #[.string s,.int .i64 e] 263 (0,0))
 sz:s.size<=maxLen
structure Only (b:Nat)(w w':World):Prop where
 os:w'.os=w.os
 tape:w'.tape=w.tape
 output:w'.output=w.output
 size:w'.heap.size=w.heap.size
 block:∀k,k≠b->w'.heap[k]? =w.heap[k]?
theorem Only.refl (b:Nat)(w:World):Only b w w:=⟨rfl,rfl,rfl,rfl,fun _ _=>rfl⟩
theorem Only.trans {b:Nat}{u v w:World}(h:Only b u v)(k:Only b v w):Only b u w:=
 ⟨k.os.trans h.os,k.tape.trans h.tape,k.output.trans h.output,k.size.trans h.size,fun i hi=>(k.block i hi).trans (h.block i hi)⟩
theorem Only.setCell (b o:Nat)(w:World)(v:Value):Only b w (w.setCell ⟨b,o,none⟩ v):=
 ⟨rfl,rfl,rfl,by simp[World.setCell],fun k hk=>Below.heap_setCell _ _ _ _ hk⟩
theorem Only.below {B b:Nat}{w w':World}(h:Only b w w')(hB:B<=b):Below B w w':=
 ⟨h.os,h.tape,h.output,Nat.le_of_eq h.size.symm,fun k hk=>h.block k (by omega)⟩
theorem Rd.lt {b:Nat}{s:ByteArray}{e:Int}{w:World}(h:Rd b s e w):b<w.heap.size:=by
 have:=h.blk;rw[Array.getElem?_eq_some_iff]at this;exact this.1
theorem Rd.c0 {b:Nat}{s:ByteArray}{e:Int}{w:World}(h:Rd b s e w):w.cell? ⟨b,0,none⟩=some (.string s):=by simp[World.cell?,h.blk]
theorem Rd.c1 {b:Nat}{s:ByteArray}{e:Int}{w:World}(h:Rd b s e w):w.cell? ⟨b,1,none⟩=some (.int .i64 e):=by simp[World.cell?,h.blk]
theorem Rd.f0 {b:Nat}{s:ByteArray}{e:Int}{w:World}(h:Rd b s e w):w.frozen? ⟨b,0,none⟩=false:=by simp[World.frozen?,h.blk]
theorem Rd.f1 {b:Nat}{s:ByteArray}{e:Int}{w:World}(h:Rd b s e w):w.frozen? ⟨b,1,none⟩=false:=by simp[World.frozen?,h.blk]
theorem Rd.set0 {b:Nat}{s:ByteArray}{e:Int}{w:World}(h:Rd b s e w)(t:ByteArray)(ht:t.size<=maxLen):Rd b t e (w.setCell ⟨b,0,none⟩ (.string t)):=
 ⟨by simp[World.setCell,Array.getElem?_modify,h.blk],ht⟩
theorem Rd.set1 {b:Nat}{s:ByteArray}{e:Int}{w:World}(h:Rd b s e w)(n:Int):Rd b s n (w.setCell ⟨b,1,none⟩ (.int .i64 n)):=
 ⟨by simp[World.setCell,Array.getElem?_modify,h.blk],h.sz⟩
theorem Rd.below {b B:Nat}{s:ByteArray}{e:Int}{w w':World}(h:Rd b s e w)(k:Below B w w')(hb:b<B):Rd b s e w':=⟨(k.block b hb).trans h.blk,h.sz⟩
theorem Rd.made (s:ByteArray)(hs:s.size<=maxLen)(w:World):Rd w.heap.size s 0 (w.alloc (.cells #[.string s,.int .i64 0] 263)):=
 ⟨by show(w.heap.push _)[w.heap.size]? =_;simp,hs⟩
theorem qE {a b:Bool}(h:a=b):Ending.returned (.bool a)=.returned (.bool b):=by rw[h]
theorem j7 {k:IntKind}{a b:Int}(h:a=b):Ending.returned (.int k a)=.returned (.int k b):=by rw[h]
theorem dm (n:Int)(w:World):
  Calls Tryz.prog 188 #[.int .i64 n] w fun e w'=>e=.returned (.bool (bS n))∧w=w':=by
 by_cases h1:n=1
 ·subst h1;go_enter Tryz.func188,Tryz.ntmps188;go_wp2;go_ret;exact⟨rfl,rfl⟩
 ·by_cases h2:n=2
  ·subst h2;go_enter Tryz.func188,Tryz.ntmps188;go_wp2;go_ret;exact⟨rfl,rfl⟩
  ·by_cases h4:n=4
   ·subst h4;go_enter Tryz.func188,Tryz.ntmps188;go_wp2;go_ret;exact⟨rfl,rfl⟩
   ·have e1:(n==1)=false:=beq_eq_false_iff_ne.2 h1;have e2:(n==2)=false:=beq_eq_false_iff_ne.2 h2;have e4:(n==4)=false:=beq_eq_false_iff_ne.2 h4;have hs:bS n=false:=by simp[bS,h1,h2,h4]
    have HS:Hid (bS n=false):=hs;clear hs h1 h2 h4;go_enter Tryz.func188,Tryz.ntmps188;go_wp2;go_ret;exact⟨qE HS.out.symm,rfl⟩
theorem jD (b:Nat)(s:ByteArray)(e:Int)(w:World)(h:Rd b s e w):
  Calls Tryz.prog 155 #[.pointer (some ⟨b,0,none⟩)] w fun r w'=>r=.returned (.int .i64 s.size)∧w=w':=by
 have c0:=h.c0;have c1:=h.c1;have f0:=h.f0;have f1:=h.f1;have lt:=h.lt;clear h;go_enter Tryz.func155,Tryz.ntmps155;go_wp2;go_ret;exact⟨rfl,rfl⟩
theorem lX (b:Nat)(s:ByteArray)(e:Int)(w:World)(h:Rd b s e w):
  Calls Tryz.prog 154 #[.pointer (some ⟨b,0,none⟩)] w fun r w'=>r=.returned (.int .i64 e)∧w=w':=by
 have c0:=h.c0;have c1:=h.c1;have f0:=h.f0;have f1:=h.f1;have lt:=h.lt;clear h;go_enter Tryz.func154,Tryz.ntmps154;go_wp2;go_ret;exact⟨rfl,rfl⟩
theorem qF (s:ByteArray)(w:World):
  Calls Tryz.prog 152 #[.string s] w fun r w'=>r=.returned (.pointer (some ⟨w.heap.size,0,none⟩))∧w'=w.alloc (.cells #[.string s,.int .i64 0] 263):=by
 go_enter Tryz.func152,Tryz.ntmps152;go_wp2;go_ret;exact⟨rfl,rfl⟩
theorem uV (b:Nat)(s:ByteArray)(n:Int)(w:World)(h:Rd b s 0 w):
  Calls Tryz.prog 195 #[.pointer (some ⟨b,0,none⟩),.int .i64 n] w fun r w'=>r=.returned (.tuple #[])∧w'=w.setCell ⟨b,1,none⟩ (.int .i64 n):=by
 have c0:=h.c0;have c1:=h.c1;have f0:=h.f0;have f1:=h.f1;have lt:=h.lt;clear h;go_enter Tryz.func195,Tryz.ntmps195;go_wp2
 go_end0
 exact⟨rfl,rfl⟩
theorem Ll (b:Nat)(s:ByteArray)(e n:Int)(w:World)(h:Rd b s e w)(he:e≠0):
  Calls Tryz.prog 195 #[.pointer (some ⟨b,0,none⟩),.int .i64 n] w fun r w'=>r=.returned (.tuple #[])∧w=w':=by
 have c0:=h.c0;have c1:=h.c1;have f0:=h.f0;have f1:=h.f1;have lt:=h.lt;clear h;have e1:(e==0)=false:=beq_eq_false_iff_ne.2 he;clear he;go_enter Tryz.func195,Tryz.ntmps195;go_wp2
 go_end0
 exact⟨rfl,rfl⟩
def aO (s:ByteArray)(e n:Int):ByteArray×ByteArray×Int:=
 if e≠0 then(ByteArray.empty,s,e)else if n<0 then(ByteArray.empty,s,1)else if(s.size:Int)<n then(ByteArray.empty,s,10)else(s.extract 0 n.toNat,s.extract n.toNat s.size,0)
theorem gG (b:Nat)(s:ByteArray)(e n:Int)(w:World)(h:Rd b s e w):
  Calls Tryz.prog 196 #[.pointer (some ⟨b,0,none⟩),.int .i64 n] w fun r w'=>r=.returned (.string (aO s e n).1)∧Rd b (aO s e n).2.1 (aO s e n).2.2 w'∧Only b w w':=by
 have c0:=h.c0;have c1:=h.c1;have f0:=h.f0;have f1:=h.f1;have lt:=h.lt;have sz:=h.sz;have H:Hid (Rd b s e w):=h;clear h;by_cases he:e=0
 ·subst he;by_cases hn:n<0
  ·have E:Hid (aO s 0 n=(ByteArray.empty,s,1)):=by simp[Hid,aO,hn]
   go_enter Tryz.func196,Tryz.ntmps196
   go_wp2_with (go_at_call 195;refine(uV b s _ _ H.out).mono ?_;rintro e w' ⟨rfl,rfl⟩)
   go_ret;rw[E.out];exact⟨rfl,H.out.set1 _,Only.setCell _ _ _ _⟩
  ·by_cases hl:(s.size:Int)<n
   ·have E:Hid (aO s 0 n=(ByteArray.empty,s,10)):=by simp[Hid,aO,hn,hl]
    go_enter Tryz.func196,Tryz.ntmps196
    go_wp2_with (go_at_call 195;refine(uV b s _ _ H.out).mono ?_;rintro e w' ⟨rfl,rfl⟩)
    go_ret;rw[E.out];exact⟨rfl,H.out.set1 _,Only.setCell _ _ _ _⟩
   ·have E:Hid (aO s 0 n=(s.extract 0 n.toNat,s.extract n.toNat s.size,0)):=by simp[Hid,aO,hn,hl]
    obtain⟨m,rfl⟩:=Int.eq_ofNat_of_zero_le (Int.not_lt.1 hn);have hm:m<=s.size:=by omega
    go_enter Tryz.func196,Tryz.ntmps196;go_wp2;go_ret;rw[E.out];refine⟨?_,?_,?_⟩
    ·rfl
    ·exact H.out.set0 _ (by simp;omega)
    ·exact Only.setCell _ _ _ _
 ·have E:Hid (aO s e n=(ByteArray.empty,s,e)):=by simp[Hid,aO,he]
  have e1:(e != 0)=true:=by rw[bne_iff_ne];exact he
  clear he;go_enter Tryz.func196,Tryz.ntmps196;go_wp2;go_ret;rw[E.out];exact⟨rfl,H.out,Only.refl _ _⟩
end
section
open Go.RowKit
theorem zO (a b:Nat)(ha:a<4611686018427387904)(hb:b<4611686018427387904):bits .or .i64 (a:Int) (b:Int)=((a|||b:Nat):Int):=by
 have hx:a|||b<2^62:=Nat.or_lt_two_pow (by omega) (by omega)
 show IntKind.i64.wrap ((BitVec.ofInt 64 (a:Int)|||BitVec.ofInt 64 (b:Int)).toNat:Int)=_;rw[BitVec.toNat_or,ofInt_u64 a (by omega),ofInt_u64 b (by omega),IntKind.wrap_i64];omega
theorem Lm (m c:Nat)(hm:m<16777216)(hc:c<256):Value.int .i64 (bits .or .i64 ((m:Int)*256) (wrap64 (c:Int)))=.int .i64 ((m*256+c:Nat):Int):=by
 have e1:wrap64 (c:Int)=(c:Int):=by unfold wrap64;omega
 have e2:((m:Int)*256)=((m*256:Nat):Int):=by omega
 rw[e1,e2,zO _ _ (by omega) (by omega),nat_join 8 _ _ (by omega) (by omega)]
def gP (s:ByteArray)(e:Int):Int:=if e≠0 then e else if s.size=0 then 0 else 11
theorem po (b:Nat)(s:ByteArray)(e:Int)(w:World)(h:Rd b s e w):
  Calls Tryz.prog 157 #[.pointer (some ⟨b,0,none⟩)] w fun r w'=>r=.returned (.int .i64 (gP s e))∧w=w':=by
 have H:Hid (Rd b s e w):=h;have sz:=h.sz;clear h;by_cases he:e=0
 ·subst he;by_cases hs:s.size=0
  ·have E:Hid (gP s 0=0):=by simp[Hid,gP,hs]
   have hs':¬(0:Int)< (s.size:Int):=by omega
   clear hs;go_enter Tryz.func157,Tryz.ntmps157
   go_wp2_with (first| (go_at_call 154;refine(lX b s _ _ H.out).mono ?_;rintro e w' ⟨rfl,rfl⟩)| (go_at_call 155;refine(jD b s _ _ H.out).mono ?_;rintro e w' ⟨rfl,rfl⟩))
   go_ret;exact⟨j7 E.out.symm,rfl⟩
  ·have E:Hid (gP s 0=11):=by simp[Hid,gP,hs]
   have hs':(0:Int)< (s.size:Int):=by omega
   clear hs;go_enter Tryz.func157,Tryz.ntmps157
   go_wp2_with (first| (go_at_call 154;refine(lX b s _ _ H.out).mono ?_;rintro e w' ⟨rfl,rfl⟩)| (go_at_call 155;refine(jD b s _ _ H.out).mono ?_;rintro e w' ⟨rfl,rfl⟩))
   go_ret;exact⟨j7 E.out.symm,rfl⟩
 ·have E:Hid (gP s e=e):=by simp[Hid,gP,he]
  have e1:(e != 0)=true:=by rw[bne_iff_ne];exact he
  clear he;go_enter Tryz.func157,Tryz.ntmps157
  go_wp2_with (first| (go_at_call 154;refine(lX b s _ _ H.out).mono ?_;rintro e w' ⟨rfl,rfl⟩)| (go_at_call 155;refine(jD b s _ _ H.out).mono ?_;rintro e w' ⟨rfl,rfl⟩))
  go_ret;exact⟨j7 E.out.symm,rfl⟩
def cB (s:ByteArray)(e n:Int):Int×ByteArray×Int:=
 if bS n=false then(0,s,if e≠0 then e else 1)else((beNat (aO s e n).1.data.toList:Int),(aO s e n).2.1,(aO s e n).2.2)
theorem xn (s:ByteArray)(e n:Int)(h:bS n=true):(aO s e n).1.size<=4:=by
 have:n=1∨n=2∨n=4:=by simpa[bS]using h
 unfold aO;split
 ·simp
 ·split
  ·simp
  ·split
   ·simp
   ·simp;omega
theorem lY (b:Nat)(s:ByteArray)(e n:Int)(w:World)(h:Rd b s e w):
  Calls Tryz.prog 153 #[.pointer (some ⟨b,0,none⟩),.int .i64 n] w fun r w'=>r=.returned (.int .i64 (cB s e n).1)∧Rd b (cB s e n).2.1 (cB s e n).2.2 w'∧Only b w w':=by
 have H:Hid (Rd b s e w):=h;have sz:=h.sz;clear h;cases hz:bS n
 ·by_cases he:e=0
  ·subst he;have E:Hid (cB s 0 n=(0,s,1)):=by simp[Hid,cB,hz]
   go_enter Tryz.func153,Tryz.ntmps153
   go_wp2_with (first| (go_at_call 188;refine(dm _ _).mono ?_;rintro e w' ⟨rfl,rfl⟩)| (go_at_call 195;refine(uV b s _ _ H.out).mono ?_;rintro e w' ⟨rfl,rfl⟩))
   go_ret;rw[E.out];exact⟨rfl,H.out.set1 _,Only.setCell _ _ _ _⟩
  ·have E:Hid (cB s e n=(0,s,e)):=by simp[Hid,cB,hz,he]
   go_enter Tryz.func153,Tryz.ntmps153
   go_wp2_with (first| (go_at_call 188;refine(dm _ _).mono ?_;rintro e w' ⟨rfl,rfl⟩)| (go_at_call 195;refine(Ll b s _ _ _ H.out he).mono ?_;rintro e w' ⟨rfl,rfl⟩))
   go_ret;rw[E.out];exact⟨rfl,H.out,Only.refl _ _⟩
 ·have E:Hid (cB s e n=((beNat (aO s e n).1.data.toList:Int),(aO s e n).2.1,(aO s e n).2.2)):=by simp[Hid,cB,hz]
  have h4:=xn s e n hz;have C:=gG b s e n w H.out
  revert C E h4
  generalize aO s e n=t;obtain⟨x,s',e'⟩:=t;intro E h4 C0;have C:Hid _:=C0;clear C0;simp only at h4;go_enter Tryz.func153,Tryz.ntmps153
  go_wp2_with (first| (go_at_call 188;refine(dm _ _).mono ?_;rintro e w' ⟨rfl,rfl⟩)| (go_at_call 196;refine Calls.mono C.out ?_;rintro e w' ⟨rfl,hr,ho⟩))
  go_loop [6,18] (fun v i=>∃k:Nat,k<=x.size∧i=.int .i64 k∧v=.int .i64 (beNat (x.data.toList.take k))) (fun _ i=>x.size- (intOf i).toNat)
  case atStart=>exact⟨0,Nat.zero_le _,rfl,rfl⟩
  case round=>
   obtain⟨k,hk,rfl,rfl⟩:=hrel;by_cases hlt:k<x.size
   ·have T:Hid (beNat (x.data.toList.take (k+1))=beNat (x.data.toList.take k)*256+x[k].toNat):=zM x.data.toList k (by simpa using hlt);have B:=tx x.data.toList k (by omega);go_wp2;have C8:x[k].toNat<256:=UInt8.toNat_lt _;refine⟨⟨k+1,by omega,by go_num,?_⟩,by simp[intOf];omega⟩;rw[T.out,Lm _ _ B C8]
   ·have T:Hid (x.data.toList.take k=x.data.toList):=List.take_of_length_le (by simp;omega);go_wp2;go_ret;rw[E.out];exact⟨j7 (by rw[T.out]),hr,ho⟩
end
section
open Go.RowKit
def fK (size n:Int):Bool:=bS size&&decide (0<=n∧n< ((256^size.toNat:Nat):Int))
def mX (size n:Int):List UInt8:=if fK size n=true then beBytes size.toNat n.toNat else []
def mY (size n:Int):Int:=if fK size n=true then 0 else 1
theorem Fv (size n:Int)(w:World)(h:bS size=false):
  Calls Tryz.prog 144 #[.int .i64 size,.int .i64 n] w fun r w'=>r=.returned (.tuple #[.string ⟨#[]⟩,.int .i64 1])∧w=w':=by
 go_enter Tryz.func144,Tryz.ntmps144
 go_wp2_with (go_at_call 188;refine(dm _ _).mono ?_;rintro e w' ⟨rfl,rfl⟩)
 go_ret2;exact⟨rfl,rfl⟩
theorem Ln (size n:Int)(w:World)(h:bS size=true)(hn:n<0):
  Calls Tryz.prog 144 #[.int .i64 size,.int .i64 n] w fun r w'=>r=.returned (.tuple #[.string ⟨#[]⟩,.int .i64 1])∧w=w':=by
 go_enter Tryz.func144,Tryz.ntmps144
 go_wp2_with (go_at_call 188;refine(dm _ _).mono ?_;rintro e w' ⟨rfl,rfl⟩)
 go_ret2;exact⟨rfl,rfl⟩
theorem Fw (n:Int)(w:World)(hn:¬n<0)(hb:(n/256 != 0)=true):
  Calls Tryz.prog 144 #[.int .i64 1,.int .i64 n] w fun r w'=>r=.returned (.tuple #[.string ⟨#[]⟩,.int .i64 1])∧w=w':=by
 have h:bS 1=true:=rfl;go_enter Tryz.func144,Tryz.ntmps144
 go_wp2_with (go_at_call 188;refine(dm _ _).mono ?_;rintro e w' ⟨rfl,rfl⟩)
 go_ret2;exact⟨rfl,rfl⟩
theorem Fx (n:Int)(w:World)(hn:¬n<0)(hb:(n/65536 != 0)=true):
  Calls Tryz.prog 144 #[.int .i64 2,.int .i64 n] w fun r w'=>r=.returned (.tuple #[.string ⟨#[]⟩,.int .i64 1])∧w=w':=by
 have h:bS 2=true:=rfl;go_enter Tryz.func144,Tryz.ntmps144
 go_wp2_with (go_at_call 188;refine(dm _ _).mono ?_;rintro e w' ⟨rfl,rfl⟩)
 go_ret2;exact⟨rfl,rfl⟩
theorem Fy (n:Int)(w:World)(hn:¬n<0)(hb:(n/4294967296 != 0)=true):
  Calls Tryz.prog 144 #[.int .i64 4,.int .i64 n] w fun r w'=>r=.returned (.tuple #[.string ⟨#[]⟩,.int .i64 1])∧w=w':=by
 have h:bS 4=true:=rfl;go_enter Tryz.func144,Tryz.ntmps144
 go_wp2_with (go_at_call 188;refine(dm _ _).mono ?_;rintro e w' ⟨rfl,rfl⟩)
 go_ret2;exact⟨rfl,rfl⟩
theorem qG (l:List UInt8)(cs:Array Value)(w:World)(m c:Nat)(hcs:cs=(l.map fun b=>Value.int .u8 (b.toNat:Int)).toArray)(hm:m=l.length):
  Sem.run Tryz.prog (convert 131 9 (.slice (some ⟨w.heap.size,0,none⟩) m c)) (w.alloc (.cells cs 5))=.ok (.string ⟨l.toArray⟩) (w.alloc (.cells cs 5)):=by
 subst hm;refine run_convert_bytes_back _ 131 9 5 _ c l Tryz.underlying131 Tryz.underlying5 Tryz.underlying9 (fun j hj=>?_);have e:(⟨w.heap.size,0,none⟩:Addr).add j=⟨w.heap.size,j,none⟩:=by simp[Addr.add];intro h;omega
 rw[e,World.cell?_alloc_at cs 5 _ j rfl,hcs];simp[List.getElem?_eq_getElem hj]
theorem TK (n:Nat)(w:World)(hn:n<256):
  Calls Tryz.prog 144 #[.int .i64 1,.int .i64 n] w fun r w'=>r=.returned (.tuple #[.string ⟨(beBytes 1 n).toArray⟩,.int .i64 0])∧Below w.heap.size w w':=by
 have h:bS 1=true:=rfl;have hb:(((n:Int)/256) != 0)=false:=by simp;omega
 have hn0:¬(n:Int)<0:=by omega
 have hmk:∀w,(Instr.makeSlice 131 (.int .i64 1) (.int .i64 1)).run Tryz.prog w=.ok (.slice (some ⟨w.heap.size,0,none⟩) 1 1) (w.alloc (.cells #[.int .u8 0] 5)):=fun _=>by kernel_rfl
 have hcv:=qG (beBytes 1 n) #[.int .u8 (n:Int)] w 1 1 (by simp[beBytes];omega) (beBytes_length _ _).symm;go_enter Tryz.func144,Tryz.ntmps144
 go_wp2_with (go_at_call 188;refine(dm _ _).mono ?_;rintro e w' ⟨rfl,rfl⟩)
 refine wp_loop_rounds 2 ?_
 repeat any_goals (rw[rounds_succ];go_wp2)
 go_ret2;exact⟨rfl,(Below.refl _ _).alloc (Nat.le_refl _) _⟩
theorem TM (n:Nat)(w:World)(hn:n<65536):
  Calls Tryz.prog 144 #[.int .i64 2,.int .i64 n] w fun r w'=>r=.returned (.tuple #[.string ⟨(beBytes 2 n).toArray⟩,.int .i64 0])∧Below w.heap.size w w':=by
 have h:bS 2=true:=rfl;have hb:(((n:Int)/65536) != 0)=false:=by simp;omega
 have hn0:¬(n:Int)<0:=by omega
 have hmk:∀w,(Instr.makeSlice 131 (.int .i64 2) (.int .i64 2)).run Tryz.prog w=.ok (.slice (some ⟨w.heap.size,0,none⟩) 2 2) (w.alloc (.cells #[.int .u8 0,.int .u8 0] 5)):=fun _=>by kernel_rfl
 have hcv:=qG (beBytes 2 n) #[.int .u8 ((n:Int)/256),.int .u8 ((n:Int)%256)] w 2 2 (by simp[beBytes];omega) (beBytes_length _ _).symm;go_enter Tryz.func144,Tryz.ntmps144
 go_wp2_with (go_at_call 188;refine(dm _ _).mono ?_;rintro e w' ⟨rfl,rfl⟩)
 refine wp_loop_rounds 3 ?_
 repeat any_goals (rw[rounds_succ];go_wp2)
 go_ret2;exact⟨rfl,(Below.refl _ _).alloc (Nat.le_refl _) _⟩
theorem PU (n:Nat)(w:World)(hn:n<4294967296):
  Calls Tryz.prog 144 #[.int .i64 4,.int .i64 n] w fun r w'=>r=.returned (.tuple #[.string ⟨(beBytes 4 n).toArray⟩,.int .i64 0])∧Below w.heap.size w w':=by
 have h:bS 4=true:=rfl;have hb:(((n:Int)/4294967296) != 0)=false:=by simp;omega
 have hn0:¬(n:Int)<0:=by omega
 have hmk:∀w,(Instr.makeSlice 131 (.int .i64 4) (.int .i64 4)).run Tryz.prog w=.ok (.slice (some ⟨w.heap.size,0,none⟩) 4 4) (w.alloc (.cells #[.int .u8 0,.int .u8 0,.int .u8 0,.int .u8 0] 5)):=fun _=>by kernel_rfl
 have hcv:=qG (beBytes 4 n) #[.int .u8 ((n:Int)/16777216),.int .u8 ((n:Int)/65536%256),.int .u8 ((n:Int)/256%256),.int .u8 ((n:Int)%256)] w 4 4 (by simp[beBytes];omega) (beBytes_length _ _).symm;go_enter Tryz.func144,Tryz.ntmps144
 go_wp2_with (go_at_call 188;refine(dm _ _).mono ?_;rintro e w' ⟨rfl,rfl⟩)
 refine wp_loop_rounds 5 ?_
 repeat any_goals (rw[rounds_succ];go_wp2)
 go_ret2;exact⟨rfl,(Below.refl _ _).alloc (Nat.le_refl _) _⟩
theorem qH {size n:Int}{r:Ending}{w w':World}(hp:fK size n=false)(h:r=.returned (.tuple #[.string ⟨#[]⟩,.int .i64 1])∧w=w'):
  r=.returned (.tuple #[.string ⟨(mX size n).toArray⟩,.int .i64 (mY size n)])∧Below w.heap.size w w':=by
 obtain⟨rfl,rfl⟩:=h;simp[mX,mY,hp,Below.refl]
theorem uW {size n:Int}{r:Ending}{w w':World}(k m:Nat)(hk:size=k)(hm:n=m)(hp:fK size n=true)(h:r=.returned (.tuple #[.string ⟨(beBytes k m).toArray⟩,.int .i64 0])∧Below w.heap.size w w'):
  r=.returned (.tuple #[.string ⟨(mX size n).toArray⟩,.int .i64 (mY size n)])∧Below w.heap.size w w':=by
 obtain⟨rfl,hb⟩:=h;subst hk hm;simp[mX,mY,hp,hb]
theorem lZ (size n:Int)(w:World):
  Calls Tryz.prog 144 #[.int .i64 size,.int .i64 n] w fun r w'=>r=.returned (.tuple #[.string ⟨(mX size n).toArray⟩,.int .i64 (mY size n)])∧Below w.heap.size w w':=by
 cases hz:bS size
 ·exact(Fv size n w hz).mono fun r w' h=>qH (by simp[fK,hz]) h
 ·by_cases hn:n<0
  ·exact(Ln size n w hz hn).mono fun r w' h=>qH (by simp[fK];intro _ _;omega) h
  ·obtain⟨m,rfl⟩:=Int.eq_ofNat_of_zero_le (Int.not_lt.1 hn);have hs:size=1∨size=2∨size=4:=by simpa[bS]using hz
   rcases hs with rfl|rfl|rfl
   ·by_cases hb:m<256
    ·exact(TK m w hb).mono fun r w' h=>uW 1 m rfl rfl (by simp[fK,hz];omega) h
    ·exact(Fw m w hn (by rw[bne_iff_ne];omega)).mono fun r w' h=>qH (by simp[fK];omega) h
   ·by_cases hb:m<65536
    ·exact(TM m w hb).mono fun r w' h=>uW 2 m rfl rfl (by simp[fK,hz];omega) h
    ·exact(Fx m w hn (by rw[bne_iff_ne];omega)).mono fun r w' h=>qH (by simp[fK];omega) h
   ·by_cases hb:m<4294967296
    ·exact(PU m w hb).mono fun r w' h=>uW 4 m rfl rfl (by simp[fK,hz];omega) h
    ·exact(Fy m w hn (by rw[bne_iff_ne];omega)).mono fun r w' h=>qH (by simp[fK];omega) h
end
section
open Go.RowKit
def cat (xs:List ByteArray):List UInt8:=(xs.map (·.data.toList)).flatten
theorem xo (xs:List ByteArray):Lib.join (xs.map (·.data.toList)) (ByteArray.data ⟨#[]⟩).toList=cat xs:=by
 cases xs with
 |nil=>rfl
 |cons x r=>
  rw[List.map_cons,Lib.join_cons];simp[cat,Lib.joinTail];rfl
theorem qI (bk o c m:Nat)(xs:List ByteArray)(w:World)(hcells:∀(j:Nat) x,xs[j]? =some x->w.cell? ⟨bk,o+j,none⟩=some (.string x))(hbk:bk<w.heap.size)(hm:xs.length=m)(hN:xs.length<=140737488355328)(hcap:xs.length<=c)(hlen:(cat xs).length<=140737488355328):
  Calls Tryz.prog 143 #[.slice (some ⟨bk,o,none⟩) m c] w fun r w'=>r=.returned (.string ⟨(cat xs).toArray⟩)∧Below w.heap.size w w':=by
 subst hm;have C:Hid _:=Tryz.strings_Join bk o c xs ⟨#[]⟩ w hcells hbk hN hcap (by rw[xo];exact hlen);rw[xo]at C;clear hcells hlen;go_enter Tryz.func143,Tryz.ntmps143
 go_wp2_with (go_at_call 187;refine Calls.mono C.out ?_;rintro e w' ⟨rfl,hb⟩)
 go_ret;exact⟨rfl,hb⟩
theorem join_none (a:Option Addr)(c:Nat)(w:World):
  Calls Tryz.prog 143 #[.slice a 0 c] w fun r w'=>r=.returned (.string ⟨#[]⟩)∧w=w':=by
 go_enter Tryz.func143,Tryz.ntmps143
 go_wp2_with (go_at_call 187;refine(Tryz.strings_Join_none a c _ w).mono ?_;rintro e w' ⟨rfl,rfl⟩)
 go_ret;exact⟨rfl,rfl⟩
theorem TN (x y:ByteArray)(w:World)(hl:x.size+y.size<=140737488355328):
  Calls Tryz.prog 143 #[.slice (some ⟨w.heap.size,0,none⟩) 2 2] (w.alloc (.cells #[.string x,.string y] 9)) fun r w'=>r=.returned (.string ⟨(x.data.toList++y.data.toList).toArray⟩)∧Below w.heap.size w w':=by
 have hc:cat [x,y]=x.data.toList++y.data.toList:=by simp[cat]
 have h:=qI w.heap.size 0 2 2 [x,y] (w.alloc (.cells #[.string x,.string y] 9)) (fun j z hj=>?_) (by simp) rfl (by simp) (by simp) (by rw[hc];simpa using hl)
 ·rw[hc]at h;exact h.mono fun r w' ⟨a,b⟩=>⟨a,((Below.refl _ _).alloc (Nat.le_refl _) _).trans (b.mono (by simp))⟩
 ·rw[World.cell?_alloc_at _ 9 _ (0+j) rfl,Nat.zero_add]
  match j,hj with
  |0,hj=>simp at hj⊢;exact hj
  |1,hj=>simp at hj⊢;exact hj
end
section
open Go.RowKit
theorem PV (s:ByteArray):s=⟨s.data.toList.toArray⟩:=by cases s;simp
theorem l7 (l:List UInt8):(⟨l.toArray⟩:ByteArray).size=l.length:=by simp[ByteArray.size]
theorem qJ {s t:ByteArray}(h:s.data.toList=t.data.toList):s=t:=ByteArray.ext (Array.toList_inj.1 h)
theorem Lp (l r:List UInt8):(⟨(l++r).toArray⟩:ByteArray).extract 0 l.length=⟨l.toArray⟩:=by
 apply qJ;rw[Lib.extract_data];simp
theorem Lq (l r:List UInt8):(⟨(l++r).toArray⟩:ByteArray).extract l.length (l.length+r.length)=⟨r.toArray⟩:=by
 apply qJ;rw[Lib.extract_data];simp
theorem eo (l r:List UInt8)(n:Int)(h:n=l.length):aO ⟨(l++r).toArray⟩ 0 n=(⟨l.toArray⟩,⟨r.toArray⟩,0):=by
 subst h;have h1:¬(l.length:Int)<0:=by omega
 have h2:¬(((⟨(l++r).toArray⟩:ByteArray).size:Int)<l.length):=by rw[l7,List.length_append];omega
 have h3:(⟨(l++r).toArray⟩:ByteArray).size=l.length+r.length:=by rw[l7,List.length_append]
 unfold aO;rw[if_neg (by simp),if_neg h1,if_neg h2,Int.toNat_natCast,h3,Lp,Lq]
theorem gH (l r:List UInt8)(n:Int)(h:n=l.length)(hz:bS n=true):cB ⟨(l++r).toArray⟩ 0 n=((beNat l:Int),⟨r.toArray⟩,0):=by
 unfold cB;rw[eo l r n h];simp[hz]
theorem ov (s:ByteArray)(e n:Int)(h:(aO s e n).2.2=0):
  e=0∧∃l r:List UInt8,s=⟨(l++r).toArray⟩∧n=(l.length:Int)∧aO s e n=(⟨l.toArray⟩,⟨r.toArray⟩,0):=by
 by_cases he:e=0
 ·refine⟨he,?_⟩;subst he;by_cases h1:n<0
  ·simp[aO,h1]at h
  ·by_cases h2:(s.size:Int)<n
   ·simp[aO,h1,h2]at h
   ·obtain⟨k,rfl⟩:=Int.eq_ofNat_of_zero_le (Int.not_lt.1 h1);have hk:k<=s.data.toList.length:=by
     have:=Lib.size_eq s;omega
    have hl:(s.data.toList.take k).length=k:=by simp at hk⊢;omega
    have hs:s=⟨(s.data.toList.take k++s.data.toList.drop k).toArray⟩:=by rw[List.take_append_drop]
    refine⟨s.data.toList.take k,s.data.toList.drop k,hs,by rw[hl],?_⟩;have:=eo (s.data.toList.take k) (s.data.toList.drop k) (k:Int) (by rw[hl]);rw[<-hs]at this;exact this
 ·simp[aO,he]at h
theorem mZ (s:ByteArray)(e n:Int)(h:(cB s e n).2.2=0):
  e=0∧bS n=true∧∃l r:List UInt8,s=⟨(l++r).toArray⟩∧n=(l.length:Int)∧cB s e n=((beNat l:Int),⟨r.toArray⟩,0):=by
 cases hz:bS n
 ·exfalso;by_cases he:e=0<;>simp[cB,hz,he]at h
 ·have h':(aO s e n).2.2=0:=by simpa[cB,hz]using h
  obtain⟨he,l,r,hs,hn,_⟩:=ov s e n h';subst he;refine⟨rfl,rfl,l,r,hs,hn,?_⟩;rw[hs];exact gH l r n hn hz
end
section
open Go.RowKit
end
section
def oP (c:Nat):Nat:=if c%2=1 then c/2^^^3988292384 else c/2
def jh (c:Nat):Nat:=oP (oP (oP (oP c)))
def fj (c:Nat):Nat:=jh (jh c)
def gQ (c b:Nat):Nat:=fj (c^^^b)
def l8 (c:Nat)(l:List UInt8):Nat:=l.foldl (fun c b=>gQ c b.toNat) c
def kT (l:List UInt8):Nat:=l8 4294967295 l^^^4294967295
theorem xor_left_comm (x y z:Nat):x^^^(y^^^z)=y^^^(x^^^z):=by
 rw[<-Nat.xor_assoc,Nat.xor_comm x y,Nat.xor_assoc]
theorem jE {x y:Nat}(hx:x<4294967296)(hy:y<4294967296):x^^^y<4294967296:=Nat.xor_lt_two_pow (n:=32) hx hy
theorem l9 (x y:Nat):oP (x^^^y)=oP x^^^oP y:=by
 have hm:=@Nat.xor_mod_two_eq_one x y;have hd:=@Nat.xor_div_two x y;unfold oP;rw[hd];by_cases h1:x%2=1<;>by_cases h2:y%2=1
 ·rw[if_neg (by rw[hm];simp[h1,h2]),if_pos h1,if_pos h2];rw[Nat.xor_assoc,xor_left_comm 3988292384,Nat.xor_self,Nat.xor_zero]
 ·rw[if_pos (by rw[hm];simp[h1,h2]),if_pos h1,if_neg h2];rw[Nat.xor_assoc,Nat.xor_assoc,Nat.xor_comm (y/2)]
 ·rw[if_pos (by rw[hm];simp[h1,h2]),if_neg h1,if_pos h2];rw[Nat.xor_assoc]
 ·rw[if_neg (by rw[hm];simp[h1,h2]),if_neg h1,if_neg h2]
theorem j8 (x:Nat):oP (2*x)=x:=by
 unfold oP;rw[if_neg (by omega)];omega
theorem pq {c:Nat}(h:c<4294967296):oP c<4294967296:=by
 unfold oP;split
 ·exact jE (by omega) (by decide)
 ·omega
theorem qK (x y:Nat):jh (x^^^y)=jh x^^^jh y:=by
 unfold jh;rw[l9,l9,l9,l9]
theorem nc (x:Nat):jh (16*x)=x:=by
 unfold jh;rw[show 16*x=2*(2*(2*(2*x))) by omega,j8,j8,j8,j8]
theorem py {c:Nat}(h:c<4294967296):jh c<4294967296:=pq (pq (pq (pq h)))
theorem fW (x y:Nat):fj (x^^^y)=fj x^^^fj y:=by
 unfold fj;rw[qK,qK]
theorem gI (x:Nat):fj (256*x)=x:=by
 unfold fj;rw[show 256*x=16*(16*x) by omega,nc,nc]
theorem Lr {c:Nat}(h:c<4294967296):fj c<4294967296:=py (py h)
theorem Ls {i b:Nat}(h:b<2^i)(a:Nat):2^i*a+b=2^i*a^^^b:=by
 apply Nat.eq_of_testBit_eq;intro j;rw[Nat.testBit_two_pow_mul_add _ h,Nat.testBit_xor,Nat.testBit_two_pow_mul];by_cases hj:j<i
 ·simp[hj,Nat.not_le.2 hj]
 ·have hb:b.testBit j=false:=Nat.testBit_lt_two_pow (Nat.lt_of_lt_of_le h (Nat.pow_le_pow_right (by decide) (by omega)));simp[hj,hb,Nat.le_of_not_lt hj]
theorem nib (c:Nat):c=(16*(c/16))^^^(c%16):=by
 have h:2^4*(c/16)+c%16=2^4*(c/16)^^^c%16:=Ls (Nat.mod_lt _ (by decide)) _;have h2:=Nat.div_add_mod c 16;simp only[Nat.reducePow]at h;omega
theorem DD (c:Nat):c/16^^^jh (c%16)=jh c:=by
 conv=>rhs;rw[nib c,qK,nc]
theorem xq {c b:Nat}(hc:c<4294967296)(hb:b<256):gQ c b<4294967296:=Lr (jE hc (by omega))
theorem tW (c:Nat)(l m:List UInt8):l8 c (l++m)=l8 (l8 c l) m:=List.foldl_append
theorem Fz {c:Nat}(hc:c<4294967296)(l:List UInt8):l8 c l<4294967296:=by
 induction l generalizing c with
 |nil=>exact hc
 |cons b l ih=>exact ih (xq hc b.toNat_lt)
theorem Lt (l:List UInt8):kT l<4294967296:=jE (Fz (by decide) l) (by decide)
theorem four (C x0 x1 x2 x3 a b c d:Nat):
  gQ (gQ (gQ (gQ C (x0^^^a)) (x1^^^b)) (x2^^^c)) (x3^^^d)
   =gQ (gQ (gQ (gQ C x0) x1) x2) x3^^^fj (fj (fj (fj (a^^^256*b^^^65536*c^^^16777216*d)))):=by
 have e1:fj (a^^^256*b^^^65536*c^^^16777216*d)=fj a^^^b^^^256*c^^^65536*d:=by
  rw[fW,fW,fW,gI,show 65536*c=256*(256*c) by omega,gI,show 16777216*d=256*(65536*d) by omega,gI]
 have e2:fj (fj a^^^b^^^256*c^^^65536*d)=fj (fj a^^^b)^^^c^^^256*d:=by
  rw[fW,fW,gI,show 65536*d=256*(256*d) by omega,gI]
 have e3:fj (fj (fj a^^^b)^^^c^^^256*d)=fj (fj (fj a^^^b)^^^c)^^^d:=by
  rw[fW,gI]
 rw[e1,e2,e3];unfold gQ;have s (C x a D:Nat):fj ((C^^^D)^^^(x^^^a))=fj (C^^^x)^^^fj (D^^^a):=by
  rw[<-fW]
  congr 1
  rw[Nat.xor_assoc,Nat.xor_assoc,xor_left_comm D]
 have s0:fj (C^^^(x0^^^a))=fj (C^^^x0)^^^fj a:=by rw[<-Nat.xor_assoc,fW]
 rw[s0,s,s,s]
end
section
open Go.RowKit
structure tX (w:World):Prop where
 lt:1<w.heap.size
 cell:∀i,i<16->w.cell? ⟨1,i,none⟩=some (.int .u32 ((jh i:Nat):Int))
theorem tX.below {w w':World}(h:tX w)(hb:Below w.heap.size w w'):tX w':=
 ⟨Nat.lt_of_lt_of_le h.lt hb.size,fun i hi=>by rw[hb.cell h.lt];exact h.cell i hi⟩
theorem TP (c:Nat)(h:c<4294967296):bits .and .u32 (c:Int) 15=((c%16:Nat):Int):=by
 have:=u32_and_nat c 15 h (by decide);rw[show((15:Nat):Int)=15 from rfl]at this;rw[this,Nat.and_two_pow_sub_one_eq_mod c 4]
theorem FC (c:Nat)(h:c<4294967296):bits .xor .u32 ((c:Int)/16) ((jh (c%16):Nat):Int)=((jh c:Nat):Int):=by
 have:=u32_xor_nat (c/16) (jh (c%16)) (by omega) (py (by omega));rw[DD]at this;exact this
theorem ma (c:Nat)(hc:c<4294967296)(w:World)(h:tX w):
  Calls Tryz.prog 225 #[.int .u32 c] w fun r w'=>r=.returned (.int .u32 ((jh c:Nat):Int))∧w=w':=by
 have e1:=TP c hc;have e2:=FC c hc;have hcell:=h.cell (c%16) (Nat.mod_lt _ (by decide));go_enter Tryz.func225,Tryz.ntmps225;go_wp2;go_ret;exact⟨rfl,rfl⟩
theorem FD (c b:Nat)(hc:c<4294967296)(hb:b<256)(w:World)(h:tX w):
  Calls Tryz.prog 223 #[.int .u32 c,.int .u8 b] w fun r w'=>r=.returned (.int .u32 ((gQ c b:Nat):Int))∧w=w':=by
 have e1:=u32_xor_nat c b hc (by omega);have hx:c^^^b<4294967296:=jE hc (by omega);unfold gQ fj;generalize c^^^b=x at*;have H1:Hid _:=ma x hx w h;have H2:Hid _:=ma (jh x) (py hx) w h;clear h;go_enter Tryz.func223,Tryz.ntmps223
 go_wp2_with fail
 refine Calls.mono H1.out ?_;rintro e w' ⟨rfl,rfl⟩
 go_wp2_with fail
 refine Calls.mono H2.out ?_;rintro e w' ⟨rfl,rfl⟩;go_wp2;go_ret;exact⟨rfl,rfl⟩
end
section
open Go.RowKit
theorem FE (xs:List ByteArray)(k:Nat)(h:k<xs.length):cat (xs.take (k+1))=cat (xs.take k)++(xs.getD k ByteArray.empty).data.toList:=by
 have e:xs.take (k+1)=xs.take k++[xs.getD k ByteArray.empty]:=by
  rw[List.take_succ_eq_append_getElem h,List.getD_eq_getElem?_getD,List.getElem?_eq_getElem h];rfl
 rw[e];unfold cat;rw[List.map_append,List.flatten_append];simp
structure zP (w:World)(a:Option Addr)(len cap:Nat)(xs:List ByteArray):Prop where
 FH:xs.length=len
 WM:len<=cap
 small:len<=maxLen
 sizes:∀k,k<len->(xs.getD k ByteArray.empty).size<=maxLen
 cells:∀k,k<len->∃b o,a=some ⟨b,o,none⟩∧b<w.heap.size∧w.cell? ⟨b,o+k,none⟩=some (.string (xs.getD k ByteArray.empty))
theorem zQ (c:Nat)(x:ByteArray)(i:Nat)(h:i<x.size):l8 c (x.data.toList.take (i+1))=gQ (l8 c (x.data.toList.take i)) x[i].toNat:=by
 have h':i<x.data.toList.length:=by simpa using h
 rw[List.take_succ_eq_append_getElem h',tW];rfl
theorem Lu (a:Option Addr)(len cap:Nat)(xs:List ByteArray)(w:World)(h:tX w)(row:zP w a len cap xs):
  Calls Tryz.prog 216 #[.slice a len cap] w fun r w'=>r=.returned (.int .i64 ((kT (cat xs):Nat):Int))∧w=w':=by
 have hm:=row.small;unfold maxLen at hm;have ROW:Hid (zP w a len cap xs):=row;have PW:Hid (tX w):=h;clear row h;go_enter Tryz.func216,Tryz.ntmps216;go_wp2
 go_loop [3,9] (fun c i=>∃(k C:Nat),k<=len∧i=.int .i64 k∧c=.int .u32 C∧C<4294967296∧Hid (C=l8 4294967295 (cat (xs.take k)))) (fun _ i=>len- (intOf i).toNat)
 case atStart=>exact⟨0,4294967295,Nat.zero_le _,rfl,rfl,by decide,rfl⟩
 case round=>
  obtain⟨k,C,hk,rfl,rfl,hC,eC⟩:=hrel;by_cases hlt:k<len
  ·obtain⟨bx,o,rfl,hbx,hc⟩:=ROW.out.cells k hlt;have hz:=ROW.out.sizes k hlt;unfold maxLen at hz;have eT:Hid (cat (xs.take (k+1))=cat (xs.take k)++(xs.getD k ByteArray.empty).data.toList):=FE xs k (by rw[ROW.out.FH];exact hlt);generalize xs.getD k ByteArray.empty=x at*;go_wp2
   go_loop [3,15] (fun c i=>∃(j D:Nat),j<=x.size∧i=.int .i64 j∧c=.int .u32 D∧D<4294967296∧Hid (D=l8 C (x.data.toList.take j))) (fun _ i=>x.size- (intOf i).toNat)
   case atStart=>exact⟨0,C,Nat.zero_le _,rfl,rfl,hC,rfl⟩
   case round=>
    obtain⟨j,D,hj,rfl,rfl,hD,eD⟩:=hrel;by_cases hlj:j<x.size
    ·have T:Hid _:=zQ C x j hlj;have S:Hid _:=FD D x[j].toNat hD (UInt8.toNat_lt _) w PW.out;have hS:gQ D x[j].toNat<4294967296:=xq hD (UInt8.toNat_lt _)
     go_wp2_with fail
     refine Calls.mono S.out ?_;rintro e w' ⟨rfl,rfl⟩;go_wp2;refine⟨⟨j+1,_,by omega,by go_num,rfl,hS,?_⟩,by simp[intOf];omega⟩;rw[Hid,T.out,<-eD.out]
    ·have T:Hid (x.data.toList.take j=x.data.toList):=List.take_of_length_le (by simp;omega);go_wp2;refine⟨⟨k+1,D,by omega,by go_num,rfl,hD,?_⟩,by simp[intOf];omega⟩;rw[Hid,eT.out,tW,<-eC.out,eD.out,T.out]
  ·have e1:bits .xor .u32 (C:Int) 4294967295=((C^^^4294967295:Nat):Int):=u32_xor_nat C 4294967295 hC (by decide);have e2:Hid (kT (cat xs)=C^^^4294967295):=by
    rw[Hid,kT,eC.out,List.take_of_length_le (by rw[ROW.out.FH];omega)]
   have e3:C^^^4294967295<4294967296:=jE hC (by decide);generalize C^^^4294967295=S at*;go_wp2;go_ret;rw[e2.out];exact⟨rfl,rfl⟩
theorem Lv (xs:List ByteArray)(vs:Array Value)(w:World)(n:Nat)(hn:xs.length=n)(hv:vs=(xs.map Value.string).toArray)(hs:n<=8)(hz:∀x∈xs,x.size<=maxLen):
  zP (w.alloc (.cells vs 9)) (some ⟨w.heap.size,0,none⟩) n n xs:=by
 subst hn hv;refine⟨rfl,Nat.le_refl _,by unfold maxLen;omega,fun k hk=>?_,fun k hk=>⟨_,_,rfl,by simp,?_⟩⟩
 ·rw[List.getD_eq_getElem?_getD,List.getElem?_eq_getElem hk];exact hz _ (List.getElem_mem hk)
 ·rw[World.cell?_alloc_at _ 9 _ (0+k) rfl,Nat.zero_add,List.getD_eq_getElem?_getD,List.getElem?_eq_getElem hk];simp[hk]
theorem Lx (xs:List ByteArray)(vs:Array Value)(w:World)(n:Nat)(h:tX w)(hn:xs.length=n)(hv:vs=(xs.map Value.string).toArray)(hs:n<=8)(hz:∀x∈xs,x.size<=maxLen):
  Calls Tryz.prog 216 #[.slice (some ⟨w.heap.size,0,none⟩) n n] (w.alloc (.cells vs 9)) fun r w'=>r=.returned (.int .i64 ((kT (cat xs):Nat):Int))∧w.alloc (.cells vs 9)=w':=
 Lu _ n n xs _ (h.below ((Below.refl _ _).alloc (Nat.le_refl _) _)) (Lv xs vs w n hn hv hs hz)
theorem WN (x:ByteArray)(w:World)(h:tX w)(hx:x.size<=maxLen):
  Calls Tryz.prog 216 #[.slice (some ⟨w.heap.size,0,none⟩) 1 1] (w.alloc (.cells #[.string x] 9)) fun r w'=>r=.returned (.int .i64 ((kT x.data.toList:Nat):Int))∧w.alloc (.cells #[.string x] 9)=w':=by
 have:=Lx [x] #[.string x] w 1 h rfl rfl (by decide) (by simpa using hx);rw[show cat [x]=x.data.toList by simp[cat]]at this;exact this
end
section
open Go.RowKit Go.WideShapes
theorem own:ownKnob Tryz.prog.godebug=none:=by kernel_rfl
end
section
open Go.RowKit
end
section
open Go.RowKit
def fC (n:Nat)(k:UInt8)(b:List UInt8):List UInt8:=
 beBytes 4 n++([k]++([0]++(beBytes 2 b.length++(List.replicate 4 0++(b++List.replicate (240-b.length) 0)))))
def cJ (n:Nat)(k:UInt8)(b:List UInt8):List UInt8:=beBytes 4 (kT (fC n k b))++fC n k b
theorem mb (n:Nat)(k:UInt8)(b:List UInt8)(h:b.length<=240):(fC n k b).length=252:=by
 simp[fC,beBytes_length];omega
theorem uX (n:Nat)(k:UInt8)(b:List UInt8)(h:b.length<=240):(cJ n k b).length=256:=by
 rw[cJ,List.length_append,beBytes_length,mb n k b h]
def fo (id:Int)(n:Nat):Int:=if 240<n then 50 else if fK 4 id=true then 0 else 1
def iF (id:Int)(k:UInt8)(b:List UInt8):List UInt8:=if fo id b.length=0 then cJ id.toNat k b else []
theorem OT (id:Int):fK 4 id=true↔0<=id∧id<4294967296:=by simp[fK,bS]
theorem ji {id:Int}{n:Nat}:fo id n=0↔n<=240∧0<=id∧id<4294967296:=by
 rw[<-OT];unfold fo;by_cases h:240<n
 ·rw[if_pos h];constructor
  ·intro e;cases e
  ·intro e;omega
 ·rw[if_neg h];cases hp:fK 4 id
  ·simp
  ·simp;omega
def TQ (s:List UInt8):UInt8:=s.getD 8 0
def WO (s:List UInt8):Nat:=beNat ((s.drop 10).take 2)
def PY (s:List UInt8):List UInt8:=(s.drop 16).take (WO s)
theorem Bp (a b:List UInt8)(k:Nat)(h:a.length=k):(a++b).drop k=b:=by subst h;simp
theorem Bq (a b:List UInt8)(k:Nat)(h:a.length=k):(a++b).take k=a:=by subst h;simp
theorem mf (n:Nat)(k:UInt8)(b:List UInt8):(cJ n k b).drop 10=beBytes 2 b.length++(List.replicate 4 0++(b++List.replicate (240-b.length) 0)):=by
 have e:cJ n k b=(beBytes 4 (kT (fC n k b))++(beBytes 4 n++([k]++[0])))++(beBytes 2 b.length++(List.replicate 4 0++(b++List.replicate (240-b.length) 0))):=by
  conv=>lhs;rw[cJ]
  conv=>lhs;rhs;rw[fC]
  simp only[List.append_assoc]
 rw[e];exact Bp _ _ 10 (by simp[beBytes_length])
theorem FI (n:Nat)(k:UInt8)(b:List UInt8)(h:b.length<=240):WO (cJ n k b)=b.length:=by
 unfold WO;rw[mf,Bq _ _ 2 (beBytes_length _ _),jC 2 _ (by omega)]
theorem xr (n:Nat)(k:UInt8)(b:List UInt8)(h:b.length<=240):PY (cJ n k b)=b:=by
 unfold PY;rw[FI n k b h,show 16=10+6 from rfl,<-List.drop_drop,mf,<-List.append_assoc,Bp _ _ 6 (by simp[beBytes_length]),Bq _ _ _ rfl]
theorem xt (n:Nat)(k:UInt8)(b:List UInt8):TQ (cJ n k b)=k:=by
 have e:cJ n k b=(beBytes 4 (kT (fC n k b))++beBytes 4 n)++(k::([0]++(beBytes 2 b.length++(List.replicate 4 0++(b++List.replicate (240-b.length) 0))))):=by
  conv=>lhs;rw[cJ]
  conv=>lhs;rhs;rw[fC]
  simp only[List.append_assoc,List.cons_append,List.nil_append]
 unfold TQ;rw[e,List.getD_eq_getElem?_getD,List.getElem?_append_right (by simp[beBytes_length])];simp[beBytes_length]
def opn (id:Int)(s:List UInt8):UInt8×List UInt8×Int:=
 if fo id (PY s).length=0∧s=cJ id.toNat (TQ s) (PY s)then(TQ s,PY s,0)else(0,[],3)
theorem FK (id:Int)(k:UInt8)(b:List UInt8)(h:fo id b.length=0):opn id (cJ id.toNat k b)=(k,b,0):=by
 have hl:=(ji.1 h).1;unfold opn;rw[xr _ _ _ hl,xt,if_pos ⟨h,rfl⟩]
theorem ng (id:Int)(s:List UInt8):(∃k b,fo id b.length=0∧s=cJ id.toNat k b∧opn id s=(k,b,0))∨((∀k b,fo id b.length=0->s≠cJ id.toNat k b)∧opn id s=(0,[],3)):=by
 by_cases c:fo id (PY s).length=0∧s=cJ id.toNat (TQ s) (PY s)
 ·exact .inl ⟨_,_,c.1,c.2,by rw[opn,if_pos c]⟩
 ·refine .inr ⟨fun k b h e=>c ?_,by rw[opn,if_neg c]⟩;subst e;have hl:=(ji.1 h).1;rw[xr _ _ _ hl,xt];exact⟨h,rfl⟩
def FO (s:ByteArray):ByteArray×ByteArray×Int:=aO s 0 8
def Br (s:ByteArray):Int×ByteArray×Int:=cB (FO s).2.1 (FO s).2.2 1
def Lz (s:ByteArray):ByteArray×ByteArray×Int:=aO (Br s).2.1 (Br s).2.2 1
def FQ (s:ByteArray):Int×ByteArray×Int:=cB (Lz s).2.1 (Lz s).2.2 2
def LA (s:ByteArray):ByteArray×ByteArray×Int:=aO (FQ s).2.1 (FQ s).2.2 4
def PZ (s:ByteArray):ByteArray×ByteArray×Int:=aO (LA s).2.1 (LA s).2.2 (FQ s).1
def zE (s:ByteArray):UInt8:=UInt8.ofNat (Br s).1.toNat
def pA (s:ByteArray):ByteArray:=(PZ s).1
theorem FR (s:ByteArray):(Br s).1=((zE s).toNat:Int):=by
 have h:0<=(Br s).1∧(Br s).1<256:=by
  unfold Br cB;rw[if_neg (by decide)];generalize(FO s).2.1=t;generalize(FO s).2.2=e;have hl:(aO t e 1).1.size<=1:=by
   unfold aO;split
   ·simp
   ·split
    ·simp
    ·split
     ·simp
     ·simp;omega
  have h1:=xk (aO t e 1).1.data.toList;have h2:256^(aO t e 1).1.data.toList.length<=256^1:=Nat.pow_le_pow_right (by omega) (by simpa using hl);dsimp only;omega
 unfold zE;simp;omega
theorem LB (n:Nat)(k:UInt8)(b:List UInt8)(h:b.length<=240):zE ⟨(cJ n k b).toArray⟩=k∧pA ⟨(cJ n k b).toArray⟩=⟨b.toArray⟩:=by
 have e:cJ n k b=(beBytes 4 (kT (fC n k b))++beBytes 4 n)++([k]++([0]++(beBytes 2 b.length++(List.replicate 4 0++(b++List.replicate (240-b.length) 0))))):=by
  conv=>lhs;rw[cJ]
  conv=>lhs;rhs;rw[fC]
  simp only[List.append_assoc]
 have e1:FO ⟨(cJ n k b).toArray⟩=(⟨(beBytes 4 (kT (fC n k b))++beBytes 4 n).toArray⟩,⟨([k]++([0]++(beBytes 2 b.length++(List.replicate 4 0++(b++List.replicate (240-b.length) 0))))).toArray⟩,0):=by
  rw[FO,e];exact eo _ _ 8 (by simp[beBytes_length])
 have e2:Br ⟨(cJ n k b).toArray⟩=((beNat [k]:Int),⟨([0]++(beBytes 2 b.length++(List.replicate 4 0++(b++List.replicate (240-b.length) 0)))).toArray⟩,0):=by
  rw[Br,e1];exact gH _ _ 1 rfl rfl
 have e3:Lz ⟨(cJ n k b).toArray⟩=(⟨[0].toArray⟩,⟨(beBytes 2 b.length++(List.replicate 4 0++(b++List.replicate (240-b.length) 0))).toArray⟩,0):=by
  rw[Lz,e2];exact eo _ _ 1 rfl
 have e4:FQ ⟨(cJ n k b).toArray⟩=((beNat (beBytes 2 b.length):Int),⟨(List.replicate 4 0++(b++List.replicate (240-b.length) 0)).toArray⟩,0):=by
  rw[FQ,e3];exact gH _ _ 2 (by rw[beBytes_length];rfl) rfl
 rw[jC 2 _ (by omega)]at e4;have e5:LA ⟨(cJ n k b).toArray⟩=(⟨(List.replicate 4 0).toArray⟩,⟨(b++List.replicate (240-b.length) 0).toArray⟩,0):=by
  rw[LA,e4];exact eo _ _ 4 rfl
 have e6:PZ ⟨(cJ n k b).toArray⟩=(⟨b.toArray⟩,⟨(List.replicate (240-b.length) 0).toArray⟩,0):=by
  rw[PZ,e5,e4];exact eo _ _ _ rfl
 refine⟨?_,by rw[pA,e6]⟩;rw[zE,e2];simp[beNat]
theorem DF (id:Int)(s:ByteArray):
    (if fo id (pA s).size=0∧(⟨(iF id (zE s) (pA s).data.toList).toArray⟩:ByteArray)=s then(zE s,(pA s).data.toList,(0:Int))else(0,[],3))=opn id s.data.toList:=by
  have hsz:(pA s).size=(pA s).data.toList.length:=by simp
  by_cases c:fo id (pA s).size=0∧(⟨(iF id (zE s) (pA s).data.toList).toArray⟩:ByteArray)=s
  · rw[if_pos c];have h0:fo id (pA s).data.toList.length=0:=by rw[<-hsz];exact c.1
    have hs:s.data.toList=cJ id.toNat (zE s) (pA s).data.toList:=by
      have:=c.2;rw[iF,if_pos h0]at this
      conv=>lhs;rw[<-this]
    rw[hs,FK _ _ _ h0]
  · rw[if_neg c];rcases ng id s.data.toList with⟨k,b,h1,h2,h3⟩| ⟨_,h⟩
    · exfalso;apply c;have e:s=⟨(cJ id.toNat k b).toArray⟩:=by rw[<-h2]
      obtain⟨hk,hb⟩:=LB id.toNat k b (ji.1 h1).1;rw[e,hk,hb];refine⟨by rw[l7];exact h1,?_⟩;rw[iF,if_pos (by simpa using h1)]
    · exact h.symm
end
section
open Go.RowKit
theorem xu (n:Nat):Lib.repeatL [0] n=List.replicate n (0:UInt8):=by
 have:=Lib.repeatL_replicate 0 1 n;simpa using this
theorem jF (n:Nat)(w:World)(hn:n<=1000):
  Calls Tryz.prog 215 #[.int .i64 n] w fun e w'=>e=.returned (.string ⟨(List.replicate n (0:UInt8)).toArray⟩)∧Below w.heap.size w w':=by
 have C:Hid (Calls Tryz.prog 46 #[.string ⟨#[0]⟩,.int .i64 n] w fun e w'=>e=.returned (.string ⟨(Lib.repeatL [0] n).toArray⟩)∧Below w.heap.size w w'):=Tryz.strings_Repeat ⟨#[0]⟩ n w (by omega) (by show 1*n<=_;omega);rw[xu]at C;go_enter Tryz.func215,Tryz.ntmps215
 go_wp2_with (go_at_call 46;refine Calls.mono C.out ?_;rintro e w' ⟨rfl,hb⟩)
 go_ret;exact⟨rfl,hb⟩
theorem xv (xs:List ByteArray)(vs:Array Value)(w:World)(n:Nat)(hn:xs.length=n)(hv:vs=(xs.map Value.string).toArray)(hs:n<=8)(hl:(cat xs).length<=140737488355328):
  Calls Tryz.prog 143 #[.slice (some ⟨w.heap.size,0,none⟩) n n] (w.alloc (.cells vs 9)) fun r w'=>r=.returned (.string ⟨(cat xs).toArray⟩)∧Below w.heap.size w w':=by
 subst hn hv;have h:=qI w.heap.size 0 xs.length xs.length xs (w.alloc (.cells (xs.map Value.string).toArray 9)) (fun j z hj=>?_) (by simp) rfl (by omega) (Nat.le_refl _) hl
 ·exact h.mono fun r w' ⟨a,b⟩=>⟨a,((Below.refl _ _).alloc (Nat.le_refl _) _).trans (b.mono (by simp))⟩
 ·rw[World.cell?_alloc_at _ 9 _ (0+j) rfl,Nat.zero_add];simp[hj]
theorem one_byte (k:UInt8):beBytes 1 k.toNat=[k]:=by simp[beBytes]
theorem FT (n:Nat)(k:UInt8)(b:ByteArray):
  cat [⟨(beBytes 4 n).toArray⟩,⟨(beBytes 1 k.toNat).toArray⟩,⟨(List.replicate 1 (0:UInt8)).toArray⟩,⟨(beBytes 2 b.size).toArray⟩,⟨(List.replicate 4 (0:UInt8)).toArray⟩,b,⟨(List.replicate (240-b.size) (0:UInt8)).toArray⟩]=fC n k b.data.toList:=by
 rw[one_byte];simp only[cat,List.map_cons,List.map_nil,List.flatten_cons,List.flatten_nil,List.append_nil,fC];rw[show b.data.toList.length=b.size by simp];rfl
theorem FU (n:Nat)(k:UInt8)(b:List UInt8):cat [⟨(beBytes 4 (kT (fC n k b))).toArray⟩,⟨(fC n k b).toArray⟩]=cJ n k b:=by
 simp only[cat,List.map_cons,List.map_nil,List.flatten_cons,List.flatten_nil,List.append_nil,cJ]
theorem LC (n:Nat)(k:UInt8)(b:ByteArray)(w:World)(T:tX w)(hn:n<4294967296)(hb:b.size<=240):
  Calls Tryz.prog 194 #[.int .i64 n,.int .u8 (k.toNat:Int),.string b] w fun e w'=>e=.returned (.tuple #[.string ⟨(cJ n k b.data.toList).toArray⟩,.int .i64 0])∧Below w.heap.size w w':=by
 have PW:Hid (tX w):=T;have C1:Hid _:=PU n w hn;have hk:k.toNat<256:=UInt8.toNat_lt k;have hl:(fC n k b.data.toList).length=252:=mb _ _ _ (by simpa using hb);have ER:Hid (_=fC n k b.data.toList):=FT n k b;have EP:Hid (_=cJ n k b.data.toList):=FU n k b.data.toList;have hS:kT (fC n k b.data.toList)<4294967296:=Lt _;have hP:(cJ n k b.data.toList).length=256:=uX _ _ _ (by simpa using hb);generalize fC n k b.data.toList=R at*;generalize cJ n k b.data.toList=G at*;clear T;go_enter Tryz.func194,Tryz.ntmps194
 go_wp2_with fail
 refine Calls.mono C1.out ?_;rintro e w1 ⟨rfl,b1⟩;have B1:Hid (Below w.heap.size w w1):=b1;clear b1 C1;have C2:Hid _:=TK k.toNat w1 hk
 go_wp2_with fail
 refine Calls.mono C2.out ?_;rintro e w2 ⟨rfl,b2⟩;have B2:Hid (Below w.heap.size w w2):=B1.out.trans (b2.mono B1.out.size);clear b2 C2;have C3:Hid _:=TM b.size w2 (by omega)
 go_wp2_with fail
 refine Calls.mono C3.out ?_;rintro e w3 ⟨rfl,b3⟩;have B3:Hid (Below w.heap.size w w3):=B2.out.trans (b3.mono B2.out.size);clear b3 C3;have C4:Hid (Calls Tryz.prog 215 #[.int .i64 1] w3 fun e w'=>e=.returned (.string ⟨(List.replicate 1 (0:UInt8)).toArray⟩)∧Below w3.heap.size w3 w'):=jF 1 w3 (by omega)
 go_wp2_with fail
 refine Calls.mono C4.out ?_;rintro e w4 ⟨rfl,b4⟩;have B4:Hid (Below w.heap.size w w4):=B3.out.trans (b4.mono B3.out.size);clear b4 C4;have C5:Hid (Calls Tryz.prog 215 #[.int .i64 4] w4 fun e w'=>e=.returned (.string ⟨(List.replicate 4 (0:UInt8)).toArray⟩)∧Below w4.heap.size w4 w'):=jF 4 w4 (by omega)
 go_wp2_with fail
 refine Calls.mono C5.out ?_;rintro e w5 ⟨rfl,b5⟩;have B5:Hid (Below w.heap.size w w5):=B4.out.trans (b5.mono B4.out.size);clear b5 C5;have C6:Hid _:=jF (240-b.size) w5 (by omega);rw[show(((240-b.size:Nat):Int))=240- (b.size:Int) by omega]at C6
 go_wp2_with fail
 refine Calls.mono C6.out ?_;rintro e w6 ⟨rfl,b6⟩;have B6:Hid (Below w.heap.size w w6):=B5.out.trans (b6.mono B5.out.size);clear b6 C6;have C7:Hid _:=xv [⟨(beBytes 4 n).toArray⟩,⟨(beBytes 1 k.toNat).toArray⟩,⟨(List.replicate 1 (0:UInt8)).toArray⟩,⟨(beBytes 2 b.size).toArray⟩,⟨(List.replicate 4 (0:UInt8)).toArray⟩,b,⟨(List.replicate (240-b.size) (0:UInt8)).toArray⟩] _ w6 7 rfl rfl (by omega) (by rw[ER.out,hl];omega);rw[ER.out]at C7
 go_wp2_with fail
 refine Calls.mono C7.out ?_;rintro e w7 ⟨rfl,b7⟩;have B7:Hid (Below w.heap.size w w7):=B6.out.trans (b7.mono B6.out.size);clear b7 C7;have C8:Hid _:=WN ⟨R.toArray⟩ w7 (PW.out.below B7.out) (by rw[l7];unfold maxLen;omega);rw[show(⟨R.toArray⟩:ByteArray).data.toList=R from rfl]at C8
 go_wp2_with fail
 refine Calls.mono C8.out ?_;rintro e w8 ⟨rfl,hw8⟩;have B8:Hid (Below w.heap.size w w8):=by subst hw8;exact B7.out.alloc B7.out.size _
 clear hw8 C8;have C9:Hid _:=PU (kT R) w8 hS
 go_wp2_with fail
 refine Calls.mono C9.out ?_;rintro e w9 ⟨rfl,b9⟩;have B9:Hid (Below w.heap.size w w9):=B8.out.trans (b9.mono B8.out.size);clear b9 C9;have WQ:Hid _:=xv [⟨(beBytes 4 (kT R)).toArray⟩,⟨R.toArray⟩] _ w9 2 rfl rfl (by omega) (by rw[EP.out,hP];omega);rw[EP.out]at WQ
 go_wp2_with fail
 refine Calls.mono WQ.out ?_;rintro e VR ⟨rfl,b10⟩;have B10:Hid (Below w.heap.size w VR):=B9.out.trans (b10.mono B9.out.size);clear b10 WQ;go_wp2;go_ret2;exact⟨rfl,B10.out⟩
theorem DG (id:Int)(k:UInt8)(b:ByteArray)(w:World)(hb:240<b.size)(hm:b.size<=maxLen):
  Calls Tryz.prog 194 #[.int .i64 id,.int .u8 (k.toNat:Int),.string b] w fun e w'=>e=.returned (.tuple #[.string ⟨#[]⟩,.int .i64 50])∧w=w':=by
 unfold maxLen at hm;go_enter Tryz.func194,Tryz.ntmps194;go_wp2;go_ret2;exact⟨rfl,rfl⟩
theorem FV (id:Int)(k:UInt8)(b:ByteArray)(w:World)(hb:b.size<=240)(hp:fK 4 id=false):
  Calls Tryz.prog 194 #[.int .i64 id,.int .u8 (k.toNat:Int),.string b] w fun e w'=>e=.returned (.tuple #[.string ⟨#[]⟩,.int .i64 1])∧Below w.heap.size w w':=by
 have C:Hid _:=lZ 4 id w;rw[show mX 4 id=[] by simp[mX,hp],show mY 4 id=1 by simp[mY,hp]]at C;clear hp;go_enter Tryz.func194,Tryz.ntmps194
 go_wp2_with fail
 refine Calls.mono C.out ?_;rintro e w1 ⟨rfl,b1⟩;go_wp2;go_ret2;exact⟨rfl,b1⟩
theorem FW (id:Int)(k:UInt8)(b:ByteArray)(w:World)(T:tX w)(hm:b.size<=maxLen):
  Calls Tryz.prog 194 #[.int .i64 id,.int .u8 (k.toNat:Int),.string b] w fun e w'=>e=.returned (.tuple #[.string ⟨(iF id k b.data.toList).toArray⟩,.int .i64 (fo id b.size)])∧Below w.heap.size w w':=by
 have hsz:b.data.toList.length=b.size:=by simp
 by_cases hb:240<b.size
 ·have e1:fo id b.size=50:=by rw[fo,if_pos hb]
  have e2:iF id k b.data.toList=[]:=by rw[iF,hsz,e1,if_neg (by decide)]
  rw[e1,e2];exact(DG id k b w hb hm).mono fun e w' ⟨h1,h2⟩=>⟨h1,by subst h2;exact Below.refl _ _⟩
 ·cases hp:fK 4 id
  ·have e1:fo id b.size=1:=by rw[fo,if_neg hb,hp,if_neg (by decide)]
   have e2:iF id k b.data.toList=[]:=by rw[iF,hsz,e1,if_neg (by decide)]
   rw[e1,e2];exact FV id k b w (by omega) hp
  ·have e1:fo id b.size=0:=by rw[fo,if_neg hb,hp,if_pos rfl]
   have e2:iF id k b.data.toList=cJ id.toNat k b.data.toList:=by rw[iF,hsz,e1,if_pos rfl]
   obtain⟨h0,h1⟩:=(OT id).1 hp;rw[e1,e2];have:=LC id.toNat k b w T (by omega) (by omega);rw[show((id.toNat:Nat):Int)=id by omega]at this;exact this
end
section
open Go.RowKit
theorem P8 {a b:ByteArray}(h:¬a=b):(a.toList==b.toList)=false:=by
 rw[beq_eq_false_iff_ne,Lib.toList_data,Lib.toList_data];intro e;exact h (qJ e)
theorem tA (s:ByteArray)(e n:Int)(h:s.size<=maxLen):(aO s e n).1.size<=maxLen:=by
 unfold aO;split
 ·unfold maxLen;simp
 ·split
  ·unfold maxLen;simp
  ·split
   ·unfold maxLen;simp
   ·simp;omega
theorem DJ (s:ByteArray)(w:World)(hs:s.size<=maxLen):
  Calls Tryz.prog 193 #[.string s] w fun e w'=>e=.returned (.tuple #[.int .u8 ((zE s).toNat:Int),.string (pA s)])∧(pA s).size<=maxLen∧Below w.heap.size w w':=by
 have C0:Hid _:=qF s w;have R0:Hid _:=Rd.made s hs w;have bl:Hid (Below w.heap.size w (w.alloc (.cells #[.string s,.int .i64 0] 263))):=(Below.refl _ _).alloc (Nat.le_refl _) _;have hK:=FR s;have hk:(zE s).toNat<256:=UInt8.toNat_lt _;unfold pA;generalize(zE s).toNat=K at*;go_enter Tryz.func193,Tryz.ntmps193
 go_wp2_with fail
 refine Calls.mono C0.out ?_;rintro e w0 ⟨rfl,h0⟩;rw[<-h0]at R0 bl;clear h0 C0;have C1:Hid (Calls Tryz.prog 196 #[.pointer (some ⟨w.heap.size,0,none⟩),.int .i64 8] w0 fun r w'=>r=.returned (.string (FO s).1)∧Rd w.heap.size (FO s).2.1 (FO s).2.2 w'∧Only w.heap.size w0 w'):=gG w.heap.size s 0 8 w0 R0.out
 go_wp2_with fail
 refine Calls.mono C1.out ?_;rintro e w1 ⟨rfl,r1,o1⟩;have R1:Hid (Rd w.heap.size (FO s).2.1 (FO s).2.2 w1):=r1;have O1:Hid (Only w.heap.size w0 w1):=o1;clear r1 o1 C1;have C2:Hid (Calls Tryz.prog 153 #[.pointer (some ⟨w.heap.size,0,none⟩),.int .i64 1] w1 fun r w'=>r=.returned (.int .i64 (Br s).1)∧Rd w.heap.size (Br s).2.1 (Br s).2.2 w'∧Only w.heap.size w1 w'):=lY w.heap.size _ _ 1 w1 R1.out;rw[hK]at C2
 go_wp2_with fail
 refine Calls.mono C2.out ?_;rintro e w2 ⟨rfl,r2,o2⟩;have R2:Hid (Rd w.heap.size (Br s).2.1 (Br s).2.2 w2):=r2;have O2:Hid (Only w.heap.size w0 w2):=O1.out.trans o2;clear r2 o2 C2;have C3:Hid (Calls Tryz.prog 196 #[.pointer (some ⟨w.heap.size,0,none⟩),.int .i64 1] w2 fun r w'=>r=.returned (.string (Lz s).1)∧Rd w.heap.size (Lz s).2.1 (Lz s).2.2 w'∧Only w.heap.size w2 w'):=gG w.heap.size _ _ 1 w2 R2.out
 go_wp2_with fail
 refine Calls.mono C3.out ?_;rintro e w3 ⟨rfl,r3,o3⟩;have R3:Hid (Rd w.heap.size (Lz s).2.1 (Lz s).2.2 w3):=r3;have O3:Hid (Only w.heap.size w0 w3):=O2.out.trans o3;clear r3 o3 C3;have C4:Hid (Calls Tryz.prog 153 #[.pointer (some ⟨w.heap.size,0,none⟩),.int .i64 2] w3 fun r w'=>r=.returned (.int .i64 (FQ s).1)∧Rd w.heap.size (FQ s).2.1 (FQ s).2.2 w'∧Only w.heap.size w3 w'):=lY w.heap.size _ _ 2 w3 R3.out
 go_wp2_with fail
 refine Calls.mono C4.out ?_;rintro e w4 ⟨rfl,r4,o4⟩;have R4:Hid (Rd w.heap.size (FQ s).2.1 (FQ s).2.2 w4):=r4;have O4:Hid (Only w.heap.size w0 w4):=O3.out.trans o4;clear r4 o4 C4;have C5:Hid (Calls Tryz.prog 196 #[.pointer (some ⟨w.heap.size,0,none⟩),.int .i64 4] w4 fun r w'=>r=.returned (.string (LA s).1)∧Rd w.heap.size (LA s).2.1 (LA s).2.2 w'∧Only w.heap.size w4 w'):=gG w.heap.size _ _ 4 w4 R4.out
 go_wp2_with fail
 refine Calls.mono C5.out ?_;rintro e w5 ⟨rfl,r5,o5⟩;have R5:Hid (Rd w.heap.size (LA s).2.1 (LA s).2.2 w5):=r5;have O5:Hid (Only w.heap.size w0 w5):=O4.out.trans o5;clear r5 o5 C5;have C6:Hid (Calls Tryz.prog 196 #[.pointer (some ⟨w.heap.size,0,none⟩),.int .i64 (FQ s).1] w5 fun r w'=>r=.returned (.string (PZ s).1)∧Rd w.heap.size (PZ s).2.1 (PZ s).2.2 w'∧Only w.heap.size w5 w'):=gG w.heap.size _ _ _ w5 R5.out;have Z:Hid ((PZ s).1.size<=maxLen):=tA _ _ _ R5.out.sz
 go_wp2_with fail
 refine Calls.mono C6.out ?_;rintro e w6 ⟨rfl,r6,o6⟩;have O6:Hid (Only w.heap.size w0 w6):=O5.out.trans o6;clear r6 o6 C6;go_wp2;go_ret2;exact⟨rfl,Z.out,bl.out.trans (O6.out.below (Nat.le_refl _))⟩
theorem FX (id:Int)(s:ByteArray)(w:World)(T:tX w)(hs:s.size<=maxLen):
  Calls Tryz.prog 150 #[.int .i64 id,.string s] w fun e w'=>e=.returned (.tuple #[.int .u8 ((opn id s.data.toList).1.toNat:Int),.string ⟨(opn id s.data.toList).2.1.toArray⟩,.int .i64 (opn id s.data.toList).2.2])∧Below w.heap.size w w':=by
 have PW:Hid (tX w):=T;have C0:Hid _:=DJ s w hs;have EO:Hid _:=DF id s;clear T;have SE:Hid (∀w1,tX w1->(pA s).size<=maxLen->Calls Tryz.prog 194 #[.int .i64 id,.int .u8 ((zE s).toNat:Int),.string (pA s)] w1 fun e w'=>e=.returned (.tuple #[.string ⟨(iF id (zE s) (pA s).data.toList).toArray⟩,.int .i64 (fo id (pA s).size)])∧Below w1.heap.size w1 w'):=fun w1 h1 h2=>FW id (zE s) (pA s) w1 h1 h2;generalize(⟨(iF id (zE s) (pA s).data.toList).toArray⟩:ByteArray)=A at*;generalize fo id (pA s).size=E at*;generalize hO:opn id s.data.toList=O at*;have hb:pA s=⟨(pA s).data.toList.toArray⟩:=rfl;by_cases h1:E=0
 ·subst h1;by_cases h2:A=s
  ·subst h2;have TR:Hid ((zE A,(pA A).data.toList,(0:Int))=O):=by
    have:=EO.out
    rwa [if_pos ⟨rfl,rfl⟩]at this
   clear EO;go_enter Tryz.func150,Tryz.ntmps150
   go_wp2_with fail
   refine Calls.mono C0.out ?_;rintro e w1 ⟨rfl,z1,b1⟩;have B1:Hid (Below w.heap.size w w1):=b1;have C1:Hid _:=SE.out w1 (PW.out.below b1) z1;clear b1 C0 SE z1
   go_wp2_with fail
   refine Calls.mono C1.out ?_;rintro e w2 ⟨rfl,b2⟩;have B2:Hid (Below w.heap.size w w2):=B1.out.trans (b2.mono B1.out.size);clear b2 C1;go_wp2
   go_ret3
   rw[<-TR.out];exact⟨rfl,B2.out⟩
  ·have TR:Hid (((0:UInt8),([]:List UInt8),(3:Int))=O):=by
    have:=EO.out
    rwa [if_neg (fun c=>h2 c.2)]at this
   have hne:=P8 h2;clear EO;go_enter Tryz.func150,Tryz.ntmps150
   go_wp2_with fail
   refine Calls.mono C0.out ?_;rintro e w1 ⟨rfl,z1,b1⟩;have B1:Hid (Below w.heap.size w w1):=b1;have C1:Hid _:=SE.out w1 (PW.out.below b1) z1;clear b1 C0 SE z1
   go_wp2_with fail
   refine Calls.mono C1.out ?_;rintro e w2 ⟨rfl,b2⟩;have B2:Hid (Below w.heap.size w w2):=B1.out.trans (b2.mono B1.out.size);clear b2 C1;go_wp2
   go_ret3
   rw[<-TR.out];exact⟨rfl,B2.out⟩
 ·have TR:Hid (((0:UInt8),([]:List UInt8),(3:Int))=O):=by
   have:=EO.out
   rwa [if_neg (fun c=>h1 c.1)]at this
  have hne:(E != 0)=true:=by rw[bne_iff_ne];exact h1
  clear EO h1;go_enter Tryz.func150,Tryz.ntmps150
  go_wp2_with fail
  refine Calls.mono C0.out ?_;rintro e w1 ⟨rfl,z1,b1⟩;have B1:Hid (Below w.heap.size w w1):=b1;have C1:Hid _:=SE.out w1 (PW.out.below b1) z1;clear b1 C0 SE z1
  go_wp2_with fail
  refine Calls.mono C1.out ?_;rintro e w2 ⟨rfl,b2⟩;have B2:Hid (Below w.heap.size w w2):=B1.out.trans (b2.mono B1.out.size);clear b2 C1;go_wp2
  go_ret3
  rw[<-TR.out];exact⟨rfl,B2.out⟩
end
section
open Go.RowKit
end
section
open Go.RowKit
theorem LD {id:Int}{s:List UInt8}(h:(opn id s).2.2≠0):opn id s=(0,[],3):=by
 rcases ng id s with⟨k,b,_,_,h3⟩| ⟨_,h3⟩
 ·rw[h3]at h;exact absurd rfl h
 ·exact h3
end
section
open Go.RowKit
end
end
section
open Go.RowKit Go.WideShapes
def tab:List Int:=[0,498536548,997073096,651767980,1994146192,1802195444,1303535960,1342533948,3988292384,4027552580,3604390888,3412177804,2607071920,2262029012,2685067896,3183342108]
theorem FY:∀n,n<16->tab.getD n 0=((jh n:Nat):Int):=by decide
theorem Bt:Tryz.prog.globalNamed "rootstock/crc.halves" =some 1:=by kernel_rfl
theorem LF:(Tryz.prog.globals[1]?).map (·.type)=some 297:=by kernel_rfl
theorem LG {w:World}{p:Addr}{v:Value}(h:w.cell? p=some v):p.block<w.heap.size:=by
 unfold World.cell? at h;by_cases hb:p.block<w.heap.size
 ·exact hb
 ·rw[Array.getElem?_eq_none (by omega)]at h;simp at h
theorem tab_of_laid {W:World}(h:laidMetH Tryz.prog [("rootstock/crc.halves",Rows.laid_rootstock_crc_halves)] W):tX W:=by
 rw[MakeChecks.laidMetH_plain _ _ _ (by kernel_rfl)]at h;have hT:Lib.TabIs Tryz.prog W "rootstock/crc.halves" .u32 tab:=
  Lib.tabIs_of_head Bt LF Tryz.underlying297 Tryz.underlying163 (by kernel_rfl) (by kernel_rfl) (rest:=[]) h
 have hc:∀i,i<16->W.cell? ⟨1,i,none⟩=some (.int .u32 ((jh i:Nat):Int)):=fun i hi=>by
  rw[<-FY i hi];exact hT.cell Bt i hi
 exact⟨LG (hc 0 (by decide)),hc⟩
theorem door_met (os:Os)(args:Array Value):laidMetH Tryz.prog [("rootstock/crc.halves",Rows.laid_rootstock_crc_halves)] ((World.doorLaid Tryz.prog 400 os).forCall (fun _ _=>0) ⟨#[],args,[]⟩).memory:=
 laidMetH_of_parts3 (fuel:=8) (laidMet_of_run' 8 (by kernel_rfl) (by kernel_rfl)) (by kernel_rfl) (by kernel_rfl)
end
section
section
open Go.RowKit
abbrev Wr:=Nat×ByteArray
structure Dk where
 sure:List ByteArray
 pend:List Wr
 brk:Option Nat
 down:Bool
 reads:Int
 writes:Int
def FZ (l:List Wr)(k:Nat):Wr:=l.getD k (0,ByteArray.empty)
def Fg (l:List ByteArray)(i:Nat):ByteArray:=l.getD i ByteArray.empty
def tY (sure:List ByteArray)(pend:List Wr)(i:Nat)(n:Nat):ByteArray:=(List.range n).foldl (fun s k=>if(FZ pend k).1=i then(FZ pend k).2 else s) (Fg sure i)
def Dk.now (d:Dk)(i:Nat):ByteArray:=tY d.sure d.pend i d.pend.length
def jk (pend:List Wr)(i:Nat)(n:Nat):Option ByteArray:=(List.range n).foldl (fun s k=>if(FZ pend k).1=i then some (FZ pend k).2 else s) none
def jG:ByteArray:=⟨Array.replicate 256 0⟩
def Dk.new (n:Int):Dk:=⟨List.replicate (min (max n 0) 16384).toNat jG,[],none,false,0,0⟩
def Dk.has (d:Dk)(i:Int):Bool:=decide (0<=i∧i<d.sure.length)
def Dk.get (d:Dk)(i:Int):(ByteArray×Int)×Dk:=
 if d.down then((ByteArray.empty,4),d)else if d.has i then((d.now i.toNat,0),{d with reads:=wrap64 (d.reads+1)})else((ByteArray.empty,40),d)
structure Dk.Ok (d:Dk):Prop where
 len:d.sure.length<=16384
 sz:∀s∈d.sure,s.size=256
 pd:∀p∈d.pend,p.1<d.sure.length∧p.2.size=256
 brk:∀k,d.brk=some k->k<=9223372036854775807
theorem F3 {l:List ByteArray}(h:∀s∈l,s.size=256){i:Nat}(hi:i<l.length):(Fg l i).size=256:=by
 unfold Fg;rw[List.getD_eq_getElem?_getD,List.getElem?_eq_getElem hi];exact h _ (List.getElem_mem hi)
theorem Qa {d:Dk}(h:d.Ok){k:Nat}(hk:k<d.pend.length):(FZ d.pend k).1<d.sure.length∧(FZ d.pend k).2.size=256:=by
 unfold FZ;rw[List.getD_eq_getElem?_getD,List.getElem?_eq_getElem hk];exact h.pd _ (List.getElem_mem hk)
theorem qL (s:List ByteArray)(p:List Wr)(i n:Nat):tY s p i (n+1)=if(FZ p n).1=i then(FZ p n).2 else tY s p i n:=by simp[tY,List.range_succ]
theorem xw (p:List Wr)(i n:Nat):jk p i (n+1)=if(FZ p n).1=i then some (FZ p n).2 else jk p i n:=by simp[jk,List.range_succ]
theorem qM (s:List ByteArray)(p:List Wr)(i:Nat):∀n,tY s p i n=(jk p i n).getD (Fg s i)
 |0=>rfl
 |n+1=>by rw[qL,xw,qM s p i n];split<;>rfl
theorem zR:jG.size=256:=by decide+kernel
theorem Dk.zS (n:Int):(Dk.new n).Ok:=by
 refine⟨?_,fun s hs=>?_,fun p hp=>?_,fun k hk=>?_⟩
 ·simp[Dk.new];omega
 ·simp only[Dk.new,List.mem_replicate]at hs;rw[hs.2];exact zR
 ·simp[Dk.new]at hp
 ·simp[Dk.new]at hk
end
section
open Go.RowKit
open Go.ChangeMaps (setBlock)
def isKey (k:Int)(e:MapEntry):Bool:=match e.key with| .int .i64 j=>k==j|_=>false
def jH (w:World)(m:Nat)(g:Int->Option Value):Prop:=
 ∃es clock,w.heap[m]? =some (.map es clock)∧(∀e∈es.toList,∃k,e.key=.int .i64 k)∧∀k,(es.toList.find? (isKey k)).map (·.val)=g k
theorem ox (k:Int):∀(es:List MapEntry) (i:Nat),(∀e∈es,∃k,e.key=.int .i64 k)->
  (es.find? (isKey k)=none∧Instr.findNow (.int .i64) (.int .i64 k) es i=some none)∨
  ∃j e,es[j]? =some e∧es.find? (isKey k)=some e∧(∀n,n<j->∀x,es[n]? =some x->isKey k x=false)∧Instr.findNow (.int .i64) (.int .i64 k) es i=some (some (i+j,e.val))
 |[],_,_=>.inl ⟨rfl,rfl⟩
 |e::es,i,h=>by
  obtain⟨q,hq⟩:=h e (by simp);by_cases hk:k=q
  ·refine .inr ⟨0,e,rfl,?_,(fun n hn=>by omega),?_⟩
   ·simp[List.find?,isKey,hq,hk]
   ·simp[Instr.findNow,Instr.sameNow,hq,hk]
  ·have hkq:(k==q)=false:=beq_eq_false_iff_ne.2 hk;have hik:isKey k e=false:=by simp[isKey,hq,hkq]
   rcases ox k es (i+1) (fun x hx=>h x (by simp[hx]))with⟨h1,h2⟩| ⟨j,x,h1,h2,h3,h4⟩
   ·refine .inl ⟨?_,?_⟩
    ·rw[List.find?_cons,hik];exact h1
    ·simpa[Instr.findNow,Instr.sameNow,hq,hkq]using h2
   ·refine .inr ⟨j+1,x,by simpa using h1,?_,?_,?_⟩
    ·rw[List.find?_cons,hik];exact h2
    ·intro n hn y hy;cases n with
     |zero=>simp at hy;subst hy;exact hik
     |succ n=>exact h3 n (by omega) y (by simpa using hy)
    ·have e1:i+(j+1)=i+1+j:=by omega
     rw[e1];simpa[Instr.findNow,Instr.sameNow,hq,hkq]using h4
theorem oy (k:Int)(es:List MapEntry)(w:World)(r:Option (Nat×Value))(h:Instr.findNow (.int .i64) (.int .i64 k) es 0=some r):(Instr.findKey 3 (.int .i64 k) es).run Tryz.prog w=.ok r w:=by
 simp[Instr.findKey,run_underlying Tryz.underlying3,h,Result.andThen]
theorem mg (k:Int)(b:Bool)(w:World):(Instr.checkKey b 10000 3 (.int .i64 k)).run Tryz.prog w=.ok () w:=by
 exact MapKept.run_checkKey (n:=9999) Tryz.underlying3 (by simp[MapKept.IsKey]) b
def TU:Value:=.agg #[.int .i64 0,.string ByteArray.empty]
theorem jH.look {w:World}{m:Nat}{g:Int->Option Value}(h:jH w m g)(k:Int):
  (Instr.lookup 98 (.map (some m)) (.int .i64 k) true).run Tryz.prog w=.ok (.tuple #[(g k).getD TU,.bool (g k).isSome]) w:=by
 obtain⟨es,clock,hb,hk,hg⟩:=h;rcases ox k es.toList 0 hk with⟨h1,h2⟩| ⟨j,e,h1,h2,h3,h4⟩
 ·have e:=hg k;rw[h1]at e;rw[<-e];simp[Instr.lookup,run_underlying Tryz.underlying98,MapKept.run_getObj_map hb,mg,oy k _ w _ h2,Result.andThen];rfl
 ·have e1:=hg k;rw[h2]at e1;rw[<-e1];simp[Instr.lookup,run_underlying Tryz.underlying98,MapKept.run_getObj_map hb,mg,oy k _ w _ h4,Result.andThen]
theorem jH.kept {w w':World}{m:Nat}{g:Int->Option Value}(h:jH w m g)(e:w'.heap[m]? =w.heap[m]?):jH w' m g:=by
 obtain⟨es,clock,hb,r⟩:=h;exact⟨es,clock,e.trans hb,r⟩
theorem jH.lt {w:World}{m:Nat}{g:Int->Option Value}(h:jH w m g):m<w.heap.size:=by
 obtain⟨es,clock,hb,_⟩:=h;exact(Array.getElem?_eq_some_iff.1 hb).1
theorem jH.empty {w:World}{m clock:Nat}(h:w.heap[m]? =some (.map #[] clock)):jH w m (fun _=>none):=⟨_,_,h,(fun e he=>by simp at he),fun k=>by simp⟩
theorem qN (w:World){m k:Nat}(h:k≠m)(o:Obj):(setBlock w m o).heap[k]? =w.heap[k]? :=by simp[setBlock,Ne.symm h]
def TV (l:List Wr):List Value:=l.flatMap fun p=>[.int .i64 p.1,.string p.2]
def mapOf (pend:List Wr)(k:Int):Option Value:=if k<0 then none else(jk pend k.toNat pend.length).map fun s=>.agg #[.int .i64 k,.string s]
theorem DK:mapOf []=fun _=>none:=by funext k;simp[mapOf,jk]
structure Mem (w:World)(b m g:Nat)(pv:Value)(br:Bool)(lf:Int)(d:Dk):Prop where
 blk:w.heap[b]? =some (.cells #[.slice (some ⟨g,0,none⟩) d.sure.length d.sure.length,pv,.map (some m),.bool br,.int .i64 lf,.bool d.down,.int .i64 d.reads,.int .i64 d.writes] 106 (0,0))
 row:w.heap[g]? =some (.cells (d.sure.map Value.string).toArray 9 (0,0))
 WR:w.ownsRow 0 257 2 pv d.pend.length (TV d.pend)
 map:jH w m (mapOf d.pend)
 enc:d.down=false->(d.brk=none∧br=false)∨∃k:Nat,d.brk=some k∧br=true∧lf=k
 ok:d.Ok
 bg:b≠g
 bm:b≠m
 gm:g≠m
 pb:pv.ownBlock≠some b
 pg:pv.ownBlock≠some g
 pm:pv.ownBlock≠some m
structure cX (X:Nat->Prop)(w w':World):Prop where
 os:w'.os=w.os
 tape:w'.tape=w.tape
 output:w'.output=w.output
 size:w.heap.size<=w'.heap.size
 block:∀k,k<w.heap.size->¬X k->w'.heap[k]? =w.heap[k]?
def Mine (X:Nat->Prop)(w:World)(b:Nat)(d:Dk):Prop:=
 (∃m g pv br lf,Mem w b m g pv br lf d∧X b∧X m∧X g∧∀k,pv.ownBlock=some k->X k)∧∀k,X k->k<w.heap.size
theorem cX.refl (X:Nat->Prop)(w:World):cX X w w:=⟨rfl,rfl,rfl,Nat.le_refl _,fun _ _ _=>rfl⟩
theorem cX.trans {X Y:Nat->Prop}{u v w:World}(h:cX X u v)(k:cX Y v w)(hY:∀k,Y k->X k∨u.heap.size<=k):cX X u w:=
 ⟨k.os.trans h.os,k.tape.trans h.tape,k.output.trans h.output,Nat.le_trans h.size k.size,fun i hi hx=>(k.block i (Nat.lt_of_lt_of_le hi h.size) (fun hy=>(hY i hy).elim hx (fun h1=>by omega))).trans (h.block i hi hx)⟩
theorem cX.alloc (X:Nat->Prop)(w:World)(o:Obj):cX X w (w.alloc o):=⟨rfl,rfl,rfl,by simp,fun k hk _=>Below.heap_alloc _ _ _ hk⟩
theorem cX.setCell {X:Nat->Prop}(w:World){b o:Nat}(hb:X b)(v:Value):cX X w (w.setCell ⟨b,o,none⟩ v):=
 ⟨rfl,rfl,rfl,by simp[World.setCell],fun k _ hx=>Below.heap_setCell _ _ _ _ (fun e=>hx (by rw[e];exact hb))⟩
theorem cX.setBlock {X:Nat->Prop}(w:World){b:Nat}(hb:X b)(o:Obj):cX X w (setBlock w b o):=
 ⟨rfl,rfl,rfl,by simp[Go.ChangeMaps.setBlock],fun k _ hx=>qN w (fun e=>hx (by rw[e];exact hb)) o⟩
theorem cX.grown {X:Nat->Prop}{w w':World}{row:Option Nat}(h:w.grownBy w' row)(hX:∀k,row=some k->X k):cX X w w':=
 ⟨h.os,h.tape,h.output,h.size,fun k hk hx=>h.block k hk (fun e=>hx (hX k e.symm))⟩
theorem cX.below {X:Nat->Prop}{B:Nat}{a w w':World}(hb:Below B a w)(h:cX X w w')(hB:B<=w.heap.size)(hX:∀k,X k->B<=k):Below B a w':=
 hb.trans ⟨h.os,h.tape,h.output,h.size,fun k hk=>h.block k (by omega) (fun hx=>by have:=hX k hx;omega)⟩
theorem fP {w w':World}{base:Nat}{e:TypeId}{size:Nat}{v:Value}{n:Nat}{xs:List Value}(h:w.ownsRow base e size v n xs)(hk:∀k,v.ownBlock=some k->w'.heap[k]? =w.heap[k]?):w'.ownsRow base e size v n xs:=by
 refine⟨h.1,?_⟩;rcases h.2 with hn| ⟨g,cap,cur,rfl,hb,hg,rest⟩
 ·exact .inl hn
 ·exact .inr ⟨g,cap,cur,rfl,hb,(hk g rfl).trans hg,rest⟩
theorem Mem.kept {w w':World}{b m g:Nat}{pv:Value}{br:Bool}{lf:Int}{d:Dk}(h:Mem w b m g pv br lf d)(hb:w'.heap[b]? =w.heap[b]?)(hm:w'.heap[m]? =w.heap[m]?)(hg:w'.heap[g]? =w.heap[g]?)(hp:∀k,pv.ownBlock=some k->w'.heap[k]? =w.heap[k]?):Mem w' b m g pv br lf d:=
 ⟨hb.trans h.blk,hg.trans h.row,fP h.WR hp,h.map.kept hm,h.enc,h.ok,h.bg,h.bm,h.gm,h.pb,h.pg,h.pm⟩
theorem Mem.pk {w:World}{b m g:Nat}{pv:Value}{br:Bool}{lf:Int}{d:Dk}(h:Mem w b m g pv br lf d){k:Nat}(hk:pv.ownBlock=some k):k<w.heap.size∧k≠b∧k≠g∧k≠m:=
 ⟨(h.WR.lt k hk).2,fun e=>h.pb (by rw[hk,e]),fun e=>h.pg (by rw[hk,e]),fun e=>h.pm (by rw[hk,e])⟩
theorem Mem.bl {w:World}{b m g:Nat}{pv:Value}{br:Bool}{lf:Int}{d:Dk}(h:Mem w b m g pv br lf d):b<w.heap.size:=(Array.getElem?_eq_some_iff.1 h.blk).1
theorem Mem.gl {w:World}{b m g:Nat}{pv:Value}{br:Bool}{lf:Int}{d:Dk}(h:Mem w b m g pv br lf d):g<w.heap.size:=(Array.getElem?_eq_some_iff.1 h.row).1
end
section
open Go.RowKit
open Go.ChangeMaps (setBlock)
abbrev ptr (b:Nat):Value:=.pointer (some ⟨b,0,none⟩)
theorem tZ {a b:Bool}(h:a=b):Ending.returned (.bool a)=.returned (.bool b):=by rw[h]
section
variable {w:World}{b m g:Nat}{pv:Value}{br:Bool}{lf:Int}{d:Dk}
theorem Mem.c0 (h:Mem w b m g pv br lf d):w.cell? ⟨b,0,none⟩=some (.slice (some ⟨g,0,none⟩) d.sure.length d.sure.length):=by simp[World.cell?,h.blk]
theorem Mem.c2 (h:Mem w b m g pv br lf d):w.cell? ⟨b,2,none⟩=some (.map (some m)):=by simp[World.cell?,h.blk]
theorem Mem.c5 (h:Mem w b m g pv br lf d):w.cell? ⟨b,5,none⟩=some (.bool d.down):=by simp[World.cell?,h.blk]
theorem Mem.c6 (h:Mem w b m g pv br lf d):w.cell? ⟨b,6,none⟩=some (.int .i64 d.reads):=by simp[World.cell?,h.blk]
theorem Mem.fz (h:Mem w b m g pv br lf d)(o:Nat):w.frozen? ⟨b,o,none⟩=false:=by simp[World.frozen?,h.blk]
theorem Qb (h:Mem w b m g pv br lf d):Calls Tryz.prog 190 #[ptr b] w fun e w'=>e=.returned (.bool d.down)∧w=w':=by
 have c5:=h.c5;have lt:=h.bl;clear h;go_enter Tryz.func190,Tryz.ntmps190;go_wp2;go_ret;exact⟨rfl,rfl⟩
theorem ua (h:Mem w b m g pv br lf d):Calls Tryz.prog 60 #[ptr b] w fun e w'=>e=.returned (.int .i64 d.sure.length)∧w=w':=by
 have c0:=h.c0;have lt:=h.bl;clear h;go_enter Tryz.func60,Tryz.ntmps60;go_wp2;go_ret;exact⟨rfl,rfl⟩
theorem TW (h:Mem w b m g pv br lf d)(i:Int):Calls Tryz.prog 191 #[ptr b,.int .i64 i] w fun e w'=>e=.returned (.bool (d.has i))∧w=w':=by
 have C:Hid (Calls Tryz.prog 60 #[ptr b] w fun e w'=>e=.returned (.int .i64 d.sure.length)∧w=w'):=ua h;have lt:=h.bl;clear h;by_cases h0:0<=i
 ·go_enter Tryz.func191,Tryz.ntmps191
  go_wp2_with fail
  refine Calls.mono C.out ?_;rintro e w1 ⟨rfl,rfl⟩;go_wp2;go_ret;exact⟨tZ (by unfold Dk.has;simp[h0]),rfl⟩
 ·have h1:i<0:=by omega
  go_enter Tryz.func191,Tryz.ntmps191;go_wp2;go_ret;exact⟨tZ (by unfold Dk.has;simp;omega),rfl⟩
theorem Mem.TY (h:Mem w b m g pv br lf d){i:Nat}(hi:i<d.sure.length):w.cell? ⟨g,i,none⟩=some (.string (Fg d.sure i)):=by
 simp[World.cell?,h.row,hi,Fg]
theorem TZ (o:Nat)(x y:Int)(c:w.cell? ⟨b,o,none⟩=some (.int .i64 x))(f:w.frozen? ⟨b,o,none⟩=false):Calls Tryz.prog 192 #[.pointer (some ⟨b,o,none⟩),.int .i64 y] w fun e w'=>e=.returned (.int .i64 (wrap64 (x+y)))∧w'=w.setCell ⟨b,o,none⟩ (.int .i64 (wrap64 (x+y))):=by
 have hl:=run_call_add (P:=Tryz.prog) Tryz.func214 (by kernel_rfl) (by kernel_rfl) (by kernel_rfl) .i64 (by kernel_rfl) (y:=y) (s:=wrap64 (x+y)) c f (by simp[go_sem,wrap64,IntKind.wrap_i64]);go_enter Tryz.func192,Tryz.ntmps192;go_wp2;go_ret;exact⟨rfl,rfl⟩
end
end
section
open Go.RowKit
open Go.ChangeMaps (setBlock)
structure iG (b:Nat)(w w':World):Prop where
 os:w'.os=w.os
 tape:w'.tape=w.tape
 output:w'.output=w.output
 size:w'.heap.size=w.heap.size
 block:∀k,k≠b->w'.heap[k]? =w.heap[k]?
theorem iG.refl (b:Nat)(w:World):iG b w w:=⟨rfl,rfl,rfl,rfl,fun _ _=>rfl⟩
theorem iG.trans {b:Nat}{u v w:World}(h:iG b u v)(k:iG b v w):iG b u w:=
 ⟨k.os.trans h.os,k.tape.trans h.tape,k.output.trans h.output,k.size.trans h.size,fun i hi=>(k.block i hi).trans (h.block i hi)⟩
theorem iG.setCell (b o:Nat)(w:World)(v:Value):iG b w (w.setCell ⟨b,o,none⟩ v):=
 ⟨rfl,rfl,rfl,by simp[World.setCell],fun k hk=>Below.heap_setCell _ _ _ _ hk⟩
section
variable {w w':World}{b m g:Nat}{pv:Value}{br:Bool}{lf:Int}{d:Dk}
theorem Mem.upd (h:Mem w b m g pv br lf d)(o:iG b w w'){VS:Bool}{zT:Int}{d':Dk}(hs:d'.sure=d.sure)(hp:d'.pend=d.pend)
  (hb:w'.heap[b]? =some (.cells #[.slice (some ⟨g,0,none⟩) d.sure.length d.sure.length,pv,.map (some m),.bool VS,.int .i64 zT,.bool d'.down,.int .i64 d'.reads,.int .i64 d'.writes] 106 (0,0)))
  (enc:d'.down=false->(d'.brk=none∧VS=false)∨∃k:Nat,d'.brk=some k∧VS=true∧zT=k)(ok:d'.Ok):Mem w' b m g pv VS zT d':=
 ⟨by rw[hs];exact hb,by rw[hs];exact(o.block g h.bg.symm).trans h.row,by rw[hp];exact fP h.WR (fun k hk=>o.block k (h.pk hk).2.1),by rw[hp];exact h.map.kept (o.block m h.bm.symm),enc,ok,h.bg,h.bm,h.gm,h.pb,h.pg,h.pm⟩
def T5 (w:World)(b m g:Nat)(pv:Value)(d:Dk):Prop:=∃br lf,Mem w b m g pv br lf d
theorem Mem.WS (h:Mem w b m g pv br lf d)(x:Int):Mem (w.setCell ⟨b,6,none⟩ (.int .i64 x)) b m g pv br lf {d with reads:=x}:=
 h.upd (iG.setCell b 6 w _) rfl rfl (by simp[World.setCell,Array.getElem?_modify,h.blk]) h.enc ⟨h.ok.len,h.ok.sz,h.ok.pd,h.ok.brk⟩
theorem Mem.alloc (h:Mem w b m g pv br lf d)(o:Obj):Mem (w.alloc o) b m g pv br lf d:=
 h.kept (Below.heap_alloc _ _ _ h.bl) (Below.heap_alloc _ _ _ h.map.lt) (Below.heap_alloc _ _ _ h.gl) (fun k hk=>Below.heap_alloc _ _ _ (h.pk hk).1)
end
end
section
open Go.RowKit
open Go.ChangeMaps (setBlock)
section
variable {w w':World}{b m g:Nat}{pv:Value}{br:Bool}{lf:Int}{d:Dk}
theorem Qc (h:Mem w b m g pv br lf d)(i:Int):Calls Tryz.prog 149 #[ptr b,.int .i64 i] w fun e w'=>e=.returned (.tuple #[.string (d.get i).1.1,.int .i64 (d.get i).1.2])∧cX (fun k=>k=b) w w'∧T5 w' b m g pv (d.get i).2:=by
 have H:Hid (Mem w b m g pv br lf d):=h;have C1:Hid (Calls Tryz.prog 190 #[ptr b] w fun e w'=>e=.returned (.bool d.down)∧w=w'):=Qb h;have C2:Hid (Calls Tryz.prog 191 #[ptr b,.int .i64 i] w fun e w'=>e=.returned (.bool (d.has i))∧w=w'):=TW h i;have lt:=h.bl;have hl:=h.ok.len;by_cases hd:d.down=true
 ·have HG:Hid (d.get i=((ByteArray.empty,4),d)):=by show d.get i=_;unfold Dk.get;rw[if_pos hd]
  clear h;go_enter Tryz.func149,Tryz.ntmps149
  go_wp2_with fail
  refine Calls.mono C1.out ?_;rintro e w1 ⟨rfl,rfl⟩;go_wp2;go_ret2;rw[HG.out];exact⟨rfl,cX.refl _ _,br,lf,H.out⟩
 ·have hf:d.down=false:=by simpa using hd
  by_cases hi:d.has i=true
  ·have HG:Hid (d.get i=((d.now i.toNat,0),{d with reads:=wrap64 (d.reads+1)})):=by show d.get i=_;unfold Dk.get;rw[if_neg hd,if_pos hi]
   obtain⟨h0,h1⟩:=of_decide_eq_true hi;obtain⟨n,rfl⟩:∃n:Nat,i=n:=⟨i.toNat,by omega⟩;have hn:n<d.sure.length:=by omega
   have C3:Hid (Calls Tryz.prog 192 #[.pointer (some ⟨b,6,none⟩),.int .i64 1] w fun e w'=>e=.returned (.int .i64 (wrap64 (d.reads+1)))∧w'=w.setCell ⟨b,6,none⟩ (.int .i64 (wrap64 (d.reads+1)))):=TZ 6 _ _ h.c6 (h.fz 6);obtain⟨w2,e2⟩:∃w2,w2=w.setCell ⟨b,6,none⟩ (.int .i64 (wrap64 (d.reads+1))):=⟨_,rfl⟩;have h2:Mem w2 b m g pv br lf {d with reads:=wrap64 (d.reads+1)}:=by rw[e2];exact h.WS _
   have H2:Hid (Mem w2 b m g pv br lf {d with reads:=wrap64 (d.reads+1)}):=h2;have T2:Hid (cX (fun k=>k=b) w w2):=by show cX _ _ _;rw[e2];exact cX.setCell (X:=fun k=>k=b) w rfl _
   rw[<-e2]at C3;have c0:=h2.c0;have c2:=h2.c2;have lt2:=h2.bl;have gl2:=h2.gl;have cg:=h2.TY (i:=n) hn;have hlk:=h2.map.look n;have HN:Hid (d.now (n:Int).toNat=(jk d.pend n d.pend.length).getD (Fg d.sure n)):=qM _ _ _ _;have em:mapOf d.pend n=(jk d.pend n d.pend.length).map fun s=>.agg #[.int .i64 n,.string s]:=by unfold mapOf;rw[if_neg (by omega)];rfl
   clear h h2 e2;cases hlast:jk d.pend n d.pend.length with
   |none=>
    rw[hlast]at em HN;rw[em]at hlk;have HLK:(Instr.lookup 98 (.map (some m)) (.int .i64 n) true).run Tryz.prog w2=.ok (.tuple #[.agg #[.int .i64 0,.string ByteArray.empty],.bool false]) w2:=hlk;clear hlast em hlk;go_enter Tryz.func149,Tryz.ntmps149
    go_wp2_with fail
    refine Calls.mono C1.out ?_;rintro e w1 ⟨rfl,rfl⟩
    go_wp2_with fail
    refine Calls.mono C2.out ?_;rintro e w1 ⟨rfl,rfl⟩
    go_wp2_with fail
    refine Calls.mono C3.out ?_;rintro e w1 ⟨rfl,rfl⟩;go_wp2;go_ret2;rw[HG.out];refine⟨?_,T2.out.trans (cX.alloc (fun k=>k=b) _ _) (fun _ hk=>.inl hk),br,lf,H2.out.alloc _⟩;rw[HN.out];rfl
   |some s=>
    rw[hlast]at em HN;rw[em]at hlk;have HLK:(Instr.lookup 98 (.map (some m)) (.int .i64 n) true).run Tryz.prog w2=.ok (.tuple #[.agg #[.int .i64 n,.string s],.bool true]) w2:=hlk;clear hlast em hlk;go_enter Tryz.func149,Tryz.ntmps149
    go_wp2_with fail
    refine Calls.mono C1.out ?_;rintro e w1 ⟨rfl,rfl⟩
    go_wp2_with fail
    refine Calls.mono C2.out ?_;rintro e w1 ⟨rfl,rfl⟩
    go_wp2_with fail
    refine Calls.mono C3.out ?_;rintro e w1 ⟨rfl,rfl⟩;go_wp2;go_ret2;rw[HG.out];refine⟨?_,T2.out.trans (cX.alloc (fun k=>k=b) _ _) (fun _ hk=>.inl hk),br,lf,H2.out.alloc _⟩;rw[HN.out];rfl
  ·have hif:d.has i=false:=by simpa using hi
   have HG:Hid (d.get i=((ByteArray.empty,40),d)):=by show d.get i=_;unfold Dk.get;rw[if_neg hd,if_neg hi]
   clear h;go_enter Tryz.func149,Tryz.ntmps149
   go_wp2_with fail
   refine Calls.mono C1.out ?_;rintro e w1 ⟨rfl,rfl⟩
   go_wp2_with fail
   refine Calls.mono C2.out ?_;rintro e w1 ⟨rfl,rfl⟩;go_wp2;go_ret2;rw[HG.out];exact⟨rfl,cX.refl _ _,br,lf,H.out⟩
end
end
section
open Go.RowKit
open Go.ChangeMaps (setBlock)
section
variable {w w':World}{b m g:Nat}{pv:Value}{br:Bool}{lf:Int}{d:Dk}
abbrev bx (n:Nat)(s:ByteArray):Obj:=.cells #[.int .i64 n,.string s] 257
end
end
section
open Go.RowKit
open Go.ChangeMaps (setBlock)
section
variable {w w':World}{b m g:Nat}{pv:Value}{br:Bool}{lf:Int}{d:Dk}
end
end
section
open Go.RowKit
open Go.ChangeMaps (setBlock)
def nh (w:World)(v:Value)(l:List Int):Prop:=
 ∃ao cap,v=.slice ao l.length cap∧(l≠[]->∃r o,ao=some ⟨r,o,none⟩∧r<w.heap.size∧∀j,j<l.length->w.cell? ⟨r,o+j,none⟩=some (.int .i64 (l.getD j 0)))
theorem ub {keep:List Int}{t:Nat}(ht:t<keep.length):keep.take (t+1)=keep.take t++[keep.getD t 0]:=by
 rw[List.take_add_one,List.getElem?_eq_getElem ht,List.getD_eq_getElem?_getD,List.getElem?_eq_getElem ht];rfl
section
variable {w w':World}{b m g:Nat}{pv:Value}{br:Bool}{lf:Int}{d:Dk}
end
end
section
open Go.RowKit
end
section
open Go.RowKit
open Go.ChangeMaps (setBlock)
theorem zU:(Tryz.prog.info? 9).map (fun i=>(i.zero,i.size,i.bytes))=some (some (.string ByteArray.empty),1,16):=by kernel_rfl
def dP (N t:Nat):List ByteArray:=List.replicate t jG++List.replicate (N-t) ByteArray.empty
theorem tB {N t:Nat}(h:t<=N):(dP N t).length=N:=by simp[dP];omega
theorem zV {N t:Nat}(h:t<N):dP N (t+1)=(dP N t).set t jG:=by
 unfold dP;rw[List.set_append_right _ _ (by simp),show N-t=(N- (t+1))+1 by omega,List.replicate_succ' (n:=t),List.replicate_succ (n:=N- (t+1))];simp
theorem zW (N:Nat):dP N N=List.replicate N jG:=by simp[dP]
theorem DM (w:World)(N:Nat)(hN:N<1000000):(Instr.makeSlice 52 (.int .i64 N) (.int .i64 N)).run Tryz.prog w=.ok (.slice (some ⟨w.heap.size,0,none⟩) N N) (w.alloc (.cells ((dP N 0).map Value.string).toArray 9)):=by
 obtain⟨i0,hi,hz0,hz1,hz2⟩:=info_parts zU;have h:=run_make (P:=Tryz.prog) w 52 9 i0 _ Tryz.underlying52 hi hz0 .i64 .i64 N N (by omega) (Int.le_refl _) (by rw[hz2];omega) (by omega);rw[h];have e:madeCells (Value.string ByteArray.empty).cells ((N:Int).toNat*i0.size)=((dP N 0).map Value.string).toArray:=by
  rw[hz1,Int.toNat_natCast,Nat.mul_one];apply Array.toList_inj.1;rw[show(Value.string ByteArray.empty).cells=#[Value.string ByteArray.empty]from rfl,toList_madeCells_one];simp[dP]
 rw[e];simp
theorem uY:(⟨(Lib.repeatL [0] 256).toArray⟩:ByteArray)=jG:=by decide+kernel
theorem T8 (n:Int)(w:World):Calls Tryz.prog 26 #[.int .i64 n] w fun e w'=>∃b,e=.returned (ptr b)∧Below w.heap.size w w'∧Mine (fun k=>w.heap.size<=k∧k<w'.heap.size) w' b (Dk.new n):=by
 obtain⟨N,hN⟩:∃N:Nat,N=(min (max n 0) 16384).toNat:=⟨_,rfl⟩;have hNl:N<=16384:=by omega
 have HD:Hid (Dk.new n=⟨List.replicate N jG,[],none,false,0,0⟩):=by show Dk.new n=_;unfold Dk.new;rw[hN]
 have OKD:Hid ((Dk.new n).Ok):=Dk.zS n;have hmk:=DM w N (by omega);have hmm:=@run_makeMap Tryz.prog;obtain⟨w1,e1⟩:∃w1,w1=w.alloc (.cells ((dP N 0).map Value.string).toArray 9):=⟨_,rfl⟩;rw[<-e1]at hmk;have Q1:Hid (w1.heap[w.heap.size]? =some (.cells ((dP N 0).map Value.string).toArray 9 (0,0))):=by show _=_;rw[e1];exact heap_alloc_new w _
 have B1:Hid (Below w.heap.size w w1):=by show Below _ _ _;rw[e1];exact(Below.refl _ _).alloc (Nat.le_refl _) _
 have S1:w1.heap.size=w.heap.size+1:=by rw[e1];simp
 clear e1;have hmx:min (max n 0) 16384=(N:Int):=by omega
 clear hN;go_enter Tryz.func26,Tryz.ntmps26
 go_wp2_with fail
 obtain⟨w3,e3⟩:∃w3,w3=(w1.alloc (.map #[] 0)).alloc (.cells #[.slice (some ⟨w.heap.size,0,none⟩) N N,.slice none 0 0,.map (some (w.heap.size+1)),.bool false,.int .i64 0,.bool false,.int .i64 0,.int .i64 0] 106):=⟨_,rfl⟩;rw[<-e3];have hA:(w1.alloc (.map #[] 0)).heap.size=w.heap.size+1+1:=by simp[S1]
 have P3:Hid (w3.heap[w.heap.size+1+1]? =some (.cells #[.slice (some ⟨w.heap.size,0,none⟩) N N,.slice none 0 0,.map (some (w.heap.size+1)),.bool false,.int .i64 0,.bool false,.int .i64 0,.int .i64 0] 106 (0,0))):=by
  show _=_;rw[e3,<-hA];exact heap_alloc_new _ _
 have K3:Hid (∀k,k<w1.heap.size->w3.heap[k]? =w1.heap[k]?):=fun k hk=>by
  rw[e3];exact(Below.heap_alloc _ _ k (by rw[hA];omega)).trans (Below.heap_alloc _ _ k hk)
 have N3:Hid (w3.heap[w.heap.size+1]? =some (.map #[] 0)):=by
  show _=_;rw[e3,Below.heap_alloc _ _ _ (by rw[hA];omega),<-S1];exact heap_alloc_new _ _
 have S3:w3.heap.size=w.heap.size+3:=by rw[e3];simp[S1]
 have B3:Hid (Below w.heap.size w w3):=by show Below _ _ _;rw[e3];exact(B1.out.alloc (by omega) _).alloc (by rw[hA];omega) _
 clear e3 hA;have RC:Hid (Calls Tryz.prog 46 #[.string ⟨#[0]⟩,.int .i64 (256:Nat)] w3 fun e w'=>e=.returned (.string ⟨(Lib.repeatL [0] 256).toArray⟩)∧Below w3.heap.size w3 w'):=Tryz.strings_Repeat ⟨#[0]⟩ 256 w3 (by omega) (by show 1*256<=_;omega);refine Calls.mono RC.out ?_;rintro e w4 ⟨rfl,b4⟩;rw[uY];have B4:Hid (Below w3.heap.size w3 w4):=b4;have s4:w.heap.size+3<=w4.heap.size:=by rw[<-S3];exact b4.size
 have P4:Hid (w4.heap[w.heap.size+1+1]? =some (.cells #[.slice (some ⟨w.heap.size,0,none⟩) N N,.slice none 0 0,.map (some (w.heap.size+1)),.bool false,.int .i64 0,.bool false,.int .i64 0,.int .i64 0] 106 (0,0))):=(b4.block _ (by omega)).trans P3.out;have N4:Hid (w4.heap[w.heap.size+1]? =some (.map #[] 0)):=(b4.block _ (by omega)).trans N3.out;have Q4:Hid (w4.heap[w.heap.size]? =some (.cells ((dP N 0).map Value.string).toArray 9 (0,0))):=(b4.block _ (by omega)).trans ((K3.out _ (by omega)).trans Q1.out);have c0:w4.cell? ⟨w.heap.size+1+1,0,none⟩=some (.slice (some ⟨w.heap.size,0,none⟩) N N):=by simp[World.cell?,P4.out]
 have lt4:w.heap.size+1+1<w4.heap.size:=by omega
 clear b4 RC hmm hmk hmx;obtain⟨z,hz⟩:∃z,z=jG:=⟨_,rfl⟩;rw[<-hz];have HZ:Hid (z=jG):=hz;clear hz;go_wp2
 go_loopg [19] N (fun gk s19 wr=>∃t:Nat,s19=.int .i64 t∧t<=N∧N-t<=gk∧Aside (wr.heap[w.heap.size]? =some (.cells ((dP N t).map Value.string).toArray 9 (0,0)))∧Hid (iG w.heap.size w4 wr))
 case atStart=>exact⟨0,rfl,Nat.zero_le _,Nat.le_refl _,Q4.out,iG.refl _ _⟩
 case round=>
  obtain⟨t,rfl,ht,hgt,HQ,HO⟩:=hrel;have cr:wr.cell? ⟨w.heap.size+1+1,0,none⟩=some (.slice (some ⟨w.heap.size,0,none⟩) N N):=(World.cell?_of_block (a:=⟨w.heap.size+1+1,0,none⟩) (HO.out.block _ (by show w.heap.size+1+1≠w.heap.size;omega))).trans c0;have ltr:w.heap.size+1+1<wr.heap.size:=by rw[HO.out.size];exact lt4
  by_cases htl:t<N
  ·have htz:(t:Int)< (N:Int):=by omega
   have q0:wr.cell? ⟨w.heap.size,t,none⟩=some (.string (Fg (dP N t) t)):=by
    have hl:t< (dP N t).length:=by rw[tB ht];exact htl
    simp only[World.cell?,HQ.out];simp[Fg,hl]
   have qf:wr.frozen? ⟨w.heap.size,t,none⟩=false:=by simp[World.frozen?,HQ.out]
   have Hfs:Hid (dP N (t+1)=(dP N t).set t jG):=zV htl;generalize Fg (dP N t) t=old at*;go_wp2
   go_roundg (N- (t+1))
   case measure=>omega
   case rel=>
    refine⟨t+1,by go_num,by omega,Nat.le_refl _,?_,HO.out.trans (iG.setCell _ _ _ _)⟩;show _=_;rw[Hfs.out,HZ.out];simp[World.setCell,Array.getElem?_modify,HQ.out]
  ·have htz:¬(t:Int)< (N:Int):=by omega
   obtain rfl:t=N:=by omega
   have fin:Below w.heap.size w wr∧Mine (fun k=>w.heap.size<=k∧k<wr.heap.size) wr (w.heap.size+1+1) (Dk.new n):=by
    refine⟨B3.out.trans ⟨HO.out.os.trans B4.out.os,HO.out.tape.trans B4.out.tape,HO.out.output.trans B4.out.output,by rw[HO.out.size];omega,fun k hk=>(HO.out.block k (by omega)).trans (B4.out.block k (by omega))⟩,⟨w.heap.size+1,w.heap.size,.slice none 0 0,false,0,?_,by omega,by omega,by omega,fun k hk=>by simp[Value.ownBlock]at hk⟩,fun k hk=>hk.2⟩;have OK:=OKD.out;rw[HD.out]at OK⊢;refine⟨?_,?_,World.ownsRow_nil _ _ _ _,?_,fun _=>.inl ⟨rfl,rfl⟩,OK,by omega,by omega,by omega,by simp[Value.ownBlock],by simp[Value.ownBlock],by simp[Value.ownBlock]⟩
    ·rw[HO.out.block _ (by omega),P4.out];simp
    ·rw[HQ.out,zW]
    ·rw[DK];exact jH.empty ((HO.out.block _ (by omega)).trans N4.out)
   have FIN:Hid (Below w.heap.size w wr∧Mine (fun k=>w.heap.size<=k∧k<wr.heap.size) wr (w.heap.size+1+1) (Dk.new n)):=fin;clear fin HQ HO;go_wp2;go_ret;exact⟨_,rfl,FIN.out⟩
end
section
open Go.RowKit
def Goes (X:Nat->Prop)(w w':World)(b:Nat)(d':Dk):Prop:=∃X',Mine X' w' b d'∧cX X w w'∧∀k,X' k->X k∨w.heap.size<=k
section
variable {X:Nat->Prop}{w w':World}{b m g:Nat}{pv pv':Value}{br:Bool}{lf:Int}{d d':Dk}
theorem LH (hl:∀k,X k->k<w.heap.size)(hM:T5 w' b m g pv' d')(xb:X b)(xm:X m)(xg:X g)(hp:∀k,pv'.ownBlock=some k->X k∨w.heap.size<=k)(ht:cX X w w'):Goes X w w' b d':=by
 obtain⟨br,lf,h⟩:=hM;refine⟨fun k=>X k∨(w.heap.size<=k∧k<w'.heap.size),⟨⟨m,g,pv',br,lf,h,.inl xb,.inl xm,.inl xg,fun k hk=>(hp k hk).elim .inl (fun h1=>.inr ⟨h1,(h.pk hk).1⟩)⟩,fun k hk=>?_⟩,ht,fun k hk=>hk.elim .inl (fun h=>.inr h.1)⟩;rcases hk with h1|h1
 ·exact Nat.lt_of_lt_of_le (hl k h1) ht.size
 ·exact h1.2
theorem cX.sub {Y:Nat->Prop}(t:cX Y w w')(h:∀k,Y k->X k):cX X w w':=⟨t.os,t.tape,t.output,t.size,fun k hk hx=>t.block k hk (fun hy=>hx (h k hy))⟩
theorem DO (h:Mine X w b d):Calls Tryz.prog 60 #[ptr b] w fun e w'=>e=.returned (.int .i64 d.sure.length)∧w=w':=by
 obtain⟨⟨m,g,pv,br,lf,hM,_⟩,_⟩:=h;exact ua hM
theorem Qd (h:Mine X w b d)(i:Int):Calls Tryz.prog 149 #[ptr b,.int .i64 i] w fun e w'=>e=.returned (.tuple #[.string (d.get i).1.1,.int .i64 (d.get i).1.2])∧Goes X w w' b (d.get i).2:=by
 obtain⟨⟨m,g,pv,br,lf,hM,xb,xm,xg,xp⟩,hl⟩:=h;refine(Qc hM i).mono ?_;rintro e w' ⟨he,ht,hm⟩;exact⟨he,LH hl hm xb xm xg (fun k hk=>.inl (xp k hk)) (ht.sub (fun k hk=>by subst hk;exact xb))⟩
end
end
section
open Go.RowKit
abbrev aP:=World->(Nat->Prop)->Prop
structure Good (r:aP):Prop where
 kept:∀w w' X,r w X->(∀k,X k->w'.heap[k]? =w.heap[k]?)->w.heap.size<=w'.heap.size->r w' X
 lt:∀w X,r w X->∀k,X k->k<w.heap.size
def Hp (w:World):List aP->(Nat->Prop)->Prop
 |[],Y=>∀k,¬Y k
 |r::l,Y=>Good r∧∃X Z,r w X∧Hp w l Z∧(∀k,X k->¬Z k)∧∀k,Y k↔X k∨Z k
def Sep (B:Nat)(w0 w:World)(l:List aP):Prop:=B<=w.heap.size∧Below B w0 w∧∃Y,Hp w l Y∧∀k,Y k->B<=k
theorem Hp.lt {w:World}:∀ {l:List aP} {Y:Nat->Prop},Hp w l Y->∀k,Y k->k<w.heap.size
 |[],_,h,k,hk=>absurd hk (h k)
 |r::l,_,⟨g,X,Z,hr,hl,_,hy⟩,k,hk=>by
  rcases(hy k).1 hk with h|h
  ·exact g.lt w X hr k h
  ·exact hl.lt k h
theorem Hp.kept {w w':World}(hs:w.heap.size<=w'.heap.size):∀ {l:List aP} {Y:Nat->Prop},Hp w l Y->(∀k,Y k->w'.heap[k]? =w.heap[k]?)->Hp w' l Y
 |[],_,h,_=>h
 |r::l,_,⟨g,X,Z,hr,hl,hd,hy⟩,hk=>⟨g,X,Z,g.kept w w' X hr (fun k h=>hk k ((hy k).2 (.inl h))) hs,hl.kept hs (fun k h=>hk k ((hy k).2 (.inr h))),hd,hy⟩
theorem Hp.swap {w:World}{a b:aP}{l:List aP}{Y:Nat->Prop}(h:Hp w (a::b::l) Y):Hp w (b::a::l) Y:=by
 obtain⟨ga,X,Z,ha,⟨gb,X2,Z2,hb,hl,hd2,hy2⟩,hd,hy⟩:=h;refine⟨gb,X2,fun k=>X k∨Z2 k,hb,⟨ga,X,Z2,ha,hl,fun k hk h2=>hd k hk ((hy2 k).2 (.inr h2)),fun k=>Iff.rfl⟩,fun k hk h2=>?_,fun k=>?_⟩
 ·rcases h2 with h2|h2
  ·exact hd k h2 ((hy2 k).2 (.inl hk))
  ·exact hd2 k hk h2
 ·rw[hy k,hy2 k];constructor
  ·rintro(h|h|h)
   ·exact .inr (.inl h)
   ·exact .inl h
   ·exact .inr (.inr h)
  ·rintro(h|h|h)
   ·exact .inr (.inl h)
   ·exact .inl h
   ·exact .inr (.inr h)
theorem Hp.under {w:World}{a:aP}{l l':List aP}{Y:Nat->Prop}(h:Hp w (a::l) Y)(f:∀Z,Hp w l Z->Hp w l' Z):Hp w (a::l') Y:=by
 obtain⟨ga,X,Z,ha,hl,hd,hy⟩:=h;exact⟨ga,X,Z,ha,f Z hl,hd,hy⟩
section
variable {B:Nat}{w0 w w':World}{a b c e:aP}{l:List aP}
theorem Sep.map {l l':List aP}(h:Sep B w0 w l)(f:∀Z,Hp w l Z->Hp w l' Z):Sep B w0 w l':=by
 obtain⟨hB,hb,Y,hl,hY⟩:=h;exact⟨hB,hb,Y,f Y hl,hY⟩
theorem Sep.qO (h:Sep B w0 w (a::b::l)):Sep B w0 w (b::a::l):=h.map fun _=>Hp.swap
theorem Sep.T9 (h:Sep B w0 w (a::b::c::l)):Sep B w0 w (c::a::b::l):=(h.map fun _ h=>Hp.under h fun _=>Hp.swap).qO
theorem Sep.up3 (h:Sep B w0 w (a::b::c::e::l)):Sep B w0 w (e::a::b::c::l):=(h.map fun _ h=>Hp.under h fun _ h=>Hp.under h fun _=>Hp.swap).T9
theorem Sep.WT (h:Sep B w0 w (c::a::b::l)):Sep B w0 w (a::b::c::l):=h.qO.map fun _ h=>Hp.under h fun _=>Hp.swap
theorem Sep.dn3 (h:Sep B w0 w (e::a::b::c::l)):Sep B w0 w (a::b::c::e::l):=h.WT.map fun _ h=>Hp.under h fun _ h=>Hp.under h fun _=>Hp.swap
theorem Sep.WU {f:aP}(h:Sep B w0 w (f::a::b::c::e::l)):Sep B w0 w (a::b::c::e::f::l):=h.dn3.map fun _ h=>Hp.under h fun _ h=>Hp.under h fun _ h=>Hp.under h fun _=>Hp.swap
theorem Sep.F4 (h:Sep B w0 w l):Below B w0 w:=h.2.1
theorem Sep.below {l:List aP}(h:Sep B w0 w l)(hb:Below w.heap.size w w'):Sep B w0 w' l:=by
 obtain⟨hB,hb0,Y,hl,hY⟩:=h;exact⟨Nat.le_trans hB hb.size,hb0.trans (hb.mono hB),Y,hl.kept hb.size (fun k hk=>hb.block k (hl.lt k hk)),hY⟩
theorem Sep.alloc {l:List aP}(h:Sep B w0 w l)(o:Obj):Sep B w0 (w.alloc o) l:=h.below ((Below.refl _ _).alloc (Nat.le_refl _) o)
theorem Sep.drew {l:List aP}(h:Sep B w0 w l):Sep B w0 w.drew l:=h.below (Below.refl _ _).drew
theorem Sep.nil (hB:B<=w.heap.size)(hb:Below B w0 w):Sep B w0 w []:=⟨hB,hb,fun _=>False,fun _ h=>h,fun _ h=>h.elim⟩
theorem Sep.step {a':aP}(h:Sep B w0 w (a::l))(g':Good a')(f:∀X,a w X->∃X',a' w' X'∧cX X w w'∧∀k,X' k->X k∨w.heap.size<=k):Sep B w0 w' (a'::l):=by
 obtain⟨hB,hb,Y,⟨ga,X,Z,ha,hl,hd,hy⟩,hY⟩:=h;obtain⟨X',ha',ht,hx⟩:=f X ha;have hlt:=hl.lt;refine⟨Nat.le_trans hB ht.size,ht.below hb hB (fun k hk=>hY k ((hy k).2 (.inl hk))),fun k=>X' k∨Z k,⟨g',X',Z,ha',hl.kept ht.size (fun k hk=>ht.block k (hlt k hk) (fun hx=>hd k hx hk)),fun k hk hz=>?_,fun k=>Iff.rfl⟩,fun k hk=>?_⟩
 ·rcases hx k hk with h1|h1
  ·exact hd k h1 hz
  ·have:=hlt k hz;omega
 ·rcases hk with h1|h1
  ·rcases hx k h1 with h2|h2
   ·exact hY k ((hy k).2 (.inl h2))
   ·omega
  ·exact hY k ((hy k).2 (.inr h1))
theorem Sep.add {a':aP}(h:Sep B w0 w l)(hb:Below w.heap.size w w')(g':Good a'){X:Nat->Prop}(ha:a' w' X)(hX:∀k,X k->w.heap.size<=k):Sep B w0 w' (a'::l):=by
 have h':=h.below hb;obtain⟨hB,_,Y,hl,hY⟩:=h;have hlt:=hl.lt;obtain⟨hB',hb',_⟩:=h';refine⟨hB',hb',fun k=>X k∨Y k,⟨g',X,Y,ha,hl.kept hb.size (fun k hk=>hb.block k (hlt k hk)),fun k hk hz=>?_,fun k=>Iff.rfl⟩,fun k hk=>?_⟩
 ·have:=hX k hk;have:=hlt k hz;omega
 ·rcases hk with h1|h1
  ·have:=hX k h1;omega
  ·exact hY k h1
end
def oQ (b:Nat)(d:Dk):aP:=fun w X=>Mine X w b d
theorem nr (b:Nat)(d:Dk):Good (oQ b d):=
 ⟨fun w w' X h hk hs=>by
  obtain⟨⟨m,g,pv,br,lf,hM,xb,xm,xg,xp⟩,hl⟩:=h
  exact⟨⟨m,g,pv,br,lf,hM.kept (hk _ xb) (hk _ xm) (hk _ xg) (fun k h=>hk k (xp k h)),xb,xm,xg,xp⟩,fun k hk=>Nat.lt_of_lt_of_le (hl k hk) hs⟩,fun w X h=>h.2⟩
section
variable {B:Nat}{w0 w w':World}{b:Nat}{d d':Dk}{l:List aP}
theorem Sep.mine (h:Sep B w0 w (oQ b d::l)):∃X,Mine X w b d:=by
 obtain⟨_,_,Y,⟨_,X,_,ha,_⟩,_⟩:=h;exact⟨X,ha⟩
theorem Sep.ok (h:Sep B w0 w (oQ b d::l)):d.Ok:=by
 obtain⟨X,⟨m,g,pv,br,lf,hM,_⟩,_⟩:=h.mine;exact hM.ok
theorem Calls.LI {P:Program}{f:Nat}{args:Array Value}{Q:Ending->World->Prop}{v:Value}(h:Sep B w0 w (oQ b d::l))(hQ:∀X,Mine X w b d->Calls P f args w (fun e w'=>e=.returned v∧Goes X w w' b d')):Calls P f args w fun e w'=>e=.returned v∧Sep B w0 w' (oQ b d'::l):=by
 obtain⟨hB,hb,Y,⟨ga,X,Z,ha,hl,hd,hy⟩,hY⟩:=h;refine(hQ X ha).mono ?_;rintro e w' ⟨he,X',hm,ht,hx⟩;refine⟨he,Nat.le_trans hB ht.size,ht.below hb hB (fun k hk=>hY k ((hy k).2 (.inl hk))),fun k=>X' k∨Z k,⟨nr b d',X',Z,hm,hl.kept ht.size (fun k hk=>ht.block k (hl.lt k hk) (fun hx=>hd k hx hk)),fun k hk hz=>?_,fun k=>Iff.rfl⟩,fun k hk=>?_⟩
 ·rcases hx k hk with h1|h1
  ·exact hd k h1 hz
  ·have:=hl.lt k hz;omega
 ·rcases hk with h1|h1
  ·rcases hx k h1 with h2|h2
   ·exact hY k ((hy k).2 (.inl h2))
   ·omega
  ·exact hY k ((hy k).2 (.inr h1))
theorem Ua (n:Int)(h:Sep B w0 w l):Calls Tryz.prog 26 #[.int .i64 n] w fun e w'=>∃b,e=.returned (ptr b)∧Sep B w0 w' (oQ b (Dk.new n)::l):=by
 refine(T8 n w).mono ?_;rintro e w' ⟨b,he,hbl,hm⟩;exact⟨b,he,h.add hbl (nr _ _) hm (fun k hk=>hk.1)⟩
theorem DR (h:Sep B w0 w (oQ b d::l)):Calls Tryz.prog 60 #[ptr b] w fun e w'=>e=.returned (.int .i64 d.sure.length)∧w=w':=by obtain⟨X,hm⟩:=h.mine;exact DO hm
theorem Qe (h:Sep B w0 w (oQ b d::l))(i:Int):Calls Tryz.prog 149 #[ptr b,.int .i64 i] w fun e w'=>e=.returned (.tuple #[.string (d.get i).1.1,.int .i64 (d.get i).1.2])∧Sep B w0 w' (oQ b (d.get i).2::l):=Calls.LI (Q:=fun _ _=>True) h fun _ hm=>Qd hm i
end
def aQ (e:TypeId)(v:Value)(cs:List Value):aP:=fun w X=>w.ownsRow 0 e 1 v cs.length cs∧∀k,X k↔v.ownBlock=some k
theorem good_row (e:TypeId)(v:Value)(cs:List Value):Good (aQ e v cs):=
 ⟨fun w w' X h hk _=>⟨fP h.1 (fun k hk'=>hk k ((h.2 k).2 hk')),h.2⟩,fun w X h k hk=>(h.1.lt k ((h.2 k).1 hk)).2⟩
section
variable {B:Nat}{w0 w w':World}{l:List aP}{e:TypeId}{v:Value}{cs:List Value}
theorem Sep.qP (h:Sep B w0 w l)(e:TypeId):Sep B w0 w (aQ e (.slice none 0 0) []::l):=
 h.add (Below.refl _ _) (good_row _ _ _) (X:=fun _=>False) ⟨by simpa using World.ownsRow_nil w 0 e 1,fun k=>by simp[Value.ownBlock]⟩ (fun _ h=>h.elim)
theorem Sep.row (h:Sep B w0 w (aQ e v cs::l)):w.ownsRow 0 e 1 v cs.length cs:=by
 obtain⟨_,_,Y,⟨_,X,_,ha,_⟩,_⟩:=h;exact ha.1
theorem Sep.cell (h:Sep B w0 w (aQ e v cs::l)){j:Nat}(hj:j<cs.length):∃r c,v=.slice (some ⟨r,0,none⟩) cs.length c∧cs.length<=c∧r<w.heap.size∧w.cell? ⟨r,j,none⟩=cs[j]? ∧w.frozen? ⟨r,j,none⟩=false:=by
 have hr:=h.row;rcases hr.2 with⟨_,h2⟩| ⟨g,cap,cur,h1,_,hg,hc,_⟩
 ·omega
 ·rw[h1]at hr;exact⟨g,cap,h1,hc,(Array.getElem?_eq_some_iff.1 hg).1,hr.cellAt j (by omega),hr.frozenAt j⟩
theorem Sep.shape (h:Sep B w0 w (aQ e v cs::l)):∃ao c,v=.slice ao cs.length c:=by
 rcases h.row.2 with⟨h1,h2⟩| ⟨g,cap,cur,h1,_⟩
 ·exact⟨none,0,by rw[h1,h2]⟩
 ·exact⟨_,_,h1⟩
end
theorem mh:(Tryz.prog.info? 9).map (fun i=>(i.zero,i.size,i.bytes))=some (some (.string ByteArray.empty),1,16):=by kernel_rfl
theorem pB:(Tryz.prog.info? 3).map (fun i=>(i.zero,i.size,i.bytes))=some (some (.int .i64 0),1,8):=by kernel_rfl
section
variable {ops:Array Oper}{rest:List Oper}{o:Oper}{a:Act}{Q:Exit->Act->World->Prop}{B:Nat}{w0 w:World}{l:List aP}
theorem Sep.appended {e:TypeId}{v v':Value}{cs:List Value}{u:Value}{w':World}(h:Sep B w0 w (aQ e v cs::l))(h2:w'.ownsRow 0 e 1 v' (cs.length+1) (cs++[u]))(hg:w.grownBy w' v.ownBlock)(hloc:v'.ownBlock=v.ownBlock∨v'.ownBlock=some w.heap.size):Sep B w0 w' (aQ e v' (cs++[u])::l):=by
 refine h.step (good_row _ _ _) fun X hX=>⟨fun k=>v'.ownBlock=some k,⟨by rw[List.length_append];exact h2,fun k=>Iff.rfl⟩,cX.grown hg (fun k hk=>(hX.2 k).2 hk),fun k hk=>?_⟩;rcases hloc with e1|e1
 ·exact .inl ((hX.2 k).2 (e1▸hk))
 ·rw[e1]at hk;exact .inr (Nat.le_of_eq (Option.some.inj hk))
theorem xx {e:TypeId}{v:Value}{n:Nat}{cs:List Value}(h:w.ownsRow 0 e 1 v n cs):∃ao c,v=.slice ao n c:=by
 rcases h.2 with⟨h1,h2⟩| ⟨g,cap,cur,h1,_⟩
 ·exact⟨none,0,by rw[h1,h2]⟩
 ·exact⟨_,_,h1⟩
theorem LJ (hgd:o.guard=.none)(s x:Operand)(ho:o.op=.call {callee:=.builtin .append,args:=#[s,x],argTypes:=#[52,52]})(v:Value)(cs:List Value)(hs:a.eval s=v)(h:Sep B w0 w (aQ 9 v cs::l))
  (r c:Nat)(t:ByteArray)(hx:a.eval x=.slice (some ⟨r,0,none⟩) 1 c)(c0:w.cell? ⟨r,0,none⟩=some (.string t))(hl:cs.length<100000)
  (hK:∀ao n' c' w',Sep B w0 w' (aQ 9 (.slice ao n' c') (cs++[.string t])::l)->wpList Tryz.prog ops Q rest (a.put o.dst (.slice ao n' c')) w'):wpList Tryz.prog ops Q (o::rest) a w:=by
 obtain⟨i0,hi,hz0,hz1,hz2⟩:=info_parts mh;refine wpList_append_own_at w hgd s x 52 ho 0 9 i0 _ 1 16 Tryz.underlying52 hi hz0 hz1 hz2 rfl (by decide) v cs.length cs hs h.row ⟨r,0,none⟩ 1 c [.string t] hx rfl (fun j u hj=>?_) (fun u hu=>by simp at hu;subst hu;rfl) (by unfold maxLen;omega) (by omega) (Nat.zero_le _) ?_
 ·match j,hj with
  |0,hj=>simp at hj;subst hj;exact c0
  |j+1,hj=>simp at hj
 ·intro v' w' h2 h3 _ h5;obtain⟨ao,c',rfl⟩:=xx h2;exact hK _ _ _ _ (h.appended h2 h3 h5)
theorem mi (hgd:o.guard=.none)(s x:Operand)(ho:o.op=.call {callee:=.builtin .append,args:=#[s,x],argTypes:=#[51,51]})(v:Value)(cs:List Value)(hs:a.eval s=v)(h:Sep B w0 w (aQ 3 v cs::l))
  (r c:Nat)(t:Int)(hx:a.eval x=.slice (some ⟨r,0,none⟩) 1 c)(c0:w.cell? ⟨r,0,none⟩=some (.int .i64 t))(hl:cs.length<100000)
  (hK:∀ao n' c' w',Sep B w0 w' (aQ 3 (.slice ao n' c') (cs++[.int .i64 t])::l)->wpList Tryz.prog ops Q rest (a.put o.dst (.slice ao n' c')) w'):wpList Tryz.prog ops Q (o::rest) a w:=by
 obtain⟨i0,hi,hz0,hz1,hz2⟩:=info_parts pB;refine wpList_append_own_at w hgd s x 51 ho 0 3 i0 _ 1 8 Tryz.underlying51 hi hz0 hz1 hz2 rfl (by decide) v cs.length cs hs h.row ⟨r,0,none⟩ 1 c [.int .i64 t] hx rfl (fun j u hj=>?_) (fun u hu=>by simp at hu;subst hu;rfl) (by unfold maxLen;omega) (by omega) (Nat.zero_le _) ?_
 ·match j,hj with
  |0,hj=>simp at hj;subst hj;exact c0
  |j+1,hj=>simp at hj
 ·intro v' w' h2 h3 _ h5;obtain⟨ao,c',rfl⟩:=xx h2;exact hK _ _ _ _ (h.appended h2 h3 h5)
end
end
section
open Go.RowKit
structure Up (n:Nat)(d:Dk):Prop where
 dn:d.down=false
 br:d.brk=none
 sl:d.sure.length=n
end
section
open Go.RowKit
theorem Sep.drewN {B:Nat}{w0 w:World}{l:List aP}(h:Sep B w0 w l)(n:Nat):Sep B w0 (w.drewN n) l:=h.below ⟨rfl,rfl,rfl,Nat.le_refl _,fun _ _=>rfl⟩
end
section
open Go.RowKit
def Both (r s:aP):aP:=fun w X=>∃X1 X2,r w X1∧s w X2∧(∀k,X1 k->¬X2 k)∧∀k,X k↔X1 k∨X2 k
theorem aL {r s:aP}(gr:Good r)(gs:Good s):Good (Both r s):=
 ⟨fun w w' X ⟨X1,X2,h1,h2,hd,hx⟩ hk hs=>⟨X1,X2,gr.kept w w' X1 h1 (fun k h=>hk k ((hx k).2 (.inl h))) hs,gs.kept w w' X2 h2 (fun k h=>hk k ((hx k).2 (.inr h))) hs,hd,hx⟩,
  fun w X ⟨X1,X2,h1,h2,_,hx⟩ k hk=>((hx k).1 hk).elim (gr.lt w X1 h1 k) (gs.lt w X2 h2 k)⟩
theorem Hp.join {w:World}{r s:aP}{l:List aP}{Y:Nat->Prop}(h:Hp w (r::s::l) Y):Hp w (Both r s::l) Y:=by
 obtain⟨gr,X1,Z1,hr,⟨gs,X2,Z2,hs,hl,hd2,hy2⟩,hd1,hy1⟩:=h;refine⟨aL gr gs,fun k=>X1 k∨X2 k,Z2,⟨X1,X2,hr,hs,fun k h1 h2=>hd1 k h1 ((hy2 k).2 (.inl h2)),fun _=>Iff.rfl⟩,hl,fun k hk hz=>?_,fun k=>?_⟩
 ·rcases hk with h1|h1
  ·exact hd1 k h1 ((hy2 k).2 (.inr hz))
  ·exact hd2 k h1 hz
 ·rw[hy1 k,hy2 k,or_assoc]
theorem Hp.part {w:World}{r s:aP}{l:List aP}{Y:Nat->Prop}(gr:Good r)(gs:Good s)(h:Hp w (Both r s::l) Y):Hp w (r::s::l) Y:=by
 obtain⟨_,X,Z,⟨X1,X2,hr,hs,hd,hx⟩,hl,hdz,hy⟩:=h;refine⟨gr,X1,fun k=>X2 k∨Z k,hr,⟨gs,X2,Z,hs,hl,fun k h1 h2=>hdz k ((hx k).2 (.inr h1)) h2,fun _=>Iff.rfl⟩,fun k h1 h2=>?_,fun k=>?_⟩
 ·rcases h2 with h2|h2
  ·exact hd k h1 h2
  ·exact hdz k ((hx k).2 (.inl h1)) h2
 ·rw[hy k,hx k,or_assoc]
theorem Sep.join {B:Nat}{w0 w:World}{r s:aP}{l:List aP}(h:Sep B w0 w (r::s::l)):Sep B w0 w (Both r s::l):=h.map fun _=>Hp.join
def aF (q:Nat)(o:Obj):aP:=fun w X=>w.heap[q]? =some o∧∀k,X k↔k=q
theorem a8 (q:Nat)(o:Obj):Good (aF q o):=
 ⟨fun w w' X h hk _=>⟨(hk q ((h.2 q).2 rfl)).trans h.1,h.2⟩,fun w X h k hk=>by rw[(h.2 k).1 hk];exact(Array.getElem?_eq_some_iff.1 h.1).1⟩
theorem Sep.aN {B:Nat}{w0 w:World}{l:List aP}(h:Sep B w0 w l)(o:Obj):Sep B w0 (w.alloc o) (aF w.heap.size o::l):=
 h.add ((Below.refl _ _).alloc (Nat.le_refl _) _) (a8 _ _) (X:=fun k=>k=w.heap.size) ⟨heap_alloc_new w o,fun _=>Iff.rfl⟩ (fun k hk=>Nat.le_of_eq hk.symm)
theorem Sep.blk {B:Nat}{w0 w:World}{l:List aP}{q:Nat}{o:Obj}(h:Sep B w0 w (aF q o::l)):w.heap[q]? =some o:=by
 obtain⟨_,_,Y,⟨_,X,_,ha,_⟩,_⟩:=h;exact ha.1
theorem Sep.drop {B:Nat}{w0 w:World}{l:List aP}{a:aP}(h:Sep B w0 w (a::l)):Sep B w0 w l:=by
 obtain⟨hB,hb,Y,⟨_,X,Z,_,hl,_,hy⟩,hY⟩:=h;exact⟨hB,hb,Z,hl,fun k hk=>hY k ((hy k).2 (.inr hk))⟩
theorem Sep.Qf {B:Nat}{w0 w:World}{l:List aP}(h:Sep B w0 w l)(e:TypeId)(cs:List Value)(n:Nat)(hn:cs.length=n)(hm:n<=1000):Sep B w0 (w.alloc (.cells cs.toArray e)) (aQ e (.slice (some ⟨w.heap.size,0,none⟩) n n) cs::l):=by
 subst hn;exact h.add ((Below.refl _ _).alloc (Nat.le_refl _) _) (good_row _ _ _) (X:=fun k=>k=w.heap.size) ⟨World.ownsRow_lit w _ cs.length (Nat.zero_le _) (by unfold maxLen;omega) (by simp),fun k=>by simp[Value.ownBlock,eq_comm]⟩ (fun k hk=>Nat.le_of_eq hk.symm)
def bAt (l:List Bool)(i:Nat):Bool:=l.getD i false
def kAt (l:List UInt8)(i:Nat):UInt8:=l.getD i 0
end
end
section
open Go.RowKit
open Go.ChangeMaps (setBlock)
structure C3 where
 there:Bool
 kind:UInt8
 body:ByteArray
def c0:C3:=⟨false,0,ByteArray.empty⟩
def cV (c:C3):Value:=.agg #[.bool c.there,.int .u8 (c.kind.toNat:Int),.string c.body]
def RC (v:Value):Option (DataW Value×List MemPlace):=some (.held v,[])
def Wf (k:Int):Prop:=-9223372036854775808<=k∧k<=9223372036854775807
theorem Wf.lit {k:Int}(h:Wf k):(Lit.int .i64 k).wf=true:=by
 have h1:=h.1;have h2:=h.2;have e1:IntKind.min .i64=-9223372036854775808:=by decide
 have e2:IntKind.max .i64=9223372036854775807:=by decide
 unfold Lit.wf;simp only[e1,e2];simp[h1,h2]
theorem Wf.key {k:Int}(h:Wf k):keyOf Tryz.prog 3 (.int .i64 k)=some (.int .i64 k):=Maps.keyOf_int_mk Tryz.underlying3 h.lit
theorem im:Maps.Keyed Tryz.prog 3:=Maps.int_keyed Tryz.underlying3
theorem Ub (w:World):(zeroValue 184).run Tryz.prog w=.ok (cV c0) w:=by kernel_rfl
abbrev Fr:=Int->Option C3
def View (D:DataW Value)(g:Fr):Prop:=∀k,Maps.has D (.int .i64 k)=(g k).isSome∧∀z,D.atKey (.int .i64 k) z=(g k).elim z fun c=>.held (cV c)
def gy (g:Fr)(k:Int)(c:C3):Fr:=fun q=>if q=k then some c else g q
def qQ (g:Fr)(k:Int):Fr:=fun q=>if q=k then none else g q
theorem F5:View (.map []) (fun _=>none):=fun k=>⟨rfl,fun z=>rfl⟩
theorem jI {q k:Int}(h:q≠k):(Lit.int .i64 q)≠.int .i64 k:=fun e=>h (by injection e)
theorem View.put {D:DataW Value}{g:Fr}(h:View D g)(hD:Maps.IsMap D)(k:Int)(c:C3):View (D.put (.int .i64 k) (.held (cV c))) (gy g k c):=by
 intro q;unfold gy;by_cases hq:q=k
 ·subst hq;rw[if_pos rfl];have hkl:WideAt.IsKeyLit (.int .i64 q):=by simp[WideAt.IsKeyLit]
  exact⟨Maps.has_put_same hD hkl _,fun z=>Maps.atKey_put_same hD hkl _ z⟩
 ·rw[if_neg hq];exact⟨(Maps.has_put_other (jI hq) _).trans (h q).1,fun z=>(Maps.atKey_put_other (jI hq) _ z).trans ((h q).2 z)⟩
theorem View.del {D:DataW Value}{g:Fr}(h:View D g)(k:Int):View (D.del (.int .i64 k)) (qQ g k):=by
 intro q;unfold qQ;by_cases hq:q=k
 ·subst hq;rw[if_pos rfl];exact⟨Maps.has_del_same,fun z=>Maps.atKey_del_same z⟩
 ·rw[if_neg hq];exact⟨(Maps.has_del_other (jI hq)).trans (h q).1,fun z=>(Maps.atKey_del_other (jI hq) z).trans ((h q).2 z)⟩
def ml (m:Nat)(g:Fr)(n:Nat):aP:=fun w X=>(∃D,w.ownsMap Tryz.prog 3 RC m n D∧View D g)∧∀k,X k↔k=m
theorem gR (m:Nat)(g:Fr)(n:Nat):Good (ml m g n):=
 ⟨fun w w' X h hk _=>by
  obtain⟨⟨D,⟨es,clock,hb,r⟩,hv⟩,hX⟩:=h
  exact⟨⟨D,⟨es,clock,(hk m ((hX m).2 rfl)).trans hb,r⟩,hv⟩,hX⟩,fun w X h k hk=>by
  obtain⟨⟨D,o,_⟩,hX⟩:=h
  rw[(hX k).1 hk];exact o.lt⟩
section
variable {B:Nat}{w0 w w':World}{l:List aP}{m n:Nat}{g:Fr}
theorem Sep.Qg (h:Sep B w0 w (ml m g n::l)):∃D,w.ownsMap Tryz.prog 3 RC m n D∧View D g:=by
 obtain⟨_,_,Y,⟨_,X,_,ha,_⟩,_⟩:=h;exact ha.1
theorem Sep.Qh (h:Sep B w0 w l):Sep B w0 (w.alloc (.map #[] 0)) (ml w.heap.size (fun _=>none) 0::l):=
 h.add ((Below.refl _ _).alloc (Nat.le_refl _) _) (gR _ _ _) (X:=fun k=>k=w.heap.size) ⟨⟨_,World.ownsMap_made w _ _ _,F5⟩,fun _=>Iff.rfl⟩ (fun k hk=>Nat.le_of_eq hk.symm)
theorem F6 {v:Value}{z c:C3}{D:DataW Value}{ps:List MemPlace}{g:Option C3}(hv:RC v=some (D,ps))(hD:D=g.elim (.held (cV z)) fun c=>.held (cV c)):v=cV (g.getD z):=by
 unfold RC at hv;cases g with
 |none=>subst hD;simp at hv;exact hv.1
 |some c=>subst hD;simp at hv;exact hv.1
theorem Sep.F7 (h:Sep B w0 w (ml m g n::l)){k:Int}(hk:Wf k):(Instr.lookup 93 (.map (some m)) (.int .i64 k) true).run Tryz.prog w=.ok (.tuple #[cV ((g k).getD c0),.bool (g k).isSome]) w:=by
 obtain⟨D,o,hv⟩:=h.Qg;obtain⟨v,ps,hr,hR⟩:=o.look_ok im Tryz.underlying93 (Ub w) (zd:=.held (cV c0)) (zp:=[]) rfl hk.key;rw[hr,F6 (z:=c0) (c:=c0) hR ((hv k).2 _),(hv k).1]
theorem cX.mapTurned {X:Nat->Prop}{w w':World}{m:Nat}(hm:X m)(h:w.mapTurned w' m):cX X w w':=by
 obtain⟨es,clock,es',clock',hb,rfl⟩:=h;exact cX.setBlock w hm _
theorem Sep.Qi (h:Sep B w0 w (ml m g n::l)){k:Int}(hk:Wf k)(c:C3)(hn:n<1000000):∃w',(Instr.mapUpdate 93 (.map (some m)) (.int .i64 k) (cV c)).run Tryz.prog w=.ok () w'∧Sep B w0 w' (ml m (gy g k c) (n+1)::l):=by
 obtain⟨D,o,hv⟩:=h.Qg;obtain⟨w',hr,o',ht⟩:=o.store im Tryz.underlying93 (Nat.lt_of_lt_of_le hn (by decide)) hk.key (val:=cV c) (d:=.held (cV c)) (ps:=[]) rfl;refine⟨w',hr,h.step (gR _ _ _) fun X hX=>⟨X,⟨⟨_,o',hv.put o.isMap k c⟩,hX.2⟩,cX.mapTurned ((hX.2 m).2 rfl) ht,fun k hk=>.inl hk⟩⟩
theorem Sep.Qj (h:Sep B w0 w (ml m g n::l)){k:Int}(hk:Wf k)(ty:TypeId):∃w',(Builtin.delete_ #[93,3] ty #[.map (some m),.int .i64 k]).run Tryz.prog w=.ok (.tuple #[]) w'∧Sep B w0 w' (ml m (qQ g k) n::l):=by
 obtain⟨D,o,hv⟩:=h.Qg;obtain⟨w',hr,o',ht⟩:=o.drop im Tryz.underlying93 hk.key ty;refine⟨w',hr,h.step (gR _ _ _) fun X hX=>⟨X,⟨⟨_,o',hv.del k⟩,hX.2⟩,cX.mapTurned ((hX.2 m).2 rfl) ht,fun k hk=>.inl hk⟩⟩
end
end
section
open Go.RowKit
open Go.ChangeMaps (setBlock)
abbrev Gv:=Int->Option Value
def zN:Value:=.agg #[.bool false,.slice none 0 0,.slice none 0 0,.slice none 0 0]
theorem OU (w:World):(zeroValue 54).run Tryz.prog w=.ok zN w:=by kernel_rfl
def kO (D:DataW Value)(g:Gv):Prop:=∀k,Maps.has D (.int .i64 k)=(g k).isSome∧∀z,D.atKey (.int .i64 k) z=(g k).elim z fun c=>.held c
def xy (g:Gv)(k:Int)(c:Value):Gv:=fun q=>if q=k then some c else g q
def LN (g:Gv)(k:Int):Gv:=fun q=>if q=k then none else g q
theorem DT:kO (.map []) (fun _=>none):=fun k=>⟨rfl,fun z=>rfl⟩
theorem kO.put {D:DataW Value}{g:Gv}(h:kO D g)(hD:Maps.IsMap D)(k:Int)(c:Value):kO (D.put (.int .i64 k) (.held c)) (xy g k c):=by
 intro q;unfold xy;by_cases hq:q=k
 ·subst hq;rw[if_pos rfl];have hkl:WideAt.IsKeyLit (.int .i64 q):=by simp[WideAt.IsKeyLit]
  exact⟨Maps.has_put_same hD hkl _,fun z=>Maps.atKey_put_same hD hkl _ z⟩
 ·rw[if_neg hq];exact⟨(Maps.has_put_other (jI hq) _).trans (h q).1,fun z=>(Maps.atKey_put_other (jI hq) _ z).trans ((h q).2 z)⟩
theorem kO.del {D:DataW Value}{g:Gv}(h:kO D g)(k:Int):kO (D.del (.int .i64 k)) (LN g k):=by
 intro q;unfold LN;by_cases hq:q=k
 ·subst hq;rw[if_pos rfl];exact⟨Maps.has_del_same,fun z=>Maps.atKey_del_same z⟩
 ·rw[if_neg hq];exact⟨(Maps.has_del_other (jI hq)).trans (h q).1,fun z=>(Maps.atKey_del_other (jI hq) z).trans ((h q).2 z)⟩
def cY (m:Nat)(g:Gv)(n:Nat):aP:=fun w X=>(∃D,w.ownsMap Tryz.prog 3 RC m n D∧kO D g)∧∀k,X k↔k=m
theorem cQ (m:Nat)(g:Gv)(n:Nat):Good (cY m g n):=
 ⟨fun w w' X h hk _=>by
  obtain⟨⟨D,⟨es,clock,hb,r⟩,hv⟩,hX⟩:=h
  exact⟨⟨D,⟨es,clock,(hk m ((hX m).2 rfl)).trans hb,r⟩,hv⟩,hX⟩,fun w X h k hk=>by
  obtain⟨⟨D,o,_⟩,hX⟩:=h
  rw[(hX k).1 hk];exact o.lt⟩
section
variable {B:Nat}{w0 w w':World}{l:List aP}{m n:Nat}{g:Gv}
theorem Sep.qR (h:Sep B w0 w (cY m g n::l)):∃D,w.ownsMap Tryz.prog 3 RC m n D∧kO D g:=by
 obtain⟨_,_,Y,⟨_,X,_,ha,_⟩,_⟩:=h;exact ha.1
theorem Sep.Bu (h:Sep B w0 w l):Sep B w0 (w.alloc (.map #[] 0)) (cY w.heap.size (fun _=>none) 0::l):=
 h.add ((Below.refl _ _).alloc (Nat.le_refl _) _) (cQ _ _ _) (X:=fun k=>k=w.heap.size) ⟨⟨_,World.ownsMap_made w _ _ _,DT⟩,fun _=>Iff.rfl⟩ (fun k hk=>Nat.le_of_eq hk.symm)
theorem nt {v:Value}{z c:Value}{D:DataW Value}{ps:List MemPlace}{g:Option Value}(hv:RC v=some (D,ps))(hD:D=g.elim (.held z) fun c=>.held c):v=g.getD z:=by
 unfold RC at hv;cases g with
 |none=>subst hD;simp at hv;exact hv.1
 |some c=>subst hD;simp at hv;exact hv.1
theorem Sep.LO (h:Sep B w0 w (cY m g n::l)){k:Int}(hk:Wf k):(Instr.lookup 109 (.map (some m)) (.int .i64 k) true).run Tryz.prog w=.ok (.tuple #[((g k).getD zN),.bool (g k).isSome]) w:=by
 obtain⟨D,o,hv⟩:=h.qR;obtain⟨v,ps,hr,hR⟩:=o.look_ok im Tryz.underlying109 (OU w) (zd:=.held zN) (zp:=[]) rfl hk.key;rw[hr,nt (z:=zN) (c:=zN) hR ((hv k).2 _),(hv k).1]
theorem Sep.Qk (h:Sep B w0 w (cY m g n::l)){k:Int}(hk:Wf k):(Instr.lookup 109 (.map (some m)) (.int .i64 k) false).run Tryz.prog w=.ok (((g k).getD zN)) w:=by
 obtain⟨D,o,hv⟩:=h.qR;obtain⟨v,ps,hr,hR⟩:=o.lookup im Tryz.underlying109 (OU w) (zd:=.held zN) (zp:=[]) rfl hk.key;rw[hr,nt (z:=zN) (c:=zN) hR ((hv k).2 _)]
theorem Sep.LP (h:Sep B w0 w (cY m g n::l)){k:Int}(hk:Wf k)(c:Value)(hn:n<1000000):∃w',(Instr.mapUpdate 109 (.map (some m)) (.int .i64 k) c).run Tryz.prog w=.ok () w'∧Sep B w0 w' (cY m (xy g k c) (n+1)::l):=by
 obtain⟨D,o,hv⟩:=h.qR;obtain⟨w',hr,o',ht⟩:=o.store im Tryz.underlying109 (Nat.lt_of_lt_of_le hn (by decide)) hk.key (val:=c) (d:=.held c) (ps:=[]) rfl;refine⟨w',hr,h.step (cQ _ _ _) fun X hX=>⟨X,⟨⟨_,o',hv.put o.isMap k c⟩,hX.2⟩,cX.mapTurned ((hX.2 m).2 rfl) ht,fun k hk=>.inl hk⟩⟩
theorem Sep.LQ (h:Sep B w0 w (cY m g n::l)){k:Int}(hk:Wf k)(ty:TypeId):∃w',(Builtin.delete_ #[109,3] ty #[.map (some m),.int .i64 k]).run Tryz.prog w=.ok (.tuple #[]) w'∧Sep B w0 w' (cY m (LN g k) n::l):=by
 obtain⟨D,o,hv⟩:=h.qR;obtain⟨w',hr,o',ht⟩:=o.drop im Tryz.underlying109 hk.key ty;refine⟨w',hr,h.step (cQ _ _ _) fun X hX=>⟨X,⟨⟨_,o',hv.del k⟩,hX.2⟩,cX.mapTurned ((hX.2 m).2 rfl) ht,fun k hk=>.inl hk⟩⟩
end
def F8 (g:Gv)(L:List Int):Prop:=L.Pairwise (· < ·)∧∀k,k∈L↔(g k).isSome=true
theorem uZ {w:World}{m n:Nat}{g:Gv}{D:DataW Value}(o:w.ownsMap Tryz.prog 3 RC m n D)(hv:kO D g){ss:List Int}(hp:ss.Perm (intKeys D)):F8 g (ss.mergeSort (fun x y=>decide (x<=y)))∧ss.length<=n:=by
 obtain⟨es,rfl,hpw,_⟩:=o.entries im;obtain⟨es',hD',hko⟩:=o.keysOf;obtain rfl:es=es':=by simpa using hD'
 have hkk:∀p∈es,∃x,p.1=.int .i64 x:=fun p hp=>by obtain⟨v,hv⟩:=hko p hp;obtain⟨x,_,hx,_⟩:=Maps.keyOf_i64 Tryz.underlying3 hv;exact⟨x,hx⟩
 have hnd:(intKeys (.map es)).Nodup:=by
  show(es.map fun p=>Go.intOf p.1).Nodup;refine List.pairwise_map.2 (hpw.imp_of_mem fun {p q} hp' hq' hne e=>hne ?_);obtain⟨a,ha⟩:=hkk p hp';obtain⟨b,hb⟩:=hkk q hq';rw[ha,hb]at e⊢;exact congrArg _ e
 have hmem:∀x,x∈intKeys (.map es)↔(g x).isSome=true:=fun x=>by
  rw[<- (hv x).1,Maps.has_eq,List.any_eq_true];show x∈es.map (fun p=>Go.intOf p.1)↔_;rw[List.mem_map];constructor
  ·rintro⟨p,hp',rfl⟩;obtain⟨a,ha⟩:=hkk p hp';exact⟨p,hp',by rw[ha];simp[Lit.sameKey,Go.intOf]⟩
  ·rintro⟨p,hp',hs⟩;obtain⟨a,ha⟩:=hkk p hp';rw[ha]at hs;exact⟨p,hp',by rw[ha];simpa[Lit.sameKey,Go.intOf]using hs⟩
 refine⟨⟨?_,fun k=>?_⟩,?_⟩
 ·have tr:∀a b c:Int,leI a b=true->leI b c=true->leI a c=true:=fun a b c h1 h2=>by simp only[leI,decide_eq_true_eq]at*;exact Int.le_trans h1 h2
  have tt:∀a b:Int,(leI a b||leI b a)=true:=fun a b=>by simp only[leI,Bool.or_eq_true,decide_eq_true_eq];exact Int.le_total a b
  have h1:=List.pairwise_mergeSort tr tt ss;have h2:(ss.mergeSort leI).Nodup:=((List.mergeSort_perm ss leI).trans hp).nodup_iff.2 hnd;refine(List.pairwise_and_iff.2 ⟨h1,h2⟩).imp fun {a b} hab=>?_;have:=of_decide_eq_true hab.1;have h3:=hab.2;omega
 ·rw[((List.mergeSort_perm ss _).trans hp).mem_iff];exact hmem k
 ·rw[hp.length_eq];have:=o.size_le;simpa[intKeys,Maps.size]using this
end
section
section
open Go.RowKit
def tC (d:Dk)(id:Int):Bool:=decide (2<=id∧id<d.sure.length)
def qU (kind:UInt8)(o:UInt8×List UInt8×Int):ByteArray×Int:=if o.2.2=0∧o.1=kind then(⟨o.2.1.toArray⟩,0)else(ByteArray.empty,3)
def Dk.rd (d:Dk)(id:Int)(kind:UInt8):(ByteArray×Int)×Dk:=
 if tC d id then(if(d.get id).1.2=0 then qU kind (opn id (d.get id).1.1.data.toList)else(ByteArray.empty,(d.get id).1.2),(d.get id).2)else((ByteArray.empty,40),d)
def Uc (id:Int)(kind:UInt8)(b:ByteArray):ByteArray:=⟨(cJ id.toNat kind b.data.toList).toArray⟩
def Dk.room (d:Dk):Nat:=max d.sure.length 2
end
section
open Go.RowKit
def ud (b:Nat):Obj:=.cells #[ptr b] 97 (0,0)
def File (f b:Nat)(d:Dk):aP:=Both (oQ b d) (aF f (ud b))
def cd (B:Nat)(w0:World):Prop:=∀u,Below B w0 u->tX u
theorem LR {w:World}(h:tX w):cd w.heap.size w:=fun _ hu=>h.below hu
section
variable {B:Nat}{w0 w w':World}{f b:Nat}{d d':Dk}{l:List aP}
theorem Sep.part (h:Sep B w0 w (File f b d::l)):Sep B w0 w (oQ b d::aF f (ud b)::l):=h.map fun _=>Hp.part (nr _ _) (a8 _ _)
theorem Sep.OV (h:Sep B w0 w (File f b d::l)):w.cell? ⟨f,0,none⟩=some (ptr b)∧f<w.heap.size:=by
 have hb:=h.part.qO.blk;exact⟨by simp[World.cell?,hb,ud],(Array.getElem?_eq_some_iff.1 hb).1⟩
theorem Sep.fok (h:Sep B w0 w (File f b d::l)):d.Ok:=h.part.ok
theorem qV (ok:d.Ok){i:Nat}(hi:i<d.sure.length):∀n,n<=d.pend.length->(tY d.sure d.pend i n).size=256
 |0,_=>F3 ok.sz hi
 |n+1,hn=>by
  rw[qL];split
  ·exact(Qa ok (by omega)).2
  ·exact qV ok hi n (by omega)
theorem Dk.F9 (ok:d.Ok)(i:Int):(d.get i).1.1.size<=maxLen:=by
 unfold Dk.get;split
 ·unfold maxLen;simp
 ·split
  ·rename_i h
   have:=of_decide_eq_true h;show(d.now i.toNat).size<=maxLen;unfold Dk.now;rw[qV ok (by omega) _ (Nat.le_refl _)];decide
  ·unfold maxLen;simp
theorem Ud (h:Sep B w0 w (oQ b d::l)):Calls Tryz.prog 25 #[ptr b] w fun e w'=>∃f,e=.returned (ptr f)∧Sep B w0 w' (File f b d::l):=by
 have S1:Hid (Sep B w0 (w.alloc (ud b)) (File w.heap.size b d::l)):=(h.aN (ud b)).qO.join;unfold ud at S1;clear h;go_enter Tryz.func25,Tryz.ntmps25;go_wp2;go_ret;exact⟨_,rfl,S1.out⟩
theorem zX (h:Sep B w0 w (File f b d::l)):Calls Tryz.prog 44 #[ptr f] w fun e w'=>e=.returned (.int .i64 d.room)∧w=w':=by
 obtain⟨c0,hf⟩:=h.OV;have C:Hid _:=DR h.part;have hl:Hid (d.sure.length<=16384):=h.fok.len;clear h;go_enter Tryz.func44,Tryz.ntmps44
 go_wp2_with fail
 refine Calls.mono C.out ?_;rintro e w1 ⟨rfl,rfl⟩;clear C;go_wp2;go_ret;exact⟨j7 (by unfold Dk.room;omega),rfl⟩
theorem DU (h:Sep B w0 w (File f b d::l))(id:Int):Calls Tryz.prog 148 #[ptr f,.int .i64 id] w fun e w'=>e=.returned (.bool (tC d id))∧w=w':=by
 have C:Hid _:=zX h;clear h;by_cases h2:2<=id
 ·have E:Hid (decide (id< (d.room:Int))=tC d id):=by
   show _=_;unfold tC Dk.room;rw[decide_eq_decide];omega
  generalize tC d id=y at E;generalize d.room=R at*;go_enter Tryz.func148,Tryz.ntmps148
  go_wp2_with fail
  refine Calls.mono C.out ?_;rintro e w1 ⟨rfl,rfl⟩;clear C;go_wp2;go_ret;exact⟨qE E.out,rfl⟩
 ·have E:Hid (tC d id=false):=by
   show _=_;unfold tC;rw[decide_eq_false_iff_not];omega
  go_enter Tryz.func148,Tryz.ntmps148;go_wp2;go_ret;exact⟨qE E.out.symm,rfl⟩
theorem xz (kind:UInt8)(id:Int)(s:List UInt8):((opn id s).2.2≠0∧qU kind (opn id s)=(ByteArray.empty,3)∧opn id s=(0,[],3))∨
  ((opn id s).2.2=0∧(opn id s).1≠kind∧qU kind (opn id s)=(ByteArray.empty,3))∨((opn id s).2.2=0∧(opn id s).1=kind∧qU kind (opn id s)=(⟨(opn id s).2.1.toArray⟩,0)):=by
 unfold qU;by_cases h:(opn id s).2.2=0
 ·by_cases hk:(opn id s).1=kind
  ·exact .inr (.inr ⟨h,hk,by rw[if_pos ⟨h,hk⟩]⟩)
  ·exact .inr (.inl ⟨h,hk,by rw[if_neg (fun c=>hk c.2)]⟩)
 ·exact .inl ⟨h,by rw[if_neg (fun c=>h c.1)],LD h⟩
theorem LU {a b:UInt8}(h:a≠b):((a.toNat:Int)==(b.toNat:Int))=false:=by
 rw[beq_eq_false_iff_ne];intro e;exact h (UInt8.toNat_inj.1 (by omega))
theorem Ql (T:cd B w0)(h:Sep B w0 w (File f b d::l))(id:Int)(kind:UInt8):
  Calls Tryz.prog 113 #[ptr f,.int .i64 id,.int .u8 (kind.toNat:Int)] w fun e w'=>e=.returned (.tuple #[.string (d.rd id kind).1.1,.int .i64 (d.rd id kind).1.2])∧Sep B w0 w' (File f b (d.rd id kind).2::l):=by
 have Tl:=DU h id;have HS:Hid (Sep B w0 w (File f b d::l)):=h;obtain⟨c0,hf⟩:=h.OV;cases hp:tC d id with
 |false=>
  rw[hp]at Tl;have CH:Hid _:=Tl;have E:Hid (d.rd id kind=((ByteArray.empty,40),d)):=by show _=_;unfold Dk.rd;rw[hp];rfl
  rw[E.out];clear h Tl hp;go_enter Tryz.func113,Tryz.ntmps113
  go_wp2_with fail
  refine Calls.mono CH.out ?_;rintro e w1 ⟨rfl,rfl⟩;clear CH;go_wp2;go_ret2;exact⟨rfl,HS.out⟩
 |true=>
  rw[hp]at Tl;have CH:Hid _:=Tl;have Tm:=Qe h.part id;have hz:=Dk.F9 h.fok id;have E:d.rd id kind=(if(d.get id).1.2=0 then qU kind (opn id (d.get id).1.1.data.toList)else(ByteArray.empty,(d.get id).1.2),(d.get id).2):=by unfold Dk.rd;rw[hp];rfl
  rw[E];clear h Tl hp E HS;generalize(d.get id).1.1=s at*;generalize(d.get id).1.2=er at*;generalize(d.get id).2=d2 at*;have CR:Hid _:=Tm;clear Tm;by_cases he:er=0
  ·subst he;rw[if_pos rfl];have CO:Hid (∀u,tX u->_):=fun u hu=>FX id s u hu hz;rcases xz kind id s.data.toList with⟨h1,h2,h3⟩| ⟨h1,h2,h3⟩| ⟨h1,h2,h3⟩
   ·rw[h2];rw[h3]at CO;clear h1 h2 h3;go_enter Tryz.func113,Tryz.ntmps113
    go_wp2_with fail
    refine Calls.mono CH.out ?_;rintro e w1 ⟨rfl,rfl⟩;clear CH
    go_wp2_with fail
    refine Calls.mono CR.out ?_;rintro e w2 ⟨rfl,s2⟩;have S2:Hid (Sep B w0 w2 (File f b d2::l)):=s2.join;have C3:Hid _:=CO.out w2 (T w2 s2.F4);clear CR s2 CO
    go_wp2_with fail
    refine Calls.mono C3.out ?_;rintro e w3 ⟨rfl,b3⟩;have S3:Hid (Sep B w0 w3 (File f b d2::l)):=S2.out.below b3;clear b3 C3 S2;go_wp2;go_ret2;exact⟨rfl,S3.out⟩
   ·rw[h3];have hne:=LU h2;rw[h1]at CO;clear h1 h2 h3;generalize(opn id s.data.toList).1.toNat=K at*;generalize(opn id s.data.toList).2.1.toArray=bo at*;go_enter Tryz.func113,Tryz.ntmps113
    go_wp2_with fail
    refine Calls.mono CH.out ?_;rintro e w1 ⟨rfl,rfl⟩;clear CH
    go_wp2_with fail
    refine Calls.mono CR.out ?_;rintro e w2 ⟨rfl,s2⟩;have S2:Hid (Sep B w0 w2 (File f b d2::l)):=s2.join;have C3:Hid _:=CO.out w2 (T w2 s2.F4);clear CR s2 CO
    go_wp2_with fail
    refine Calls.mono C3.out ?_;rintro e w3 ⟨rfl,b3⟩;have S3:Hid (Sep B w0 w3 (File f b d2::l)):=S2.out.below b3;clear b3 C3 S2;go_wp2;go_ret2;exact⟨rfl,S3.out⟩
   ·rw[h3];rw[h1,h2]at CO;clear h1 h2 h3;generalize(opn id s.data.toList).2.1.toArray=bo at*;go_enter Tryz.func113,Tryz.ntmps113
    go_wp2_with fail
    refine Calls.mono CH.out ?_;rintro e w1 ⟨rfl,rfl⟩;clear CH
    go_wp2_with fail
    refine Calls.mono CR.out ?_;rintro e w2 ⟨rfl,s2⟩;have S2:Hid (Sep B w0 w2 (File f b d2::l)):=s2.join;have C3:Hid _:=CO.out w2 (T w2 s2.F4);clear CR s2 CO
    go_wp2_with fail
    refine Calls.mono C3.out ?_;rintro e w3 ⟨rfl,b3⟩;have S3:Hid (Sep B w0 w3 (File f b d2::l)):=S2.out.below b3;clear b3 C3 S2;go_wp2;go_ret2;exact⟨rfl,S3.out⟩
  ·rw[if_neg he];have hne:(er != 0)=true:=by rw[bne_iff_ne];exact he
   clear he;go_enter Tryz.func113,Tryz.ntmps113
   go_wp2_with fail
   refine Calls.mono CH.out ?_;rintro e w1 ⟨rfl,rfl⟩;clear CH
   go_wp2_with fail
   refine Calls.mono CR.out ?_;rintro e w2 ⟨rfl,s2⟩;have S2:Hid (Sep B w0 w2 (File f b d2::l)):=s2.join;clear CR s2;go_wp2;go_ret2;exact⟨rfl,S2.out⟩
end
end
section
open Go.RowKit
def zs (s:ByteArray)(n:Nat):ByteArray:=⟨(s.data.toList++List.replicate n 0).toArray⟩
def ab:ByteArray:=⟨#[97,98]⟩
structure A1 where
 k:Int
 i:Int
 kd:UInt8
 s:ByteArray
def a0:A1:=⟨0,0,0,ByteArray.empty⟩
end
section
open Go.RowKit
structure aal (d:Dk)(kinds:List UInt8)(bodies:List ByteArray)(there:List Bool):Prop where
 kl:kinds.length=12
 bl:bodies.length=12
 tl:there.length=12
 yes:∀j,2<=j->j<12->bAt there j=true->d.now j=Uc j (kAt kinds j) (Fg bodies j)∧(Fg bodies j).size<=240
 no:∀j,2<=j->j<12->bAt there j=false->d.now j=jG
end
end
end Go.Proofs.YtceoeaemenhbhabGreatDoor
