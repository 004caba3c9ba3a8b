/- Walks of the package cowtree and of what it stands on: lemmas, made short. -/
import Derived.Shelf.Strings.OnBuilder
import Derived.Shelf.Strings.Repeat
import Derived.Ground.NamesProg
import Derived.Shelf.SlGeneric
import Derived.Shelf.SlicesG.Cmp
import Derived.Shelf.SlicesQ.IndexFunc
import Derived.Shelf.Spec.SlicesGrow
import Derived.Ground.SlgcProg
import Derived.Ground.SlgfProg
import Derived.Ground.Names8Prog
import Derived.Shelf.Small.Strs
import Derived.Shelf.SlicesE.Clone
import Derived.Ground.SlgnProg
import Derived.Test.YtdcpfbidcpfboaaGreatDoorProg
import Derived.Test.YtdcpfbidcpfboaaGreatDoorRows
import Derived.WalkKit
import Derived.WalkSpells
import Derived.WalkLawsBesides
import Derived.Laws.BitsAllLaws
import Derived.Test.YtdcpfbidcpfboaaGreatDoorChecked
import Derived.Below
import Derived.LoopTactic
import Derived.Lib.LaidTab
import Derived.LaidMore
import Derived.MakeChecks
import Derived.OwnWalk
import Derived.Deep.QuietTactic
set_option maxHeartbeats 16000000
set_option maxRecDepth 100000
set_option linter.unusedVariables false
set_option linter.unusedSimpArgs false
section
namespace Go.Proofs
open Go.Shelf
def Tryz.oQ:Go.Shelf.Ren:=⟨fun|156=>106|165=>99|166=>100|169=>102|240=>130|241=>131|276=>155|277=>156|n=>n,fun|31=>54|9=>9|3=>3|4=>4|0=>0|20=>20|72=>169|76=>173|70=>166|37=>167|75=>172|127=>212|164=>233|5=>5|80=>175|n=>n,fun|n=>n⟩
theorem Tryz.BB:Go.Proofs.Lays.n156 Tryz.prog Tryz.oQ:={
 mixed:=by kernel_rfl
 f156:=Tryz.func106.trans (congrArg some (by kernel_rfl))
 f165:=Tryz.func99.trans (congrArg some (by kernel_rfl))
 f166:=Tryz.func100.trans (congrArg some (by kernel_rfl))
 f169:=Tryz.func102.trans (congrArg some (by kernel_rfl))
 f240:=Tryz.func130.trans (congrArg some (by kernel_rfl))
 f241:=Tryz.func131.trans (congrArg some (by kernel_rfl))
 f276:=Tryz.func155.trans (congrArg some (by kernel_rfl))
 f277:=Tryz.func156.trans (congrArg some (by kernel_rfl))
 t0:=Tryz.underlying0
 a0:=Tryz.isAgg0
 z0:=Tryz.sizeOf0
 v0:=Tryz.zeroValue0
 t3:=Tryz.underlying3
 a3:=Tryz.isAgg3
 z3:=Tryz.sizeOf3
 v3:=Tryz.zeroValue3
 t4:=Tryz.underlying4
 a4:=Tryz.isAgg4
 z4:=Tryz.sizeOf4
 v4:=Tryz.zeroValue4
 t9:=Tryz.underlying9
 a9:=Tryz.isAgg9
 z9:=Tryz.sizeOf9
 v9:=Tryz.zeroValue9
 t20:=Tryz.underlying20
 a20:=Tryz.isAgg20
 z20:=Tryz.sizeOf20
 v20:=Tryz.zeroValue20
 t31:=Tryz.underlying54
 a31:=Tryz.isAgg54
 z31:=Tryz.sizeOf54
 v31:=Tryz.zeroValue54
 t37:=Tryz.underlying167
 a37:=Tryz.isAgg167
 z37:=Tryz.sizeOf167
 v37:=Tryz.zeroValue167
 t70:=Tryz.underlying166
 a70:=Tryz.isAgg166
 z70:=Tryz.sizeOf166
 v70:=Tryz.zeroValue166
 t72:=Tryz.underlying169
 a72:=Tryz.isAgg169
 z72:=Tryz.sizeOf169
 v72:=Tryz.zeroValue169
 t75:=Tryz.underlying172
 a75:=Tryz.isAgg172
 z75:=Tryz.sizeOf172
 v75:=Tryz.zeroValue172
 t76:=Tryz.underlying173
 a76:=Tryz.isAgg173
 z76:=Tryz.sizeOf173
 v76:=Tryz.zeroValue173
 t127:=Tryz.underlying212
 a127:=Tryz.isAgg212
 z127:=Tryz.sizeOf212
 v127:=Tryz.zeroValue212
 t164:=Tryz.underlying233
 a164:=Tryz.isAgg233
 z164:=Tryz.sizeOf233
 v164:=Tryz.zeroValue233}
theorem Tryz.ir:Builder.Extra Tryz.prog Tryz.oQ:={
 sizeBuilder:=by kernel_rfl
 liesBuilder:=by kernel_rfl
 t5:=Tryz.underlying5
 a5:=Tryz.isAgg5
 z5:=Tryz.sizeOf5
 v5:=Tryz.zeroValue5
 infoByte:=by kernel_rfl
 cellsByte:=by kernel_rfl
 sizeByte:=by kernel_rfl
 neB5:=by decide}
open Go.RowKit in
theorem Tryz.strings_Join_none (a:Option Addr)(c:Nat)(sep:ByteArray)(w:World):
 Calls Tryz.prog 106 #[.slice a 0 c,.string sep] w fun e w'=>e=.returned (.string ⟨#[]⟩)∧w'=w:=Any.strings_Join_none Tryz.BB Tryz.ir a c sep w
open Go.RowKit in
theorem Tryz.strings_Join (bk o c:Nat)(xs:List ByteArray)(sep:ByteArray)(w:World)(hcells:∀(j:Nat) x,xs[j]? =some x->w.cell? ⟨bk,o+j,none⟩=some (.string x))(hbk:bk<w.heap.size)(hN:xs.length<=140737488355328)(hcap:xs.length<=c)(hlen:(Lib.join (xs.map (·.data.toList)) sep.data.toList).length<=140737488355328):
 Calls Tryz.prog 106 #[.slice (some ⟨bk,o,none⟩) xs.length c,.string sep] w fun e w'=>e=.returned (.string ⟨(Lib.join (xs.map (·.data.toList)) sep.data.toList).toArray⟩)∧Below w.heap.size w w':=Any.strings_Join Tryz.BB Tryz.ir bk o c xs sep w hcells hbk hN hcap hlen
def Tryz.oT:Go.Shelf.Ren:=⟨fun|105=>70|212=>97|99=>98|165=>99|166=>100|170=>101|169=>102|263=>128|264=>129|206=>107|240=>130|241=>131|276=>155|277=>156|n=>n,fun|9=>9|3=>3|4=>4|20=>20|0=>0|46=>163|109=>164|5=>5|72=>169|76=>173|51=>206|146=>207|53=>209|148=>210|70=>166|37=>167|75=>172|127=>212|164=>233|80=>175|n=>n,fun|n=>n⟩
theorem Tryz.Kv:Go.Proofs.Lays.n105 Tryz.prog Tryz.oT:={
 mixed:=by kernel_rfl
 f99:=Tryz.func98.trans (congrArg some (by kernel_rfl))
 f105:=Tryz.func70.trans (congrArg some (by kernel_rfl))
 f165:=Tryz.func99.trans (congrArg some (by kernel_rfl))
 f166:=Tryz.func100.trans (congrArg some (by kernel_rfl))
 f169:=Tryz.func102.trans (congrArg some (by kernel_rfl))
 f170:=Tryz.func101.trans (congrArg some (by kernel_rfl))
 f206:=Tryz.func107.trans (congrArg some (by kernel_rfl))
 f212:=Tryz.func97.trans (congrArg some (by kernel_rfl))
 f240:=Tryz.func130.trans (congrArg some (by kernel_rfl))
 f241:=Tryz.func131.trans (congrArg some (by kernel_rfl))
 f263:=Tryz.func128.trans (congrArg some (by kernel_rfl))
 f264:=Tryz.func129.trans (congrArg some (by kernel_rfl))
 f276:=Tryz.func155.trans (congrArg some (by kernel_rfl))
 f277:=Tryz.func156.trans (congrArg some (by kernel_rfl))
 t0:=Tryz.underlying0
 a0:=Tryz.isAgg0
 z0:=Tryz.sizeOf0
 v0:=Tryz.zeroValue0
 t3:=Tryz.underlying3
 a3:=Tryz.isAgg3
 z3:=Tryz.sizeOf3
 v3:=Tryz.zeroValue3
 t4:=Tryz.underlying4
 a4:=Tryz.isAgg4
 z4:=Tryz.sizeOf4
 v4:=Tryz.zeroValue4
 t5:=Tryz.underlying5
 a5:=Tryz.isAgg5
 z5:=Tryz.sizeOf5
 v5:=Tryz.zeroValue5
 t9:=Tryz.underlying9
 a9:=Tryz.isAgg9
 z9:=Tryz.sizeOf9
 v9:=Tryz.zeroValue9
 t20:=Tryz.underlying20
 a20:=Tryz.isAgg20
 z20:=Tryz.sizeOf20
 v20:=Tryz.zeroValue20
 t37:=Tryz.underlying167
 a37:=Tryz.isAgg167
 z37:=Tryz.sizeOf167
 v37:=Tryz.zeroValue167
 t46:=Tryz.underlying163
 a46:=Tryz.isAgg163
 z46:=Tryz.sizeOf163
 v46:=Tryz.zeroValue163
 t51:=Tryz.underlying206
 a51:=Tryz.isAgg206
 z51:=Tryz.sizeOf206
 v51:=Tryz.zeroValue206
 t53:=Tryz.underlying209
 a53:=Tryz.isAgg209
 z53:=Tryz.sizeOf209
 v53:=Tryz.zeroValue209
 t70:=Tryz.underlying166
 a70:=Tryz.isAgg166
 z70:=Tryz.sizeOf166
 v70:=Tryz.zeroValue166
 t72:=Tryz.underlying169
 a72:=Tryz.isAgg169
 z72:=Tryz.sizeOf169
 v72:=Tryz.zeroValue169
 t75:=Tryz.underlying172
 a75:=Tryz.isAgg172
 z75:=Tryz.sizeOf172
 v75:=Tryz.zeroValue172
 t76:=Tryz.underlying173
 a76:=Tryz.isAgg173
 z76:=Tryz.sizeOf173
 v76:=Tryz.zeroValue173
 t109:=Tryz.underlying164
 a109:=Tryz.isAgg164
 z109:=Tryz.sizeOf164
 v109:=Tryz.zeroValue164
 t127:=Tryz.underlying212
 a127:=Tryz.isAgg212
 z127:=Tryz.sizeOf212
 v127:=Tryz.zeroValue212
 t146:=Tryz.underlying207
 a146:=Tryz.isAgg207
 z146:=Tryz.sizeOf207
 v146:=Tryz.zeroValue207
 t148:=Tryz.underlying210
 a148:=Tryz.isAgg210
 z148:=Tryz.sizeOf210
 v148:=Tryz.zeroValue210
 t164:=Tryz.underlying233
 a164:=Tryz.isAgg233
 z164:=Tryz.sizeOf233
 v164:=Tryz.zeroValue233}
theorem Tryz.ml:Builder.Extra Tryz.prog Tryz.oT:={
 sizeBuilder:=by kernel_rfl
 liesBuilder:=by kernel_rfl
 t5:=Tryz.underlying5
 a5:=Tryz.isAgg5
 z5:=Tryz.sizeOf5
 v5:=Tryz.zeroValue5
 infoByte:=by kernel_rfl
 cellsByte:=by kernel_rfl
 sizeByte:=by kernel_rfl
 neB5:=by decide}
open Go.RowKit in
theorem Tryz.strings_Repeat (s:ByteArray)(c:Nat)(w:World)(hc:c<=9223372036854775807)(hlen:s.size*c<=140737488355328):
 Calls Tryz.prog 70 #[.string s,.int .i64 c] w fun e w'=>e=.returned (.string ⟨(Lib.repeatL s.data.toList c).toArray⟩)∧Below w.heap.size w w':=Any.strings_Repeat Tryz.Kv Tryz.ml s c w hc hlen
def Tryz.zW:Go.Shelf.Ren:=⟨fun|5=>154|7=>186|n=>n,fun|22=>3|3=>3|4=>4|n=>n,fun|n=>n⟩
theorem Tryz.PO:Go.Proofs.SlLaysC2.n5 Tryz.prog Tryz.zW:={
 mixed:=by kernel_rfl
 f5:=⟨Tryz.f154.name,by decide,Tryz.func154.trans (congrArg some (by kernel_rfl))⟩
 f7:=⟨Tryz.f186.name,by decide,Tryz.func186.trans (congrArg some (by kernel_rfl))⟩
 t3:=Tryz.underlying3
 a3:=Tryz.isAgg3
 z3:=Tryz.sizeOf3
 v3:=Tryz.zeroValue3
 t4:=Tryz.underlying4
 a4:=Tryz.isAgg4
 z4:=Tryz.sizeOf4
 v4:=Tryz.zeroValue4
 t22:=Tryz.underlying3
 a22:=Tryz.isAgg3
 z22:=Tryz.sizeOf3
 v22:=Tryz.zeroValue3}
def Tryz.pD:Go.Shelf.Ren:=⟨fun|8=>214|6=>238|n=>n,fun|22=>120|23=>123|25=>287|4=>4|3=>3|0=>0|n=>n,fun|n=>n⟩
theorem Tryz.xJ:Go.Proofs.SlLaysH0.n8 Tryz.prog Tryz.pD:={
 mixed:=by kernel_rfl
 f6:=⟨Tryz.f238.name,by decide,Tryz.func238.trans (congrArg some (by kernel_rfl))⟩
 f8:=⟨Tryz.f214.name,by decide,Tryz.func214.trans (congrArg some (by kernel_rfl))⟩
 t0:=Tryz.underlying0
 a0:=Tryz.isAgg0
 z0:=Tryz.sizeOf0
 v0:=Tryz.zeroValue0
 t3:=Tryz.underlying3
 a3:=Tryz.isAgg3
 z3:=Tryz.sizeOf3
 v3:=Tryz.zeroValue3
 t4:=Tryz.underlying4
 a4:=Tryz.isAgg4
 z4:=Tryz.sizeOf4
 v4:=Tryz.zeroValue4
 t22:=Tryz.underlying120
 a22:=Tryz.isAgg120
 z22:=Tryz.sizeOf120
 v22:=Tryz.zeroValue120
 t25:=Tryz.underlying287
 a25:=Tryz.isAgg287
 z25:=Tryz.sizeOf287
 v25:=Tryz.zeroValue287}
def Tryz.gu:Go.Shelf.Ren:=⟨fun|4=>232|n=>n,fun|22=>120|25=>123|3=>3|4=>4|9=>9|20=>20|0=>0|2=>3|n=>n,fun|n=>n⟩
theorem Tryz.BC:Go.Proofs.Lays8.n4 Tryz.prog Tryz.gu:={
 mixed:=by kernel_rfl
 f4:=⟨Tryz.f232.name,by decide,Tryz.func232.trans (congrArg some (by kernel_rfl))⟩
 t0:=Tryz.underlying0
 a0:=Tryz.isAgg0
 z0:=Tryz.sizeOf0
 v0:=Tryz.zeroValue0
 t3:=Tryz.underlying3
 a3:=Tryz.isAgg3
 z3:=Tryz.sizeOf3
 v3:=Tryz.zeroValue3
 t4:=Tryz.underlying4
 a4:=Tryz.isAgg4
 z4:=Tryz.sizeOf4
 v4:=Tryz.zeroValue4
 t9:=Tryz.underlying9
 a9:=Tryz.isAgg9
 z9:=Tryz.sizeOf9
 v9:=Tryz.zeroValue9
 t20:=Tryz.underlying20
 a20:=Tryz.isAgg20
 z20:=Tryz.sizeOf20
 v20:=Tryz.zeroValue20
 t22:=Tryz.underlying120
 a22:=Tryz.isAgg120
 z22:=Tryz.sizeOf120
 v22:=Tryz.zeroValue120}
def Tryz.q9:Go.Shelf.Ren:=⟨fun|41=>88|n=>n,fun|22=>55|23=>49|4=>4|n=>n,fun|n=>n⟩
theorem Tryz.rf:Go.Proofs.SlLaysE0.n41 Tryz.prog Tryz.q9:={
 mixed:=by kernel_rfl
 f41:=⟨Tryz.f88.name,by decide,Tryz.func88.trans (congrArg some (by kernel_rfl))⟩
 t4:=Tryz.underlying4
 a4:=Tryz.isAgg4
 z4:=Tryz.sizeOf4
 v4:=Tryz.zeroValue4
 t22:=Tryz.underlying55
 a22:=Tryz.isAgg55
 z22:=Tryz.sizeOf55
 v22:=Tryz.zeroValue55}
def Tryz.xK:Go.Shelf.Ren:=⟨fun|106=>122|213=>148|265=>179|n=>n,fun|9=>9|3=>3|n=>n,fun|n=>n⟩
theorem Tryz.Kw:Go.Proofs.Lays.n106 Tryz.prog Tryz.xK:={
 mixed:=by kernel_rfl
 f106:=Tryz.func122.trans (congrArg some (by kernel_rfl))
 f213:=Tryz.func148.trans (congrArg some (by kernel_rfl))
 f265:=Tryz.func179.trans (congrArg some (by kernel_rfl))
 t3:=Tryz.underlying3
 a3:=Tryz.isAgg3
 z3:=Tryz.sizeOf3
 v3:=Tryz.zeroValue3
 t9:=Tryz.underlying9
 a9:=Tryz.isAgg9
 z9:=Tryz.sizeOf9
 v9:=Tryz.zeroValue9}
end Go.Proofs
end
namespace Go.Proofs.YtdcpfbidcpfboaaGreatDoor
section
section
def beNat (l:List UInt8):Nat:=l.foldl (fun a c=>a*256+c.toNat) 0
def beBytes:Nat->Nat->List UInt8
 |0,_=>[]
 |k+1,n=>beBytes k (n/256)++[UInt8.ofNat (n%256)]
theorem jl (l:List UInt8)(c:UInt8):beNat (l++[c])=beNat l*256+c.toNat:=by simp[beNat]
theorem beBytes_length (k:Nat):∀n,(beBytes k n).length=k:=by
 induction k with
 |zero=>intro n;rfl
 |succ k ih=>intro n;simp[beBytes,ih]
theorem BD {α:Type}(l:List α)(k:Nat)(h:l.length=k+1):∃a c,l=a++[c]∧a.length=k:=by
 have hne:l≠[]:=by intro e;subst e;simp at h
 refine⟨l.dropLast,l.getLast hne,(List.dropLast_concat_getLast hne).symm,by simp[h]⟩
theorem vz (k:Nat):∀l:List UInt8,l.length=k->beNat l<256^k:=by
 induction k with
 |zero=>intro l h;rw[List.length_eq_zero_iff.1 h];decide
 |succ k ih=>
  intro l h;obtain⟨a,c,rfl,ha⟩:=BD l k h;have h1:=ih a ha;have h2:c.toNat<256:=UInt8.toNat_lt c;rw[jl,Nat.pow_succ];omega
theorem jN (l:List UInt8):beNat l<256^l.length:=vz _ l rfl
theorem dB (k:Nat):∀n,n<256^k->beNat (beBytes k n)=n:=by
 induction k with
 |zero=>intro n h;simp at h;subst h;rfl
 |succ k ih=>
  intro n h;rw[beBytes,jl,ih (n/256) (by rw[Nat.pow_succ]at h;omega)];have:(UInt8.ofNat (n%256)).toNat=n%256:=by simp
  omega
theorem jO (k:Nat):∀l:List UInt8,l.length=k->beBytes k (beNat l)=l:=by
 induction k with
 |zero=>intro l h;rw[List.length_eq_zero_iff.1 h];rfl
 |succ k ih=>
  intro l h;obtain⟨a,c,rfl,ha⟩:=BD l k h;have h2:c.toNat<256:=UInt8.toNat_lt c;rw[jl,beBytes];have e1:(beNat a*256+c.toNat)/256=beNat a:=by omega
  have e2:(beNat a*256+c.toNat)%256=c.toNat:=by omega
  rw[e1,e2,ih a ha];simp
theorem rh (l:List UInt8)(k:Nat)(h:k<l.length):beNat (l.take (k+1))=beNat (l.take k)*256+(l[k]).toNat:=by
 rw[List.take_succ_eq_append_getElem h,jl]
theorem k7 (l:List UInt8)(k:Nat)(h:k<4):beNat (l.take k)<16777216:=by
 have h1:=jN (l.take k);have h2:(l.take k).length<=3:=by simp;omega
 have h3:256^(l.take k).length<=256^3:=Nat.pow_le_pow_right (by omega) h2;have h4:(256:Nat)^3=16777216:=by decide
 omega
end
section
open Go.RowKit
def bT (n:Int):Bool:=decide (n=1∨n=2∨n=4)
structure Rd (b:Nat)(s:ByteArray)(e:Int)(w:World):Prop where
 blk:w.heap[b]? =some (.cells #[.string s,.int .i64 e] 180 (0,0))
 sz:s.size<=maxLen
structure Only (b:Nat)(w w':World):Prop where
 os:w'.os=w.os
 tape:w'.tape=w.tape
 output:w'.output=w.output
 size:w'.heap.size=w.heap.size
 block:∀k,k≠b->w'.heap[k]? =w.heap[k]?
theorem Only.refl (b:Nat)(w:World):Only b w w:=⟨rfl,rfl,rfl,rfl,fun _ _=>rfl⟩
theorem Only.trans {b:Nat}{u v w:World}(h:Only b u v)(k:Only b v w):Only b u w:=
 ⟨k.os.trans h.os,k.tape.trans h.tape,k.output.trans h.output,k.size.trans h.size,fun i hi=>(k.block i hi).trans (h.block i hi)⟩
theorem Only.setCell (b o:Nat)(w:World)(v:Value):Only b w (w.setCell ⟨b,o,none⟩ v):=
 ⟨rfl,rfl,rfl,by simp[World.setCell],fun k hk=>Below.heap_setCell _ _ _ _ hk⟩
theorem Only.below {B b:Nat}{w w':World}(h:Only b w w')(hB:B<=b):Below B w w':=
 ⟨h.os,h.tape,h.output,Nat.le_of_eq h.size.symm,fun k hk=>h.block k (by omega)⟩
theorem Rd.lt {b:Nat}{s:ByteArray}{e:Int}{w:World}(h:Rd b s e w):b<w.heap.size:=by
 have:=h.blk;rw[Array.getElem?_eq_some_iff]at this;exact this.1
theorem Rd.c0 {b:Nat}{s:ByteArray}{e:Int}{w:World}(h:Rd b s e w):w.cell? ⟨b,0,none⟩=some (.string s):=by simp[World.cell?,h.blk]
theorem Rd.c1 {b:Nat}{s:ByteArray}{e:Int}{w:World}(h:Rd b s e w):w.cell? ⟨b,1,none⟩=some (.int .i64 e):=by simp[World.cell?,h.blk]
theorem Rd.f0 {b:Nat}{s:ByteArray}{e:Int}{w:World}(h:Rd b s e w):w.frozen? ⟨b,0,none⟩=false:=by simp[World.frozen?,h.blk]
theorem Rd.f1 {b:Nat}{s:ByteArray}{e:Int}{w:World}(h:Rd b s e w):w.frozen? ⟨b,1,none⟩=false:=by simp[World.frozen?,h.blk]
theorem Rd.set0 {b:Nat}{s:ByteArray}{e:Int}{w:World}(h:Rd b s e w)(t:ByteArray)(ht:t.size<=maxLen):Rd b t e (w.setCell ⟨b,0,none⟩ (.string t)):=
 ⟨by simp[World.setCell,Array.getElem?_modify,h.blk],ht⟩
theorem Rd.set1 {b:Nat}{s:ByteArray}{e:Int}{w:World}(h:Rd b s e w)(n:Int):Rd b s n (w.setCell ⟨b,1,none⟩ (.int .i64 n)):=
 ⟨by simp[World.setCell,Array.getElem?_modify,h.blk],h.sz⟩
theorem Rd.below {b B:Nat}{s:ByteArray}{e:Int}{w w':World}(h:Rd b s e w)(k:Below B w w')(hb:b<B):Rd b s e w':=⟨(k.block b hb).trans h.blk,h.sz⟩
theorem Rd.made (s:ByteArray)(hs:s.size<=maxLen)(w:World):Rd w.heap.size s 0 (w.alloc (.cells #[.string s,.int .i64 0] 180)):=
 ⟨by show(w.heap.push _)[w.heap.size]? =_;simp,hs⟩
theorem fL {a b:Bool}(h:a=b):Ending.returned (.bool a)=.returned (.bool b):=by rw[h]
theorem gI {k:IntKind}{a b:Int}(h:a=b):Ending.returned (.int k a)=.returned (.int k b):=by rw[h]
theorem dg (n:Int)(w:World):
  Calls Tryz.prog 105 #[.int .i64 n] w fun e w'=>e=.returned (.bool (bT n))∧w=w':=by
 by_cases h1:n=1
 ·subst h1;go_enter Tryz.func105,Tryz.ntmps105;go_wp2;go_ret;exact⟨rfl,rfl⟩
 ·by_cases h2:n=2
  ·subst h2;go_enter Tryz.func105,Tryz.ntmps105;go_wp2;go_ret;exact⟨rfl,rfl⟩
  ·by_cases h4:n=4
   ·subst h4;go_enter Tryz.func105,Tryz.ntmps105;go_wp2;go_ret;exact⟨rfl,rfl⟩
   ·have e1:(n==1)=false:=beq_eq_false_iff_ne.2 h1;have e2:(n==2)=false:=beq_eq_false_iff_ne.2 h2;have e4:(n==4)=false:=beq_eq_false_iff_ne.2 h4;have hs:bT n=false:=by simp[bT,h1,h2,h4]
    have HS:Hid (bT n=false):=hs;clear hs h1 h2 h4;go_enter Tryz.func105,Tryz.ntmps105;go_wp2;go_ret;exact⟨fL HS.out.symm,rfl⟩
theorem jP (b:Nat)(s:ByteArray)(e:Int)(w:World)(h:Rd b s e w):
  Calls Tryz.prog 111 #[.pointer (some ⟨b,0,none⟩)] w fun r w'=>r=.returned (.int .i64 s.size)∧w=w':=by
 have c0:=h.c0;have c1:=h.c1;have f0:=h.f0;have f1:=h.f1;have lt:=h.lt;clear h;go_enter Tryz.func111,Tryz.ntmps111;go_wp2;go_ret;exact⟨rfl,rfl⟩
theorem mn (b:Nat)(s:ByteArray)(e:Int)(w:World)(h:Rd b s e w):
  Calls Tryz.prog 110 #[.pointer (some ⟨b,0,none⟩)] w fun r w'=>r=.returned (.int .i64 e)∧w=w':=by
 have c0:=h.c0;have c1:=h.c1;have f0:=h.f0;have f1:=h.f1;have lt:=h.lt;clear h;go_enter Tryz.func110,Tryz.ntmps110;go_wp2;go_ret;exact⟨rfl,rfl⟩
theorem mo (s:ByteArray)(w:World):
  Calls Tryz.prog 80 #[.string s] w fun r w'=>r=.returned (.pointer (some ⟨w.heap.size,0,none⟩))∧w'=w.alloc (.cells #[.string s,.int .i64 0] 180):=by
 go_enter Tryz.func80,Tryz.ntmps80;go_wp2;go_ret;exact⟨rfl,rfl⟩
theorem vA (b:Nat)(s:ByteArray)(n:Int)(w:World)(h:Rd b s 0 w):
  Calls Tryz.prog 108 #[.pointer (some ⟨b,0,none⟩),.int .i64 n] w fun r w'=>r=.returned (.tuple #[])∧w'=w.setCell ⟨b,1,none⟩ (.int .i64 n):=by
 have c0:=h.c0;have c1:=h.c1;have f0:=h.f0;have f1:=h.f1;have lt:=h.lt;clear h;go_enter Tryz.func108,Tryz.ntmps108;go_wp2
 go_end0
 exact⟨rfl,rfl⟩
theorem Ky (b:Nat)(s:ByteArray)(e n:Int)(w:World)(h:Rd b s e w)(he:e≠0):
  Calls Tryz.prog 108 #[.pointer (some ⟨b,0,none⟩),.int .i64 n] w fun r w'=>r=.returned (.tuple #[])∧w=w':=by
 have c0:=h.c0;have c1:=h.c1;have f0:=h.f0;have f1:=h.f1;have lt:=h.lt;clear h;have e1:(e==0)=false:=beq_eq_false_iff_ne.2 he;clear he;go_enter Tryz.func108,Tryz.ntmps108;go_wp2
 go_end0
 exact⟨rfl,rfl⟩
def aM (s:ByteArray)(e n:Int):ByteArray×ByteArray×Int:=
 if e≠0 then(ByteArray.empty,s,e)else if n<0 then(ByteArray.empty,s,1)else if(s.size:Int)<n then(ByteArray.empty,s,10)else(s.extract 0 n.toNat,s.extract n.toNat s.size,0)
theorem gP (b:Nat)(s:ByteArray)(e n:Int)(w:World)(h:Rd b s e w):
  Calls Tryz.prog 109 #[.pointer (some ⟨b,0,none⟩),.int .i64 n] w fun r w'=>r=.returned (.string (aM s e n).1)∧Rd b (aM s e n).2.1 (aM s e n).2.2 w'∧Only b w w':=by
 have c0:=h.c0;have c1:=h.c1;have f0:=h.f0;have f1:=h.f1;have lt:=h.lt;have sz:=h.sz;have H:Hid (Rd b s e w):=h;clear h;by_cases he:e=0
 ·subst he;by_cases hn:n<0
  ·have E:Hid (aM s 0 n=(ByteArray.empty,s,1)):=by simp[Hid,aM,hn]
   go_enter Tryz.func109,Tryz.ntmps109
   go_wp2_with (go_at_call 108;refine(vA b s _ _ H.out).mono ?_;rintro e w' ⟨rfl,rfl⟩)
   go_ret;rw[E.out];exact⟨rfl,H.out.set1 _,Only.setCell _ _ _ _⟩
  ·by_cases hl:(s.size:Int)<n
   ·have E:Hid (aM s 0 n=(ByteArray.empty,s,10)):=by simp[Hid,aM,hn,hl]
    go_enter Tryz.func109,Tryz.ntmps109
    go_wp2_with (go_at_call 108;refine(vA b s _ _ H.out).mono ?_;rintro e w' ⟨rfl,rfl⟩)
    go_ret;rw[E.out];exact⟨rfl,H.out.set1 _,Only.setCell _ _ _ _⟩
   ·have E:Hid (aM s 0 n=(s.extract 0 n.toNat,s.extract n.toNat s.size,0)):=by simp[Hid,aM,hn,hl]
    obtain⟨m,rfl⟩:=Int.eq_ofNat_of_zero_le (Int.not_lt.1 hn);have hm:m<=s.size:=by omega
    go_enter Tryz.func109,Tryz.ntmps109;go_wp2;go_ret;rw[E.out];refine⟨?_,?_,?_⟩
    ·rfl
    ·exact H.out.set0 _ (by simp;omega)
    ·exact Only.setCell _ _ _ _
 ·have E:Hid (aM s e n=(ByteArray.empty,s,e)):=by simp[Hid,aM,he]
  have e1:(e != 0)=true:=by rw[bne_iff_ne];exact he
  clear he;go_enter Tryz.func109,Tryz.ntmps109;go_wp2;go_ret;rw[E.out];exact⟨rfl,H.out,Only.refl _ _⟩
end
section
open Go.RowKit
theorem zX (a b:Nat)(ha:a<4611686018427387904)(hb:b<4611686018427387904):bits .or .i64 (a:Int) (b:Int)=((a|||b:Nat):Int):=by
 have hx:a|||b<2^62:=Nat.or_lt_two_pow (by omega) (by omega)
 show IntKind.i64.wrap ((BitVec.ofInt 64 (a:Int)|||BitVec.ofInt 64 (b:Int)).toNat:Int)=_;rw[BitVec.toNat_or,ofInt_u64 a (by omega),ofInt_u64 b (by omega),IntKind.wrap_i64];omega
theorem Kz (m c:Nat)(hm:m<16777216)(hc:c<256):Value.int .i64 (bits .or .i64 ((m:Int)*256) (wrap64 (c:Int)))=.int .i64 ((m*256+c:Nat):Int):=by
 have e1:wrap64 (c:Int)=(c:Int):=by unfold wrap64;omega
 have e2:((m:Int)*256)=((m*256:Nat):Int):=by omega
 rw[e1,e2,zX _ _ (by omega) (by omega),nat_join 8 _ _ (by omega) (by omega)]
def eO (s:ByteArray)(e:Int):Int:=if e≠0 then e else if s.size=0 then 0 else 11
theorem mq (b:Nat)(s:ByteArray)(e:Int)(w:World)(h:Rd b s e w):
  Calls Tryz.prog 82 #[.pointer (some ⟨b,0,none⟩)] w fun r w'=>r=.returned (.int .i64 (eO s e))∧w=w':=by
 have H:Hid (Rd b s e w):=h;have sz:=h.sz;clear h;by_cases he:e=0
 ·subst he;by_cases hs:s.size=0
  ·have E:Hid (eO s 0=0):=by simp[Hid,eO,hs]
   have hs':¬(0:Int)< (s.size:Int):=by omega
   clear hs;go_enter Tryz.func82,Tryz.ntmps82
   go_wp2_with (first| (go_at_call 110;refine(mn b s _ _ H.out).mono ?_;rintro e w' ⟨rfl,rfl⟩)| (go_at_call 111;refine(jP b s _ _ H.out).mono ?_;rintro e w' ⟨rfl,rfl⟩))
   go_ret;exact⟨gI E.out.symm,rfl⟩
  ·have E:Hid (eO s 0=11):=by simp[Hid,eO,hs]
   have hs':(0:Int)< (s.size:Int):=by omega
   clear hs;go_enter Tryz.func82,Tryz.ntmps82
   go_wp2_with (first| (go_at_call 110;refine(mn b s _ _ H.out).mono ?_;rintro e w' ⟨rfl,rfl⟩)| (go_at_call 111;refine(jP b s _ _ H.out).mono ?_;rintro e w' ⟨rfl,rfl⟩))
   go_ret;exact⟨gI E.out.symm,rfl⟩
 ·have E:Hid (eO s e=e):=by simp[Hid,eO,he]
  have e1:(e != 0)=true:=by rw[bne_iff_ne];exact he
  clear he;go_enter Tryz.func82,Tryz.ntmps82
  go_wp2_with (first| (go_at_call 110;refine(mn b s _ _ H.out).mono ?_;rintro e w' ⟨rfl,rfl⟩)| (go_at_call 111;refine(jP b s _ _ H.out).mono ?_;rintro e w' ⟨rfl,rfl⟩))
  go_ret;exact⟨gI E.out.symm,rfl⟩
def bn (s:ByteArray)(e n:Int):Int×ByteArray×Int:=
 if bT n=false then(0,s,if e≠0 then e else 1)else((beNat (aM s e n).1.data.toList:Int),(aM s e n).2.1,(aM s e n).2.2)
theorem xL (s:ByteArray)(e n:Int)(h:bT n=true):(aM s e n).1.size<=4:=by
 have:n=1∨n=2∨n=4:=by simpa[bT]using h
 unfold aM;split
 ·simp
 ·split
  ·simp
  ·split
   ·simp
   ·simp;omega
theorem jm (b:Nat)(s:ByteArray)(e n:Int)(w:World)(h:Rd b s e w):
  Calls Tryz.prog 81 #[.pointer (some ⟨b,0,none⟩),.int .i64 n] w fun r w'=>r=.returned (.int .i64 (bn s e n).1)∧Rd b (bn s e n).2.1 (bn s e n).2.2 w'∧Only b w w':=by
 have H:Hid (Rd b s e w):=h;have sz:=h.sz;clear h;cases hz:bT n
 ·by_cases he:e=0
  ·subst he;have E:Hid (bn s 0 n=(0,s,1)):=by simp[Hid,bn,hz]
   go_enter Tryz.func81,Tryz.ntmps81
   go_wp2_with (first| (go_at_call 105;refine(dg _ _).mono ?_;rintro e w' ⟨rfl,rfl⟩)| (go_at_call 108;refine(vA b s _ _ H.out).mono ?_;rintro e w' ⟨rfl,rfl⟩))
   go_ret;rw[E.out];exact⟨rfl,H.out.set1 _,Only.setCell _ _ _ _⟩
  ·have E:Hid (bn s e n=(0,s,e)):=by simp[Hid,bn,hz,he]
   go_enter Tryz.func81,Tryz.ntmps81
   go_wp2_with (first| (go_at_call 105;refine(dg _ _).mono ?_;rintro e w' ⟨rfl,rfl⟩)| (go_at_call 108;refine(Ky b s _ _ _ H.out he).mono ?_;rintro e w' ⟨rfl,rfl⟩))
   go_ret;rw[E.out];exact⟨rfl,H.out,Only.refl _ _⟩
 ·have E:Hid (bn s e n=((beNat (aM s e n).1.data.toList:Int),(aM s e n).2.1,(aM s e n).2.2)):=by simp[Hid,bn,hz]
  have h4:=xL s e n hz;have C:=gP b s e n w H.out
  revert C E h4
  generalize aM s e n=t;obtain⟨x,s',e'⟩:=t;intro E h4 C0;have C:Hid _:=C0;clear C0;simp only at h4;go_enter Tryz.func81,Tryz.ntmps81
  go_wp2_with (first| (go_at_call 105;refine(dg _ _).mono ?_;rintro e w' ⟨rfl,rfl⟩)| (go_at_call 109;refine Calls.mono C.out ?_;rintro e w' ⟨rfl,hr,ho⟩))
  go_loop [6,18] (fun v i=>∃k:Nat,k<=x.size∧i=.int .i64 k∧v=.int .i64 (beNat (x.data.toList.take k))) (fun _ i=>x.size- (intOf i).toNat)
  case atStart=>exact⟨0,Nat.zero_le _,rfl,rfl⟩
  case round=>
   obtain⟨k,hk,rfl,rfl⟩:=hrel;by_cases hlt:k<x.size
   ·have T:Hid (beNat (x.data.toList.take (k+1))=beNat (x.data.toList.take k)*256+x[k].toNat):=rh x.data.toList k (by simpa using hlt);have B:=k7 x.data.toList k (by omega);go_wp2;have C8:x[k].toNat<256:=UInt8.toNat_lt _;refine⟨⟨k+1,by omega,by go_num,?_⟩,by simp[intOf];omega⟩;rw[T.out,Kz _ _ B C8]
   ·have T:Hid (x.data.toList.take k=x.data.toList):=List.take_of_length_le (by simp;omega);go_wp2;go_ret;rw[E.out];exact⟨gI (by rw[T.out]),hr,ho⟩
end
section
open Go.RowKit
def fH (size n:Int):Bool:=bT size&&decide (0<=n∧n< ((256^size.toNat:Nat):Int))
def gY (size n:Int):List UInt8:=if fH size n=true then beBytes size.toNat n.toNat else []
def jn (size n:Int):Int:=if fH size n=true then 0 else 1
theorem FO (size n:Int)(w:World)(h:bT size=false):
  Calls Tryz.prog 77 #[.int .i64 size,.int .i64 n] w fun r w'=>r=.returned (.tuple #[.string ⟨#[]⟩,.int .i64 1])∧w=w':=by
 go_enter Tryz.func77,Tryz.ntmps77
 go_wp2_with (go_at_call 105;refine(dg _ _).mono ?_;rintro e w' ⟨rfl,rfl⟩)
 go_ret2;exact⟨rfl,rfl⟩
theorem KH (size n:Int)(w:World)(h:bT size=true)(hn:n<0):
  Calls Tryz.prog 77 #[.int .i64 size,.int .i64 n] w fun r w'=>r=.returned (.tuple #[.string ⟨#[]⟩,.int .i64 1])∧w=w':=by
 go_enter Tryz.func77,Tryz.ntmps77
 go_wp2_with (go_at_call 105;refine(dg _ _).mono ?_;rintro e w' ⟨rfl,rfl⟩)
 go_ret2;exact⟨rfl,rfl⟩
theorem FQ (n:Int)(w:World)(hn:¬n<0)(hb:(n/256 != 0)=true):
  Calls Tryz.prog 77 #[.int .i64 1,.int .i64 n] w fun r w'=>r=.returned (.tuple #[.string ⟨#[]⟩,.int .i64 1])∧w=w':=by
 have h:bT 1=true:=rfl;go_enter Tryz.func77,Tryz.ntmps77
 go_wp2_with (go_at_call 105;refine(dg _ _).mono ?_;rintro e w' ⟨rfl,rfl⟩)
 go_ret2;exact⟨rfl,rfl⟩
theorem FR (n:Int)(w:World)(hn:¬n<0)(hb:(n/65536 != 0)=true):
  Calls Tryz.prog 77 #[.int .i64 2,.int .i64 n] w fun r w'=>r=.returned (.tuple #[.string ⟨#[]⟩,.int .i64 1])∧w=w':=by
 have h:bT 2=true:=rfl;go_enter Tryz.func77,Tryz.ntmps77
 go_wp2_with (go_at_call 105;refine(dg _ _).mono ?_;rintro e w' ⟨rfl,rfl⟩)
 go_ret2;exact⟨rfl,rfl⟩
theorem FT (n:Int)(w:World)(hn:¬n<0)(hb:(n/4294967296 != 0)=true):
  Calls Tryz.prog 77 #[.int .i64 4,.int .i64 n] w fun r w'=>r=.returned (.tuple #[.string ⟨#[]⟩,.int .i64 1])∧w=w':=by
 have h:bT 4=true:=rfl;go_enter Tryz.func77,Tryz.ntmps77
 go_wp2_with (go_at_call 105;refine(dg _ _).mono ?_;rintro e w' ⟨rfl,rfl⟩)
 go_ret2;exact⟨rfl,rfl⟩
theorem mv (l:List UInt8)(cs:Array Value)(w:World)(m c:Nat)(hcs:cs=(l.map fun b=>Value.int .u8 (b.toNat:Int)).toArray)(hm:m=l.length):
  Sem.run Tryz.prog (convert 167 9 (.slice (some ⟨w.heap.size,0,none⟩) m c)) (w.alloc (.cells cs 5))=.ok (.string ⟨l.toArray⟩) (w.alloc (.cells cs 5)):=by
 subst hm;refine run_convert_bytes_back _ 167 9 5 _ c l Tryz.underlying167 Tryz.underlying5 Tryz.underlying9 (fun j hj=>?_);have e:(⟨w.heap.size,0,none⟩:Addr).add j=⟨w.heap.size,j,none⟩:=by simp[Addr.add];intro h;omega
 rw[e,World.cell?_alloc_at cs 5 _ j rfl,hcs];simp[List.getElem?_eq_getElem hj]
theorem TW (n:Nat)(w:World)(hn:n<256):
  Calls Tryz.prog 77 #[.int .i64 1,.int .i64 n] w fun r w'=>r=.returned (.tuple #[.string ⟨(beBytes 1 n).toArray⟩,.int .i64 0])∧Below w.heap.size w w':=by
 have h:bT 1=true:=rfl;have hb:(((n:Int)/256) != 0)=false:=by simp;omega
 have hn0:¬(n:Int)<0:=by omega
 have hmk:∀w,(Instr.makeSlice 167 (.int .i64 1) (.int .i64 1)).run Tryz.prog w=.ok (.slice (some ⟨w.heap.size,0,none⟩) 1 1) (w.alloc (.cells #[.int .u8 0] 5)):=fun _=>by kernel_rfl
 have hcv:=mv (beBytes 1 n) #[.int .u8 (n:Int)] w 1 1 (by simp[beBytes];omega) (beBytes_length _ _).symm;go_enter Tryz.func77,Tryz.ntmps77
 go_wp2_with (go_at_call 105;refine(dg _ _).mono ?_;rintro e w' ⟨rfl,rfl⟩)
 refine wp_loop_rounds 2 ?_
 repeat any_goals (rw[rounds_succ];go_wp2)
 go_ret2;exact⟨rfl,(Below.refl _ _).alloc (Nat.le_refl _) _⟩
theorem TY (n:Nat)(w:World)(hn:n<65536):
  Calls Tryz.prog 77 #[.int .i64 2,.int .i64 n] w fun r w'=>r=.returned (.tuple #[.string ⟨(beBytes 2 n).toArray⟩,.int .i64 0])∧Below w.heap.size w w':=by
 have h:bT 2=true:=rfl;have hb:(((n:Int)/65536) != 0)=false:=by simp;omega
 have hn0:¬(n:Int)<0:=by omega
 have hmk:∀w,(Instr.makeSlice 167 (.int .i64 2) (.int .i64 2)).run Tryz.prog w=.ok (.slice (some ⟨w.heap.size,0,none⟩) 2 2) (w.alloc (.cells #[.int .u8 0,.int .u8 0] 5)):=fun _=>by kernel_rfl
 have hcv:=mv (beBytes 2 n) #[.int .u8 ((n:Int)/256),.int .u8 ((n:Int)%256)] w 2 2 (by simp[beBytes];omega) (beBytes_length _ _).symm;go_enter Tryz.func77,Tryz.ntmps77
 go_wp2_with (go_at_call 105;refine(dg _ _).mono ?_;rintro e w' ⟨rfl,rfl⟩)
 refine wp_loop_rounds 3 ?_
 repeat any_goals (rw[rounds_succ];go_wp2)
 go_ret2;exact⟨rfl,(Below.refl _ _).alloc (Nat.le_refl _) _⟩
theorem PQ (n:Nat)(w:World)(hn:n<4294967296):
  Calls Tryz.prog 77 #[.int .i64 4,.int .i64 n] w fun r w'=>r=.returned (.tuple #[.string ⟨(beBytes 4 n).toArray⟩,.int .i64 0])∧Below w.heap.size w w':=by
 have h:bT 4=true:=rfl;have hb:(((n:Int)/4294967296) != 0)=false:=by simp;omega
 have hn0:¬(n:Int)<0:=by omega
 have hmk:∀w,(Instr.makeSlice 167 (.int .i64 4) (.int .i64 4)).run Tryz.prog w=.ok (.slice (some ⟨w.heap.size,0,none⟩) 4 4) (w.alloc (.cells #[.int .u8 0,.int .u8 0,.int .u8 0,.int .u8 0] 5)):=fun _=>by kernel_rfl
 have hcv:=mv (beBytes 4 n) #[.int .u8 ((n:Int)/16777216),.int .u8 ((n:Int)/65536%256),.int .u8 ((n:Int)/256%256),.int .u8 ((n:Int)%256)] w 4 4 (by simp[beBytes];omega) (beBytes_length _ _).symm;go_enter Tryz.func77,Tryz.ntmps77
 go_wp2_with (go_at_call 105;refine(dg _ _).mono ?_;rintro e w' ⟨rfl,rfl⟩)
 refine wp_loop_rounds 5 ?_
 repeat any_goals (rw[rounds_succ];go_wp2)
 go_ret2;exact⟨rfl,(Below.refl _ _).alloc (Nat.le_refl _) _⟩
theorem ri {size n:Int}{r:Ending}{w w':World}(hp:fH size n=false)(h:r=.returned (.tuple #[.string ⟨#[]⟩,.int .i64 1])∧w=w'):
  r=.returned (.tuple #[.string ⟨(gY size n).toArray⟩,.int .i64 (jn size n)])∧Below w.heap.size w w':=by
 obtain⟨rfl,rfl⟩:=h;simp[gY,jn,hp,Below.refl]
theorem vB {size n:Int}{r:Ending}{w w':World}(k m:Nat)(hk:size=k)(hm:n=m)(hp:fH size n=true)(h:r=.returned (.tuple #[.string ⟨(beBytes k m).toArray⟩,.int .i64 0])∧Below w.heap.size w w'):
  r=.returned (.tuple #[.string ⟨(gY size n).toArray⟩,.int .i64 (jn size n)])∧Below w.heap.size w w':=by
 obtain⟨rfl,hb⟩:=h;subst hk hm;simp[gY,jn,hp,hb]
theorem jo (size n:Int)(w:World):
  Calls Tryz.prog 77 #[.int .i64 size,.int .i64 n] w fun r w'=>r=.returned (.tuple #[.string ⟨(gY size n).toArray⟩,.int .i64 (jn size n)])∧Below w.heap.size w w':=by
 cases hz:bT size
 ·exact(FO size n w hz).mono fun r w' h=>ri (by simp[fH,hz]) h
 ·by_cases hn:n<0
  ·exact(KH size n w hz hn).mono fun r w' h=>ri (by simp[fH];intro _ _;omega) h
  ·obtain⟨m,rfl⟩:=Int.eq_ofNat_of_zero_le (Int.not_lt.1 hn);have hs:size=1∨size=2∨size=4:=by simpa[bT]using hz
   rcases hs with rfl|rfl|rfl
   ·by_cases hb:m<256
    ·exact(TW m w hb).mono fun r w' h=>vB 1 m rfl rfl (by simp[fH,hz];omega) h
    ·exact(FQ m w hn (by rw[bne_iff_ne];omega)).mono fun r w' h=>ri (by simp[fH];omega) h
   ·by_cases hb:m<65536
    ·exact(TY m w hb).mono fun r w' h=>vB 2 m rfl rfl (by simp[fH,hz];omega) h
    ·exact(FR m w hn (by rw[bne_iff_ne];omega)).mono fun r w' h=>ri (by simp[fH];omega) h
   ·by_cases hb:m<4294967296
    ·exact(PQ m w hb).mono fun r w' h=>vB 4 m rfl rfl (by simp[fH,hz];omega) h
    ·exact(FT m w hn (by rw[bne_iff_ne];omega)).mono fun r w' h=>ri (by simp[fH];omega) h
end
section
open Go.RowKit
def cat (xs:List ByteArray):List UInt8:=(xs.map (·.data.toList)).flatten
theorem xM (xs:List ByteArray):Lib.join (xs.map (·.data.toList)) (ByteArray.data ⟨#[]⟩).toList=cat xs:=by
 cases xs with
 |nil=>rfl
 |cons x r=>
  rw[List.map_cons,Lib.join_cons];simp[cat,Lib.joinTail];rfl
theorem rj (bk o c m:Nat)(xs:List ByteArray)(w:World)(hcells:∀(j:Nat) x,xs[j]? =some x->w.cell? ⟨bk,o+j,none⟩=some (.string x))(hbk:bk<w.heap.size)(hm:xs.length=m)(hN:xs.length<=140737488355328)(hcap:xs.length<=c)(hlen:(cat xs).length<=140737488355328):
  Calls Tryz.prog 78 #[.slice (some ⟨bk,o,none⟩) m c] w fun r w'=>r=.returned (.string ⟨(cat xs).toArray⟩)∧Below w.heap.size w w':=by
 subst hm;have C:Hid _:=Tryz.strings_Join bk o c xs ⟨#[]⟩ w hcells hbk hN hcap (by rw[xM];exact hlen);rw[xM]at C;clear hcells hlen;go_enter Tryz.func78,Tryz.ntmps78
 go_wp2_with (go_at_call 106;refine Calls.mono C.out ?_;rintro e w' ⟨rfl,hb⟩)
 go_ret;exact⟨rfl,hb⟩
theorem join_none (a:Option Addr)(c:Nat)(w:World):
  Calls Tryz.prog 78 #[.slice a 0 c] w fun r w'=>r=.returned (.string ⟨#[]⟩)∧w=w':=by
 go_enter Tryz.func78,Tryz.ntmps78
 go_wp2_with (go_at_call 106;refine(Tryz.strings_Join_none a c _ w).mono ?_;rintro e w' ⟨rfl,rfl⟩)
 go_ret;exact⟨rfl,rfl⟩
theorem Oz (x y:ByteArray)(w:World)(hl:x.size+y.size<=140737488355328):
  Calls Tryz.prog 78 #[.slice (some ⟨w.heap.size,0,none⟩) 2 2] (w.alloc (.cells #[.string x,.string y] 9)) fun r w'=>r=.returned (.string ⟨(x.data.toList++y.data.toList).toArray⟩)∧Below w.heap.size w w':=by
 have hc:cat [x,y]=x.data.toList++y.data.toList:=by simp[cat]
 have h:=rj w.heap.size 0 2 2 [x,y] (w.alloc (.cells #[.string x,.string y] 9)) (fun j z hj=>?_) (by simp) rfl (by simp) (by simp) (by rw[hc];simpa using hl)
 ·rw[hc]at h;exact h.mono fun r w' ⟨a,b⟩=>⟨a,((Below.refl _ _).alloc (Nat.le_refl _) _).trans (b.mono (by simp))⟩
 ·rw[World.cell?_alloc_at _ 9 _ (0+j) rfl,Nat.zero_add]
  match j,hj with
  |0,hj=>simp at hj⊢;exact hj
  |1,hj=>simp at hj⊢;exact hj
end
section
open Go.RowKit
theorem PR (s:ByteArray):s=⟨s.data.toList.toArray⟩:=by cases s;simp
theorem dT (l:List UInt8):(⟨l.toArray⟩:ByteArray).size=l.length:=by simp[ByteArray.size]
theorem iz {s t:ByteArray}(h:s.data.toList=t.data.toList):s=t:=ByteArray.ext (Array.toList_inj.1 h)
theorem BG (l r:List UInt8):(⟨(l++r).toArray⟩:ByteArray).extract 0 l.length=⟨l.toArray⟩:=by
 apply iz;rw[Lib.extract_data];simp
theorem KO (l r:List UInt8):(⟨(l++r).toArray⟩:ByteArray).extract l.length (l.length+r.length)=⟨r.toArray⟩:=by
 apply iz;rw[Lib.extract_data];simp
theorem eQ (l r:List UInt8)(n:Int)(h:n=l.length):aM ⟨(l++r).toArray⟩ 0 n=(⟨l.toArray⟩,⟨r.toArray⟩,0):=by
 subst h;have h1:¬(l.length:Int)<0:=by omega
 have h2:¬(((⟨(l++r).toArray⟩:ByteArray).size:Int)<l.length):=by rw[dT,List.length_append];omega
 have h3:(⟨(l++r).toArray⟩:ByteArray).size=l.length+r.length:=by rw[dT,List.length_append]
 unfold aM;rw[if_neg (by simp),if_neg h1,if_neg h2,Int.toNat_natCast,h3,BG,KO]
theorem ei (l r:List UInt8)(n:Int)(h:n=l.length)(hz:bT n=true):bn ⟨(l++r).toArray⟩ 0 n=((beNat l:Int),⟨r.toArray⟩,0):=by
 unfold bn;rw[eQ l r n h];simp[hz]
theorem oU (s:ByteArray)(e n:Int)(h:(aM s e n).2.2=0):
  e=0∧∃l r:List UInt8,s=⟨(l++r).toArray⟩∧n=(l.length:Int)∧aM s e n=(⟨l.toArray⟩,⟨r.toArray⟩,0):=by
 by_cases he:e=0
 ·refine⟨he,?_⟩;subst he;by_cases h1:n<0
  ·simp[aM,h1]at h
  ·by_cases h2:(s.size:Int)<n
   ·simp[aM,h1,h2]at h
   ·obtain⟨k,rfl⟩:=Int.eq_ofNat_of_zero_le (Int.not_lt.1 h1);have hk:k<=s.data.toList.length:=by
     have:=Lib.size_eq s;omega
    have hl:(s.data.toList.take k).length=k:=by simp at hk⊢;omega
    have hs:s=⟨(s.data.toList.take k++s.data.toList.drop k).toArray⟩:=by rw[List.take_append_drop]
    refine⟨s.data.toList.take k,s.data.toList.drop k,hs,by rw[hl],?_⟩;have:=eQ (s.data.toList.take k) (s.data.toList.drop k) (k:Int) (by rw[hl]);rw[<-hs]at this;exact this
 ·simp[aM,he]at h
theorem iK (s:ByteArray)(e n:Int)(h:(bn s e n).2.2=0):
  e=0∧bT n=true∧∃l r:List UInt8,s=⟨(l++r).toArray⟩∧n=(l.length:Int)∧bn s e n=((beNat l:Int),⟨r.toArray⟩,0):=by
 cases hz:bT n
 ·exfalso;by_cases he:e=0<;>simp[bn,hz,he]at h
 ·have h':(aM s e n).2.2=0:=by simpa[bn,hz]using h
  obtain⟨he,l,r,hs,hn,_⟩:=oU s e n h';subst he;refine⟨rfl,rfl,l,r,hs,hn,?_⟩;rw[hs];exact ei l r n hn hz
end
section
open Go.RowKit
end
section
def pE (c:Nat):Nat:=if c%2=1 then c/2^^^3988292384 else c/2
def jq (c:Nat):Nat:=pE (pE (pE (pE c)))
def fC (c:Nat):Nat:=jq (jq c)
def gZ (c b:Nat):Nat:=fC (c^^^b)
def my (c:Nat)(l:List UInt8):Nat:=l.foldl (fun c b=>gZ c b.toNat) c
def lC (l:List UInt8):Nat:=my 4294967295 l^^^4294967295
theorem xor_left_comm (x y z:Nat):x^^^(y^^^z)=y^^^(x^^^z):=by
 rw[<-Nat.xor_assoc,Nat.xor_comm x y,Nat.xor_assoc]
theorem jQ {x y:Nat}(hx:x<4294967296)(hy:y<4294967296):x^^^y<4294967296:=Nat.xor_lt_two_pow (n:=32) hx hy
theorem mz (x y:Nat):pE (x^^^y)=pE x^^^pE y:=by
 have hm:=@Nat.xor_mod_two_eq_one x y;have hd:=@Nat.xor_div_two x y;unfold pE;rw[hd];by_cases h1:x%2=1<;>by_cases h2:y%2=1
 ·rw[if_neg (by rw[hm];simp[h1,h2]),if_pos h1,if_pos h2];rw[Nat.xor_assoc,xor_left_comm 3988292384,Nat.xor_self,Nat.xor_zero]
 ·rw[if_pos (by rw[hm];simp[h1,h2]),if_pos h1,if_neg h2];rw[Nat.xor_assoc,Nat.xor_assoc,Nat.xor_comm (y/2)]
 ·rw[if_pos (by rw[hm];simp[h1,h2]),if_neg h1,if_pos h2];rw[Nat.xor_assoc]
 ·rw[if_neg (by rw[hm];simp[h1,h2]),if_neg h1,if_neg h2]
theorem ku (x:Nat):pE (2*x)=x:=by
 unfold pE;rw[if_neg (by omega)];omega
theorem pR {c:Nat}(h:c<4294967296):pE c<4294967296:=by
 unfold pE;split
 ·exact jQ (by omega) (by decide)
 ·omega
theorem rk (x y:Nat):jq (x^^^y)=jq x^^^jq y:=by
 unfold jq;rw[mz,mz,mz,mz]
theorem nP (x:Nat):jq (16*x)=x:=by
 unfold jq;rw[show 16*x=2*(2*(2*(2*x))) by omega,ku,ku,ku,ku]
theorem pS {c:Nat}(h:c<4294967296):jq c<4294967296:=pR (pR (pR (pR h)))
theorem gy (x y:Nat):fC (x^^^y)=fC x^^^fC y:=by
 unfold fC;rw[rk,rk]
theorem gQ (x:Nat):fC (256*x)=x:=by
 unfold fC;rw[show 256*x=16*(16*x) by omega,nP,nP]
theorem KY {c:Nat}(h:c<4294967296):fC c<4294967296:=pS (pS h)
theorem KZ {i b:Nat}(h:b<2^i)(a:Nat):2^i*a+b=2^i*a^^^b:=by
 apply Nat.eq_of_testBit_eq;intro j;rw[Nat.testBit_two_pow_mul_add _ h,Nat.testBit_xor,Nat.testBit_two_pow_mul];by_cases hj:j<i
 ·simp[hj,Nat.not_le.2 hj]
 ·have hb:b.testBit j=false:=Nat.testBit_lt_two_pow (Nat.lt_of_lt_of_le h (Nat.pow_le_pow_right (by decide) (by omega)));simp[hj,hb,Nat.le_of_not_lt hj]
theorem nib (c:Nat):c=(16*(c/16))^^^(c%16):=by
 have h:2^4*(c/16)+c%16=2^4*(c/16)^^^c%16:=KZ (Nat.mod_lt _ (by decide)) _;have h2:=Nat.div_add_mod c 16;simp only[Nat.reducePow]at h;omega
theorem D6 (c:Nat):c/16^^^jq (c%16)=jq c:=by
 conv=>rhs;rw[nib c,rk,nP]
theorem xN {c b:Nat}(hc:c<4294967296)(hb:b<256):gZ c b<4294967296:=KY (jQ hc (by omega))
theorem uu (c:Nat)(l m:List UInt8):my c (l++m)=my (my c l) m:=List.foldl_append
theorem FU {c:Nat}(hc:c<4294967296)(l:List UInt8):my c l<4294967296:=by
 induction l generalizing c with
 |nil=>exact hc
 |cons b l ih=>exact ih (xN hc b.toNat_lt)
theorem K0 (l:List UInt8):lC l<4294967296:=jQ (FU (by decide) l) (by decide)
theorem four (C x0 x1 x2 x3 a b c d:Nat):
  gZ (gZ (gZ (gZ C (x0^^^a)) (x1^^^b)) (x2^^^c)) (x3^^^d)
   =gZ (gZ (gZ (gZ C x0) x1) x2) x3^^^fC (fC (fC (fC (a^^^256*b^^^65536*c^^^16777216*d)))):=by
 have e1:fC (a^^^256*b^^^65536*c^^^16777216*d)=fC a^^^b^^^256*c^^^65536*d:=by
  rw[gy,gy,gy,gQ,show 65536*c=256*(256*c) by omega,gQ,show 16777216*d=256*(65536*d) by omega,gQ]
 have e2:fC (fC a^^^b^^^256*c^^^65536*d)=fC (fC a^^^b)^^^c^^^256*d:=by
  rw[gy,gy,gQ,show 65536*d=256*(256*d) by omega,gQ]
 have e3:fC (fC (fC a^^^b)^^^c^^^256*d)=fC (fC (fC a^^^b)^^^c)^^^d:=by
  rw[gy,gQ]
 rw[e1,e2,e3];unfold gZ;have s (C x a D:Nat):fC ((C^^^D)^^^(x^^^a))=fC (C^^^x)^^^fC (D^^^a):=by
  rw[<-gy]
  congr 1
  rw[Nat.xor_assoc,Nat.xor_assoc,xor_left_comm D]
 have s0:fC (C^^^(x0^^^a))=fC (C^^^x0)^^^fC a:=by rw[<-Nat.xor_assoc,gy]
 rw[s0,s,s,s]
end
section
open Go.RowKit
structure uv (w:World):Prop where
 lt:1<w.heap.size
 cell:∀i,i<16->w.cell? ⟨1,i,none⟩=some (.int .u32 ((jq i:Nat):Int))
theorem uv.below {w w':World}(h:uv w)(hb:Below w.heap.size w w'):uv w':=
 ⟨Nat.lt_of_lt_of_le h.lt hb.size,fun i hi=>by rw[hb.cell h.lt];exact h.cell i hi⟩
theorem TZ (c:Nat)(h:c<4294967296):bits .and .u32 (c:Int) 15=((c%16:Nat):Int):=by
 have:=u32_and_nat c 15 h (by decide);rw[show((15:Nat):Int)=15 from rfl]at this;rw[this,Nat.and_two_pow_sub_one_eq_mod c 4]
theorem FV (c:Nat)(h:c<4294967296):bits .xor .u32 ((c:Int)/16) ((jq (c%16):Nat):Int)=((jq c:Nat):Int):=by
 have:=u32_xor_nat (c/16) (jq (c%16)) (by omega) (pS (by omega));rw[D6]at this;exact this
theorem mE (c:Nat)(hc:c<4294967296)(w:World)(h:uv w):
  Calls Tryz.prog 255 #[.int .u32 c] w fun r w'=>r=.returned (.int .u32 ((jq c:Nat):Int))∧w=w':=by
 have e1:=TZ c hc;have e2:=FV c hc;have hcell:=h.cell (c%16) (Nat.mod_lt _ (by decide));go_enter Tryz.func255,Tryz.ntmps255;go_wp2;go_ret;exact⟨rfl,rfl⟩
theorem FW (c b:Nat)(hc:c<4294967296)(hb:b<256)(w:World)(h:uv w):
  Calls Tryz.prog 254 #[.int .u32 c,.int .u8 b] w fun r w'=>r=.returned (.int .u32 ((gZ c b:Nat):Int))∧w=w':=by
 have e1:=u32_xor_nat c b hc (by omega);have hx:c^^^b<4294967296:=jQ hc (by omega);unfold gZ fC;generalize c^^^b=x at*;have H1:Hid _:=mE x hx w h;have H2:Hid _:=mE (jq x) (pS hx) w h;clear h;go_enter Tryz.func254,Tryz.ntmps254
 go_wp2_with fail
 refine Calls.mono H1.out ?_;rintro e w' ⟨rfl,rfl⟩
 go_wp2_with fail
 refine Calls.mono H2.out ?_;rintro e w' ⟨rfl,rfl⟩;go_wp2;go_ret;exact⟨rfl,rfl⟩
end
section
open Go.RowKit
theorem FX (xs:List ByteArray)(k:Nat)(h:k<xs.length):cat (xs.take (k+1))=cat (xs.take k)++(xs.getD k ByteArray.empty).data.toList:=by
 have e:xs.take (k+1)=xs.take k++[xs.getD k ByteArray.empty]:=by
  rw[List.take_succ_eq_append_getElem h,List.getD_eq_getElem?_getD,List.getElem?_eq_getElem h];rfl
 rw[e];unfold cat;rw[List.map_append,List.flatten_append];simp
structure zY (w:World)(a:Option Addr)(len cap:Nat)(xs:List ByteArray):Prop where
 FY:xs.length=len
 Xh:len<=cap
 small:len<=maxLen
 sizes:∀k,k<len->(xs.getD k ByteArray.empty).size<=maxLen
 cells:∀k,k<len->∃b o,a=some ⟨b,o,none⟩∧b<w.heap.size∧w.cell? ⟨b,o+k,none⟩=some (.string (xs.getD k ByteArray.empty))
theorem zZ (c:Nat)(x:ByteArray)(i:Nat)(h:i<x.size):my c (x.data.toList.take (i+1))=gZ (my c (x.data.toList.take i)) x[i].toNat:=by
 have h':i<x.data.toList.length:=by simpa using h
 rw[List.take_succ_eq_append_getElem h',uu];rfl
theorem K7 (a:Option Addr)(len cap:Nat)(xs:List ByteArray)(w:World)(h:uv w)(row:zY w a len cap xs):
  Calls Tryz.prog 252 #[.slice a len cap] w fun r w'=>r=.returned (.int .i64 ((lC (cat xs):Nat):Int))∧w=w':=by
 have hm:=row.small;unfold maxLen at hm;have ROW:Hid (zY w a len cap xs):=row;have PS:Hid (uv w):=h;clear row h;go_enter Tryz.func252,Tryz.ntmps252;go_wp2
 go_loop [3,9] (fun c i=>∃(k C:Nat),k<=len∧i=.int .i64 k∧c=.int .u32 C∧C<4294967296∧Hid (C=my 4294967295 (cat (xs.take k)))) (fun _ i=>len- (intOf i).toNat)
 case atStart=>exact⟨0,4294967295,Nat.zero_le _,rfl,rfl,by decide,rfl⟩
 case round=>
  obtain⟨k,C,hk,rfl,rfl,hC,eC⟩:=hrel;by_cases hlt:k<len
  ·obtain⟨bx,o,rfl,hbx,hc⟩:=ROW.out.cells k hlt;have hz:=ROW.out.sizes k hlt;unfold maxLen at hz;have eT:Hid (cat (xs.take (k+1))=cat (xs.take k)++(xs.getD k ByteArray.empty).data.toList):=FX xs k (by rw[ROW.out.FY];exact hlt);generalize xs.getD k ByteArray.empty=x at*;go_wp2
   go_loop [3,15] (fun c i=>∃(j D:Nat),j<=x.size∧i=.int .i64 j∧c=.int .u32 D∧D<4294967296∧Hid (D=my C (x.data.toList.take j))) (fun _ i=>x.size- (intOf i).toNat)
   case atStart=>exact⟨0,C,Nat.zero_le _,rfl,rfl,hC,rfl⟩
   case round=>
    obtain⟨j,D,hj,rfl,rfl,hD,eD⟩:=hrel;by_cases hlj:j<x.size
    ·have T:Hid _:=zZ C x j hlj;have S:Hid _:=FW D x[j].toNat hD (UInt8.toNat_lt _) w PS.out;have hS:gZ D x[j].toNat<4294967296:=xN hD (UInt8.toNat_lt _)
     go_wp2_with fail
     refine Calls.mono S.out ?_;rintro e w' ⟨rfl,rfl⟩;go_wp2;refine⟨⟨j+1,_,by omega,by go_num,rfl,hS,?_⟩,by simp[intOf];omega⟩;rw[Hid,T.out,<-eD.out]
    ·have T:Hid (x.data.toList.take j=x.data.toList):=List.take_of_length_le (by simp;omega);go_wp2;refine⟨⟨k+1,D,by omega,by go_num,rfl,hD,?_⟩,by simp[intOf];omega⟩;rw[Hid,eT.out,uu,<-eC.out,eD.out,T.out]
  ·have e1:bits .xor .u32 (C:Int) 4294967295=((C^^^4294967295:Nat):Int):=u32_xor_nat C 4294967295 hC (by decide);have e2:Hid (lC (cat xs)=C^^^4294967295):=by
    rw[Hid,lC,eC.out,List.take_of_length_le (by rw[ROW.out.FY];omega)]
   have e3:C^^^4294967295<4294967296:=jQ hC (by decide);generalize C^^^4294967295=S at*;go_wp2;go_ret;rw[e2.out];exact⟨rfl,rfl⟩
theorem La (xs:List ByteArray)(vs:Array Value)(w:World)(n:Nat)(hn:xs.length=n)(hv:vs=(xs.map Value.string).toArray)(hs:n<=8)(hz:∀x∈xs,x.size<=maxLen):
  zY (w.alloc (.cells vs 9)) (some ⟨w.heap.size,0,none⟩) n n xs:=by
 subst hn hv;refine⟨rfl,Nat.le_refl _,by unfold maxLen;omega,fun k hk=>?_,fun k hk=>⟨_,_,rfl,by simp,?_⟩⟩
 ·rw[List.getD_eq_getElem?_getD,List.getElem?_eq_getElem hk];exact hz _ (List.getElem_mem hk)
 ·rw[World.cell?_alloc_at _ 9 _ (0+k) rfl,Nat.zero_add,List.getD_eq_getElem?_getD,List.getElem?_eq_getElem hk];simp[hk]
theorem Lb (xs:List ByteArray)(vs:Array Value)(w:World)(n:Nat)(h:uv w)(hn:xs.length=n)(hv:vs=(xs.map Value.string).toArray)(hs:n<=8)(hz:∀x∈xs,x.size<=maxLen):
  Calls Tryz.prog 252 #[.slice (some ⟨w.heap.size,0,none⟩) n n] (w.alloc (.cells vs 9)) fun r w'=>r=.returned (.int .i64 ((lC (cat xs):Nat):Int))∧w.alloc (.cells vs 9)=w':=
 K7 _ n n xs _ (h.below ((Below.refl _ _).alloc (Nat.le_refl _) _)) (La xs vs w n hn hv hs hz)
theorem Xi (x:ByteArray)(w:World)(h:uv w)(hx:x.size<=maxLen):
  Calls Tryz.prog 252 #[.slice (some ⟨w.heap.size,0,none⟩) 1 1] (w.alloc (.cells #[.string x] 9)) fun r w'=>r=.returned (.int .i64 ((lC x.data.toList:Nat):Int))∧w.alloc (.cells #[.string x] 9)=w':=by
 have:=Lb [x] #[.string x] w 1 h rfl rfl (by decide) (by simpa using hx);rw[show cat [x]=x.data.toList by simp[cat]]at this;exact this
end
section
open Go.RowKit Go.WideShapes
theorem own:ownKnob Tryz.prog.godebug=none:=by kernel_rfl
end
section
open Go.RowKit
end
section
open Go.RowKit
def fM (n:Nat)(k:UInt8)(b:List UInt8):List UInt8:=
 beBytes 4 n++([k]++([0]++(beBytes 2 b.length++(List.replicate 4 0++(b++List.replicate (240-b.length) 0)))))
def cJ (n:Nat)(k:UInt8)(b:List UInt8):List UInt8:=beBytes 4 (lC (fM n k b))++fM n k b
theorem mF (n:Nat)(k:UInt8)(b:List UInt8)(h:b.length<=240):(fM n k b).length=252:=by
 simp[fM,beBytes_length];omega
theorem vC (n:Nat)(k:UInt8)(b:List UInt8)(h:b.length<=240):(cJ n k b).length=256:=by
 rw[cJ,List.length_append,beBytes_length,mF n k b h]
def fD (id:Int)(n:Nat):Int:=if 240<n then 50 else if fH 4 id=true then 0 else 1
def iL (id:Int)(k:UInt8)(b:List UInt8):List UInt8:=if fD id b.length=0 then cJ id.toNat k b else []
theorem OC (id:Int):fH 4 id=true↔0<=id∧id<4294967296:=by simp[fH,bT]
theorem jr {id:Int}{n:Nat}:fD id n=0↔n<=240∧0<=id∧id<4294967296:=by
 rw[<-OC];unfold fD;by_cases h:240<n
 ·rw[if_pos h];constructor
  ·intro e;cases e
  ·intro e;omega
 ·rw[if_neg h];cases hp:fH 4 id
  ·simp
  ·simp;omega
def T3 (s:List UInt8):UInt8:=s.getD 8 0
def Xj (s:List UInt8):Nat:=beNat ((s.drop 10).take 2)
def PT (s:List UInt8):List UInt8:=(s.drop 16).take (Xj s)
theorem BH (a b:List UInt8)(k:Nat)(h:a.length=k):(a++b).drop k=b:=by subst h;simp
theorem BI (a b:List UInt8)(k:Nat)(h:a.length=k):(a++b).take k=a:=by subst h;simp
theorem mG (n:Nat)(k:UInt8)(b:List UInt8):(cJ n k b).drop 10=beBytes 2 b.length++(List.replicate 4 0++(b++List.replicate (240-b.length) 0)):=by
 have e:cJ n k b=(beBytes 4 (lC (fM n k b))++(beBytes 4 n++([k]++[0])))++(beBytes 2 b.length++(List.replicate 4 0++(b++List.replicate (240-b.length) 0))):=by
  conv=>lhs;rw[cJ]
  conv=>lhs;rhs;rw[fM]
  simp only[List.append_assoc]
 rw[e];exact BH _ _ 10 (by simp[beBytes_length])
theorem FZ (n:Nat)(k:UInt8)(b:List UInt8)(h:b.length<=240):Xj (cJ n k b)=b.length:=by
 unfold Xj;rw[mG,BI _ _ 2 (beBytes_length _ _),dB 2 _ (by omega)]
theorem xO (n:Nat)(k:UInt8)(b:List UInt8)(h:b.length<=240):PT (cJ n k b)=b:=by
 unfold PT;rw[FZ n k b h,show 16=10+6 from rfl,<-List.drop_drop,mG,<-List.append_assoc,BH _ _ 6 (by simp[beBytes_length]),BI _ _ _ rfl]
theorem xP (n:Nat)(k:UInt8)(b:List UInt8):T3 (cJ n k b)=k:=by
 have e:cJ n k b=(beBytes 4 (lC (fM n k b))++beBytes 4 n)++(k::([0]++(beBytes 2 b.length++(List.replicate 4 0++(b++List.replicate (240-b.length) 0))))):=by
  conv=>lhs;rw[cJ]
  conv=>lhs;rhs;rw[fM]
  simp only[List.append_assoc,List.cons_append,List.nil_append]
 unfold T3;rw[e,List.getD_eq_getElem?_getD,List.getElem?_append_right (by simp[beBytes_length])];simp[beBytes_length]
def opn (id:Int)(s:List UInt8):UInt8×List UInt8×Int:=
 if fD id (PT s).length=0∧s=cJ id.toNat (T3 s) (PT s)then(T3 s,PT s,0)else(0,[],3)
theorem F3 (id:Int)(k:UInt8)(b:List UInt8)(h:fD id b.length=0):opn id (cJ id.toNat k b)=(k,b,0):=by
 have hl:=(jr.1 h).1;unfold opn;rw[xO _ _ _ hl,xP,if_pos ⟨h,rfl⟩]
theorem nQ (id:Int)(s:List UInt8):(∃k b,fD id b.length=0∧s=cJ id.toNat k b∧opn id s=(k,b,0))∨((∀k b,fD id b.length=0->s≠cJ id.toNat k b)∧opn id s=(0,[],3)):=by
 by_cases c:fD id (PT s).length=0∧s=cJ id.toNat (T3 s) (PT s)
 ·exact .inl ⟨_,_,c.1,c.2,by rw[opn,if_pos c]⟩
 ·refine .inr ⟨fun k b h e=>c ?_,by rw[opn,if_neg c]⟩;subst e;have hl:=(jr.1 h).1;rw[xO _ _ _ hl,xP];exact⟨h,rfl⟩
def F4 (s:ByteArray):ByteArray×ByteArray×Int:=aM s 0 8
def BJ (s:ByteArray):Int×ByteArray×Int:=bn (F4 s).2.1 (F4 s).2.2 1
def Lc (s:ByteArray):ByteArray×ByteArray×Int:=aM (BJ s).2.1 (BJ s).2.2 1
def F5 (s:ByteArray):Int×ByteArray×Int:=bn (Lc s).2.1 (Lc s).2.2 2
def Ld (s:ByteArray):ByteArray×ByteArray×Int:=aM (F5 s).2.1 (F5 s).2.2 4
def PU (s:ByteArray):ByteArray×ByteArray×Int:=aM (Ld s).2.1 (Ld s).2.2 (F5 s).1
def zR (s:ByteArray):UInt8:=UInt8.ofNat (BJ s).1.toNat
def pT (s:ByteArray):ByteArray:=(PU s).1
theorem F6 (s:ByteArray):(BJ s).1=((zR s).toNat:Int):=by
 have h:0<=(BJ s).1∧(BJ s).1<256:=by
  unfold BJ bn;rw[if_neg (by decide)];generalize(F4 s).2.1=t;generalize(F4 s).2.2=e;have hl:(aM t e 1).1.size<=1:=by
   unfold aM;split
   ·simp
   ·split
    ·simp
    ·split
     ·simp
     ·simp;omega
  have h1:=jN (aM t e 1).1.data.toList;have h2:256^(aM t e 1).1.data.toList.length<=256^1:=Nat.pow_le_pow_right (by omega) (by simpa using hl);dsimp only;omega
 unfold zR;simp;omega
theorem Le (n:Nat)(k:UInt8)(b:List UInt8)(h:b.length<=240):zR ⟨(cJ n k b).toArray⟩=k∧pT ⟨(cJ n k b).toArray⟩=⟨b.toArray⟩:=by
 have e:cJ n k b=(beBytes 4 (lC (fM n k b))++beBytes 4 n)++([k]++([0]++(beBytes 2 b.length++(List.replicate 4 0++(b++List.replicate (240-b.length) 0))))):=by
  conv=>lhs;rw[cJ]
  conv=>lhs;rhs;rw[fM]
  simp only[List.append_assoc]
 have e1:F4 ⟨(cJ n k b).toArray⟩=(⟨(beBytes 4 (lC (fM n k b))++beBytes 4 n).toArray⟩,⟨([k]++([0]++(beBytes 2 b.length++(List.replicate 4 0++(b++List.replicate (240-b.length) 0))))).toArray⟩,0):=by
  rw[F4,e];exact eQ _ _ 8 (by simp[beBytes_length])
 have e2:BJ ⟨(cJ n k b).toArray⟩=((beNat [k]:Int),⟨([0]++(beBytes 2 b.length++(List.replicate 4 0++(b++List.replicate (240-b.length) 0)))).toArray⟩,0):=by
  rw[BJ,e1];exact ei _ _ 1 rfl rfl
 have e3:Lc ⟨(cJ n k b).toArray⟩=(⟨[0].toArray⟩,⟨(beBytes 2 b.length++(List.replicate 4 0++(b++List.replicate (240-b.length) 0))).toArray⟩,0):=by
  rw[Lc,e2];exact eQ _ _ 1 rfl
 have e4:F5 ⟨(cJ n k b).toArray⟩=((beNat (beBytes 2 b.length):Int),⟨(List.replicate 4 0++(b++List.replicate (240-b.length) 0)).toArray⟩,0):=by
  rw[F5,e3];exact ei _ _ 2 (by rw[beBytes_length];rfl) rfl
 rw[dB 2 _ (by omega)]at e4;have e5:Ld ⟨(cJ n k b).toArray⟩=(⟨(List.replicate 4 0).toArray⟩,⟨(b++List.replicate (240-b.length) 0).toArray⟩,0):=by
  rw[Ld,e4];exact eQ _ _ 4 rfl
 have e6:PU ⟨(cJ n k b).toArray⟩=(⟨b.toArray⟩,⟨(List.replicate (240-b.length) 0).toArray⟩,0):=by
  rw[PU,e5,e4];exact eQ _ _ _ rfl
 refine⟨?_,by rw[pT,e6]⟩;rw[zR,e2];simp[beNat]
theorem D7 (id:Int)(s:ByteArray):
    (if fD id (pT s).size=0∧(⟨(iL id (zR s) (pT s).data.toList).toArray⟩:ByteArray)=s then(zR s,(pT s).data.toList,(0:Int))else(0,[],3))=opn id s.data.toList:=by
  have hsz:(pT s).size=(pT s).data.toList.length:=by simp
  by_cases c:fD id (pT s).size=0∧(⟨(iL id (zR s) (pT s).data.toList).toArray⟩:ByteArray)=s
  · rw[if_pos c];have h0:fD id (pT s).data.toList.length=0:=by rw[<-hsz];exact c.1
    have hs:s.data.toList=cJ id.toNat (zR s) (pT s).data.toList:=by
      have:=c.2;rw[iL,if_pos h0]at this
      conv=>lhs;rw[<-this]
    rw[hs,F3 _ _ _ h0]
  · rw[if_neg c];rcases nQ id s.data.toList with⟨k,b,h1,h2,h3⟩| ⟨_,h⟩
    · exfalso;apply c;have e:s=⟨(cJ id.toNat k b).toArray⟩:=by rw[<-h2]
      obtain⟨hk,hb⟩:=Le id.toNat k b (jr.1 h1).1;rw[e,hk,hb];refine⟨by rw[dT];exact h1,?_⟩;rw[iL,if_pos (by simpa using h1)]
    · exact h.symm
end
section
open Go.RowKit
theorem xQ (n:Nat):Lib.repeatL [0] n=List.replicate n (0:UInt8):=by
 have:=Lib.repeatL_replicate 0 1 n;simpa using this
theorem jR (n:Nat)(w:World)(hn:n<=1000):
  Calls Tryz.prog 251 #[.int .i64 n] w fun e w'=>e=.returned (.string ⟨(List.replicate n (0:UInt8)).toArray⟩)∧Below w.heap.size w w':=by
 have C:Hid (Calls Tryz.prog 70 #[.string ⟨#[0]⟩,.int .i64 n] w fun e w'=>e=.returned (.string ⟨(Lib.repeatL [0] n).toArray⟩)∧Below w.heap.size w w'):=Tryz.strings_Repeat ⟨#[0]⟩ n w (by omega) (by show 1*n<=_;omega);rw[xQ]at C;go_enter Tryz.func251,Tryz.ntmps251
 go_wp2_with (go_at_call 70;refine Calls.mono C.out ?_;rintro e w' ⟨rfl,hb⟩)
 go_ret;exact⟨rfl,hb⟩
theorem xR (xs:List ByteArray)(vs:Array Value)(w:World)(n:Nat)(hn:xs.length=n)(hv:vs=(xs.map Value.string).toArray)(hs:n<=8)(hl:(cat xs).length<=140737488355328):
  Calls Tryz.prog 78 #[.slice (some ⟨w.heap.size,0,none⟩) n n] (w.alloc (.cells vs 9)) fun r w'=>r=.returned (.string ⟨(cat xs).toArray⟩)∧Below w.heap.size w w':=by
 subst hn hv;have h:=rj w.heap.size 0 xs.length xs.length xs (w.alloc (.cells (xs.map Value.string).toArray 9)) (fun j z hj=>?_) (by simp) rfl (by omega) (Nat.le_refl _) hl
 ·exact h.mono fun r w' ⟨a,b⟩=>⟨a,((Below.refl _ _).alloc (Nat.le_refl _) _).trans (b.mono (by simp))⟩
 ·rw[World.cell?_alloc_at _ 9 _ (0+j) rfl,Nat.zero_add];simp[hj]
theorem one_byte (k:UInt8):beBytes 1 k.toNat=[k]:=by simp[beBytes]
theorem F7 (n:Nat)(k:UInt8)(b:ByteArray):
  cat [⟨(beBytes 4 n).toArray⟩,⟨(beBytes 1 k.toNat).toArray⟩,⟨(List.replicate 1 (0:UInt8)).toArray⟩,⟨(beBytes 2 b.size).toArray⟩,⟨(List.replicate 4 (0:UInt8)).toArray⟩,b,⟨(List.replicate (240-b.size) (0:UInt8)).toArray⟩]=fM n k b.data.toList:=by
 rw[one_byte];simp only[cat,List.map_cons,List.map_nil,List.flatten_cons,List.flatten_nil,List.append_nil,fM];rw[show b.data.toList.length=b.size by simp];rfl
theorem F8 (n:Nat)(k:UInt8)(b:List UInt8):cat [⟨(beBytes 4 (lC (fM n k b))).toArray⟩,⟨(fM n k b).toArray⟩]=cJ n k b:=by
 simp only[cat,List.map_cons,List.map_nil,List.flatten_cons,List.flatten_nil,List.append_nil,cJ]
theorem Lf (n:Nat)(k:UInt8)(b:ByteArray)(w:World)(T:uv w)(hn:n<4294967296)(hb:b.size<=240):
  Calls Tryz.prog 243 #[.int .i64 n,.int .u8 (k.toNat:Int),.string b] w fun e w'=>e=.returned (.tuple #[.string ⟨(cJ n k b.data.toList).toArray⟩,.int .i64 0])∧Below w.heap.size w w':=by
 have PS:Hid (uv w):=T;have C1:Hid _:=PQ n w hn;have hk:k.toNat<256:=UInt8.toNat_lt k;have hl:(fM n k b.data.toList).length=252:=mF _ _ _ (by simpa using hb);have ER:Hid (_=fM n k b.data.toList):=F7 n k b;have EP:Hid (_=cJ n k b.data.toList):=F8 n k b.data.toList;have hS:lC (fM n k b.data.toList)<4294967296:=K0 _;have hP:(cJ n k b.data.toList).length=256:=vC _ _ _ (by simpa using hb);generalize fM n k b.data.toList=R at*;generalize cJ n k b.data.toList=G at*;clear T;go_enter Tryz.func243,Tryz.ntmps243
 go_wp2_with fail
 refine Calls.mono C1.out ?_;rintro e w1 ⟨rfl,b1⟩;have B1:Hid (Below w.heap.size w w1):=b1;clear b1 C1;have C2:Hid _:=TW k.toNat w1 hk
 go_wp2_with fail
 refine Calls.mono C2.out ?_;rintro e w2 ⟨rfl,b2⟩;have B2:Hid (Below w.heap.size w w2):=B1.out.trans (b2.mono B1.out.size);clear b2 C2;have C3:Hid _:=TY b.size w2 (by omega)
 go_wp2_with fail
 refine Calls.mono C3.out ?_;rintro e w3 ⟨rfl,b3⟩;have B3:Hid (Below w.heap.size w w3):=B2.out.trans (b3.mono B2.out.size);clear b3 C3;have C4:Hid (Calls Tryz.prog 251 #[.int .i64 1] w3 fun e w'=>e=.returned (.string ⟨(List.replicate 1 (0:UInt8)).toArray⟩)∧Below w3.heap.size w3 w'):=jR 1 w3 (by omega)
 go_wp2_with fail
 refine Calls.mono C4.out ?_;rintro e w4 ⟨rfl,b4⟩;have B4:Hid (Below w.heap.size w w4):=B3.out.trans (b4.mono B3.out.size);clear b4 C4;have C5:Hid (Calls Tryz.prog 251 #[.int .i64 4] w4 fun e w'=>e=.returned (.string ⟨(List.replicate 4 (0:UInt8)).toArray⟩)∧Below w4.heap.size w4 w'):=jR 4 w4 (by omega)
 go_wp2_with fail
 refine Calls.mono C5.out ?_;rintro e w5 ⟨rfl,b5⟩;have B5:Hid (Below w.heap.size w w5):=B4.out.trans (b5.mono B4.out.size);clear b5 C5;have C6:Hid _:=jR (240-b.size) w5 (by omega);rw[show(((240-b.size:Nat):Int))=240- (b.size:Int) by omega]at C6
 go_wp2_with fail
 refine Calls.mono C6.out ?_;rintro e w6 ⟨rfl,b6⟩;have B6:Hid (Below w.heap.size w w6):=B5.out.trans (b6.mono B5.out.size);clear b6 C6;have C7:Hid _:=xR [⟨(beBytes 4 n).toArray⟩,⟨(beBytes 1 k.toNat).toArray⟩,⟨(List.replicate 1 (0:UInt8)).toArray⟩,⟨(beBytes 2 b.size).toArray⟩,⟨(List.replicate 4 (0:UInt8)).toArray⟩,b,⟨(List.replicate (240-b.size) (0:UInt8)).toArray⟩] _ w6 7 rfl rfl (by omega) (by rw[ER.out,hl];omega);rw[ER.out]at C7
 go_wp2_with fail
 refine Calls.mono C7.out ?_;rintro e w7 ⟨rfl,b7⟩;have B7:Hid (Below w.heap.size w w7):=B6.out.trans (b7.mono B6.out.size);clear b7 C7;have C8:Hid _:=Xi ⟨R.toArray⟩ w7 (PS.out.below B7.out) (by rw[dT];unfold maxLen;omega);rw[show(⟨R.toArray⟩:ByteArray).data.toList=R from rfl]at C8
 go_wp2_with fail
 refine Calls.mono C8.out ?_;rintro e w8 ⟨rfl,hw8⟩;have B8:Hid (Below w.heap.size w w8):=by subst hw8;exact B7.out.alloc B7.out.size _
 clear hw8 C8;have C9:Hid _:=PQ (lC R) w8 hS
 go_wp2_with fail
 refine Calls.mono C9.out ?_;rintro e w9 ⟨rfl,b9⟩;have B9:Hid (Below w.heap.size w w9):=B8.out.trans (b9.mono B8.out.size);clear b9 C9;have Xk:Hid _:=xR [⟨(beBytes 4 (lC R)).toArray⟩,⟨R.toArray⟩] _ w9 2 rfl rfl (by omega) (by rw[EP.out,hP];omega);rw[EP.out]at Xk
 go_wp2_with fail
 refine Calls.mono Xk.out ?_;rintro e Xl ⟨rfl,b10⟩;have B10:Hid (Below w.heap.size w Xl):=B9.out.trans (b10.mono B9.out.size);clear b10 Xk;go_wp2;go_ret2;exact⟨rfl,B10.out⟩
theorem D8 (id:Int)(k:UInt8)(b:ByteArray)(w:World)(hb:240<b.size)(hm:b.size<=maxLen):
  Calls Tryz.prog 243 #[.int .i64 id,.int .u8 (k.toNat:Int),.string b] w fun e w'=>e=.returned (.tuple #[.string ⟨#[]⟩,.int .i64 50])∧w=w':=by
 unfold maxLen at hm;go_enter Tryz.func243,Tryz.ntmps243;go_wp2;go_ret2;exact⟨rfl,rfl⟩
theorem F9 (id:Int)(k:UInt8)(b:ByteArray)(w:World)(hb:b.size<=240)(hp:fH 4 id=false):
  Calls Tryz.prog 243 #[.int .i64 id,.int .u8 (k.toNat:Int),.string b] w fun e w'=>e=.returned (.tuple #[.string ⟨#[]⟩,.int .i64 1])∧Below w.heap.size w w':=by
 have C:Hid _:=jo 4 id w;rw[show gY 4 id=[] by simp[gY,hp],show jn 4 id=1 by simp[jn,hp]]at C;clear hp;go_enter Tryz.func243,Tryz.ntmps243
 go_wp2_with fail
 refine Calls.mono C.out ?_;rintro e w1 ⟨rfl,b1⟩;go_wp2;go_ret2;exact⟨rfl,b1⟩
theorem Ga (id:Int)(k:UInt8)(b:ByteArray)(w:World)(T:uv w)(hm:b.size<=maxLen):
  Calls Tryz.prog 243 #[.int .i64 id,.int .u8 (k.toNat:Int),.string b] w fun e w'=>e=.returned (.tuple #[.string ⟨(iL id k b.data.toList).toArray⟩,.int .i64 (fD id b.size)])∧Below w.heap.size w w':=by
 have hsz:b.data.toList.length=b.size:=by simp
 by_cases hb:240<b.size
 ·have e1:fD id b.size=50:=by rw[fD,if_pos hb]
  have e2:iL id k b.data.toList=[]:=by rw[iL,hsz,e1,if_neg (by decide)]
  rw[e1,e2];exact(D8 id k b w hb hm).mono fun e w' ⟨h1,h2⟩=>⟨h1,by subst h2;exact Below.refl _ _⟩
 ·cases hp:fH 4 id
  ·have e1:fD id b.size=1:=by rw[fD,if_neg hb,hp,if_neg (by decide)]
   have e2:iL id k b.data.toList=[]:=by rw[iL,hsz,e1,if_neg (by decide)]
   rw[e1,e2];exact F9 id k b w (by omega) hp
  ·have e1:fD id b.size=0:=by rw[fD,if_neg hb,hp,if_pos rfl]
   have e2:iL id k b.data.toList=cJ id.toNat k b.data.toList:=by rw[iL,hsz,e1,if_pos rfl]
   obtain⟨h0,h1⟩:=(OC id).1 hp;rw[e1,e2];have:=Lf id.toNat k b w T (by omega) (by omega);rw[show((id.toNat:Nat):Int)=id by omega]at this;exact this
end
section
open Go.RowKit
theorem PV {a b:ByteArray}(h:¬a=b):(a.toList==b.toList)=false:=by
 rw[beq_eq_false_iff_ne,Lib.toList_data,Lib.toList_data];intro e;exact h (iz e)
theorem tL (s:ByteArray)(e n:Int)(h:s.size<=maxLen):(aM s e n).1.size<=maxLen:=by
 unfold aM;split
 ·unfold maxLen;simp
 ·split
  ·unfold maxLen;simp
  ·split
   ·unfold maxLen;simp
   ·simp;omega
theorem D9 (s:ByteArray)(w:World)(hs:s.size<=maxLen):
  Calls Tryz.prog 242 #[.string s] w fun e w'=>e=.returned (.tuple #[.int .u8 ((zR s).toNat:Int),.string (pT s)])∧(pT s).size<=maxLen∧Below w.heap.size w w':=by
 have C0:Hid _:=mo s w;have R0:Hid _:=Rd.made s hs w;have bl:Hid (Below w.heap.size w (w.alloc (.cells #[.string s,.int .i64 0] 180))):=(Below.refl _ _).alloc (Nat.le_refl _) _;have hK:=F6 s;have hk:(zR s).toNat<256:=UInt8.toNat_lt _;unfold pT;generalize(zR s).toNat=K at*;go_enter Tryz.func242,Tryz.ntmps242
 go_wp2_with fail
 refine Calls.mono C0.out ?_;rintro e w0 ⟨rfl,h0⟩;rw[<-h0]at R0 bl;clear h0 C0;have C1:Hid (Calls Tryz.prog 109 #[.pointer (some ⟨w.heap.size,0,none⟩),.int .i64 8] w0 fun r w'=>r=.returned (.string (F4 s).1)∧Rd w.heap.size (F4 s).2.1 (F4 s).2.2 w'∧Only w.heap.size w0 w'):=gP w.heap.size s 0 8 w0 R0.out
 go_wp2_with fail
 refine Calls.mono C1.out ?_;rintro e w1 ⟨rfl,r1,o1⟩;have R1:Hid (Rd w.heap.size (F4 s).2.1 (F4 s).2.2 w1):=r1;have O1:Hid (Only w.heap.size w0 w1):=o1;clear r1 o1 C1;have C2:Hid (Calls Tryz.prog 81 #[.pointer (some ⟨w.heap.size,0,none⟩),.int .i64 1] w1 fun r w'=>r=.returned (.int .i64 (BJ s).1)∧Rd w.heap.size (BJ s).2.1 (BJ s).2.2 w'∧Only w.heap.size w1 w'):=jm w.heap.size _ _ 1 w1 R1.out;rw[hK]at C2
 go_wp2_with fail
 refine Calls.mono C2.out ?_;rintro e w2 ⟨rfl,r2,o2⟩;have R2:Hid (Rd w.heap.size (BJ s).2.1 (BJ s).2.2 w2):=r2;have O2:Hid (Only w.heap.size w0 w2):=O1.out.trans o2;clear r2 o2 C2;have C3:Hid (Calls Tryz.prog 109 #[.pointer (some ⟨w.heap.size,0,none⟩),.int .i64 1] w2 fun r w'=>r=.returned (.string (Lc s).1)∧Rd w.heap.size (Lc s).2.1 (Lc s).2.2 w'∧Only w.heap.size w2 w'):=gP w.heap.size _ _ 1 w2 R2.out
 go_wp2_with fail
 refine Calls.mono C3.out ?_;rintro e w3 ⟨rfl,r3,o3⟩;have R3:Hid (Rd w.heap.size (Lc s).2.1 (Lc s).2.2 w3):=r3;have O3:Hid (Only w.heap.size w0 w3):=O2.out.trans o3;clear r3 o3 C3;have C4:Hid (Calls Tryz.prog 81 #[.pointer (some ⟨w.heap.size,0,none⟩),.int .i64 2] w3 fun r w'=>r=.returned (.int .i64 (F5 s).1)∧Rd w.heap.size (F5 s).2.1 (F5 s).2.2 w'∧Only w.heap.size w3 w'):=jm w.heap.size _ _ 2 w3 R3.out
 go_wp2_with fail
 refine Calls.mono C4.out ?_;rintro e w4 ⟨rfl,r4,o4⟩;have R4:Hid (Rd w.heap.size (F5 s).2.1 (F5 s).2.2 w4):=r4;have O4:Hid (Only w.heap.size w0 w4):=O3.out.trans o4;clear r4 o4 C4;have C5:Hid (Calls Tryz.prog 109 #[.pointer (some ⟨w.heap.size,0,none⟩),.int .i64 4] w4 fun r w'=>r=.returned (.string (Ld s).1)∧Rd w.heap.size (Ld s).2.1 (Ld s).2.2 w'∧Only w.heap.size w4 w'):=gP w.heap.size _ _ 4 w4 R4.out
 go_wp2_with fail
 refine Calls.mono C5.out ?_;rintro e w5 ⟨rfl,r5,o5⟩;have R5:Hid (Rd w.heap.size (Ld s).2.1 (Ld s).2.2 w5):=r5;have O5:Hid (Only w.heap.size w0 w5):=O4.out.trans o5;clear r5 o5 C5;have C6:Hid (Calls Tryz.prog 109 #[.pointer (some ⟨w.heap.size,0,none⟩),.int .i64 (F5 s).1] w5 fun r w'=>r=.returned (.string (PU s).1)∧Rd w.heap.size (PU s).2.1 (PU s).2.2 w'∧Only w.heap.size w5 w'):=gP w.heap.size _ _ _ w5 R5.out;have Z:Hid ((PU s).1.size<=maxLen):=tL _ _ _ R5.out.sz
 go_wp2_with fail
 refine Calls.mono C6.out ?_;rintro e w6 ⟨rfl,r6,o6⟩;have O6:Hid (Only w.heap.size w0 w6):=O5.out.trans o6;clear r6 o6 C6;go_wp2;go_ret2;exact⟨rfl,Z.out,bl.out.trans (O6.out.below (Nat.le_refl _))⟩
theorem Gc (id:Int)(s:ByteArray)(w:World)(T:uv w)(hs:s.size<=maxLen):
  Calls Tryz.prog 218 #[.int .i64 id,.string s] w fun e w'=>e=.returned (.tuple #[.int .u8 ((opn id s.data.toList).1.toNat:Int),.string ⟨(opn id s.data.toList).2.1.toArray⟩,.int .i64 (opn id s.data.toList).2.2])∧Below w.heap.size w w':=by
 have PS:Hid (uv w):=T;have C0:Hid _:=D9 s w hs;have EO:Hid _:=D7 id s;clear T;have SE:Hid (∀w1,uv w1->(pT s).size<=maxLen->Calls Tryz.prog 243 #[.int .i64 id,.int .u8 ((zR s).toNat:Int),.string (pT s)] w1 fun e w'=>e=.returned (.tuple #[.string ⟨(iL id (zR s) (pT s).data.toList).toArray⟩,.int .i64 (fD id (pT s).size)])∧Below w1.heap.size w1 w'):=fun w1 h1 h2=>Ga id (zR s) (pT s) w1 h1 h2;generalize(⟨(iL id (zR s) (pT s).data.toList).toArray⟩:ByteArray)=A at*;generalize fD id (pT s).size=E at*;generalize hO:opn id s.data.toList=O at*;have hb:pT s=⟨(pT s).data.toList.toArray⟩:=rfl;by_cases h1:E=0
 ·subst h1;by_cases h2:A=s
  ·subst h2;have T4:Hid ((zR A,(pT A).data.toList,(0:Int))=O):=by
    have:=EO.out
    rwa [if_pos ⟨rfl,rfl⟩]at this
   clear EO;go_enter Tryz.func218,Tryz.ntmps218
   go_wp2_with fail
   refine Calls.mono C0.out ?_;rintro e w1 ⟨rfl,z1,b1⟩;have B1:Hid (Below w.heap.size w w1):=b1;have C1:Hid _:=SE.out w1 (PS.out.below b1) z1;clear b1 C0 SE z1
   go_wp2_with fail
   refine Calls.mono C1.out ?_;rintro e w2 ⟨rfl,b2⟩;have B2:Hid (Below w.heap.size w w2):=B1.out.trans (b2.mono B1.out.size);clear b2 C1;go_wp2
   go_ret3
   rw[<-T4.out];exact⟨rfl,B2.out⟩
  ·have T4:Hid (((0:UInt8),([]:List UInt8),(3:Int))=O):=by
    have:=EO.out
    rwa [if_neg (fun c=>h2 c.2)]at this
   have hne:=PV h2;clear EO;go_enter Tryz.func218,Tryz.ntmps218
   go_wp2_with fail
   refine Calls.mono C0.out ?_;rintro e w1 ⟨rfl,z1,b1⟩;have B1:Hid (Below w.heap.size w w1):=b1;have C1:Hid _:=SE.out w1 (PS.out.below b1) z1;clear b1 C0 SE z1
   go_wp2_with fail
   refine Calls.mono C1.out ?_;rintro e w2 ⟨rfl,b2⟩;have B2:Hid (Below w.heap.size w w2):=B1.out.trans (b2.mono B1.out.size);clear b2 C1;go_wp2
   go_ret3
   rw[<-T4.out];exact⟨rfl,B2.out⟩
 ·have T4:Hid (((0:UInt8),([]:List UInt8),(3:Int))=O):=by
   have:=EO.out
   rwa [if_neg (fun c=>h1 c.1)]at this
  have hne:(E != 0)=true:=by rw[bne_iff_ne];exact h1
  clear EO h1;go_enter Tryz.func218,Tryz.ntmps218
  go_wp2_with fail
  refine Calls.mono C0.out ?_;rintro e w1 ⟨rfl,z1,b1⟩;have B1:Hid (Below w.heap.size w w1):=b1;have C1:Hid _:=SE.out w1 (PS.out.below b1) z1;clear b1 C0 SE z1
  go_wp2_with fail
  refine Calls.mono C1.out ?_;rintro e w2 ⟨rfl,b2⟩;have B2:Hid (Below w.heap.size w w2):=B1.out.trans (b2.mono B1.out.size);clear b2 C1;go_wp2
  go_ret3
  rw[<-T4.out];exact⟨rfl,B2.out⟩
end
section
open Go.RowKit
end
section
open Go.RowKit
theorem Lg {id:Int}{s:List UInt8}(h:(opn id s).2.2≠0):opn id s=(0,[],3):=by
 rcases nQ id s with⟨k,b,_,_,h3⟩| ⟨_,h3⟩
 ·rw[h3]at h;exact absurd rfl h
 ·exact h3
end
section
open Go.RowKit
end
end
section
open Go.RowKit Go.WideShapes
def tab:List Int:=[0,498536548,997073096,651767980,1994146192,1802195444,1303535960,1342533948,3988292384,4027552580,3604390888,3412177804,2607071920,2262029012,2685067896,3183342108]
theorem Gd:∀n,n<16->tab.getD n 0=((jq n:Nat):Int):=by decide
theorem laidOut:laidOutB Tryz.prog=true:=by kernel_rfl
theorem BK:Tryz.prog.globalNamed "rootstock/crc.halves" =some 1:=by kernel_rfl
theorem Lh:(Tryz.prog.globals[1]?).map (·.type)=some 330:=by kernel_rfl
theorem Li {w:World}{p:Addr}{v:Value}(h:w.cell? p=some v):p.block<w.heap.size:=by
 unfold World.cell? at h;by_cases hb:p.block<w.heap.size
 ·exact hb
 ·rw[Array.getElem?_eq_none (by omega)]at h;simp at h
theorem tab_of_laid {W:World}(h:laidMetH Tryz.prog [("rootstock/crc.halves",Rows.laid_rootstock_crc_halves)] W):uv W:=by
 rw[MakeChecks.laidMetH_plain _ _ _ (by kernel_rfl)]at h;have hT:Lib.TabIs Tryz.prog W "rootstock/crc.halves" .u32 tab:=
  Lib.tabIs_of_head BK Lh Tryz.underlying330 Tryz.underlying206 (by kernel_rfl) (by kernel_rfl) (rest:=[]) h
 have hc:∀i,i<16->W.cell? ⟨1,i,none⟩=some (.int .u32 ((jq i:Nat):Int)):=fun i hi=>by
  rw[<-Gd i hi];exact hT.cell BK i hi
 exact⟨Li (hc 0 (by decide)),hc⟩
theorem door_met (os:Os)(args:Array Value):laidMetH Tryz.prog [("rootstock/crc.halves",Rows.laid_rootstock_crc_halves)] ((World.doorLaid Tryz.prog 400 os).forCall (fun _ _=>0) ⟨#[],args,[]⟩).memory:=
 laidMetH_of_parts3 (fuel:=8) (laidMet_of_run' 8 (by kernel_rfl) (by kernel_rfl)) (by kernel_rfl) (by kernel_rfl)
end
end Go.Proofs.YtdcpfbidcpfboaaGreatDoor
