/- Walks of the package cowtree and of what it stands on: lemmas, made short. -/
import Derived.Shelf.Strings.OnBuilder
import Derived.Shelf.Strings.Repeat
import Derived.Ground.NamesProg
import Derived.Shelf.SlGeneric
import Derived.Shelf.SlicesG.Cmp
import Derived.Shelf.SlicesQ.IndexFunc
import Derived.Shelf.Spec.SlicesGrow
import Derived.Ground.SlgcProg
import Derived.Ground.SlgfProg
import Derived.Ground.Names8Prog
import Derived.Shelf.Small.Strs
import Derived.Shelf.SlicesE.Clone
import Derived.Ground.SlgnProg
import Derived.Test.YtcenfooehjcddaaGreatDoorProg
import Derived.Test.YtcenfooehjcddaaGreatDoorRows
import Derived.WalkKit
import Derived.WalkSpells
import Derived.WalkLawsBesides
import Derived.Laws.BitsAllLaws
import Derived.Test.YtcenfooehjcddaaGreatDoorChecked
import Derived.Below
import Derived.LoopTactic
import Derived.Lib.LaidTab
import Derived.LaidMore
import Derived.MakeChecks
import Derived.OwnWalk
import Derived.Deep.QuietTactic
import Derived.Sort.Statements
import Derived.Lib.Small
import Derived.Shelf.SlSortCmp.KitK
import Derived.Shelf.SlSortCmp.QuietGrown
import Derived.Lib.SliceRun
import Derived.Laws.AppendOwnNone
import Derived.Deep.RegionHeld3
import Derived.BigQuiet
import Derived.Deep.DeepCutAuto
set_option maxHeartbeats 16000000
set_option maxRecDepth 100000
set_option linter.unusedVariables false
set_option linter.unusedSimpArgs false
section
namespace Go.Proofs
open Go.Shelf
def Tryz.pB:Go.Shelf.Ren:=⟨fun|156=>106|165=>82|166=>83|169=>85|240=>111|241=>112|276=>140|277=>141|n=>n,fun|31=>48|9=>9|3=>3|4=>4|0=>0|20=>20|72=>157|76=>161|70=>154|37=>155|75=>160|127=>199|164=>224|5=>5|80=>163|n=>n,fun|n=>n⟩
theorem Tryz.CY:Go.Proofs.Lays.n156 Tryz.prog Tryz.pB:={
 mixed:=by kernel_rfl
 f156:=Tryz.func106.trans (congrArg some (by kernel_rfl))
 f165:=Tryz.func82.trans (congrArg some (by kernel_rfl))
 f166:=Tryz.func83.trans (congrArg some (by kernel_rfl))
 f169:=Tryz.func85.trans (congrArg some (by kernel_rfl))
 f240:=Tryz.func111.trans (congrArg some (by kernel_rfl))
 f241:=Tryz.func112.trans (congrArg some (by kernel_rfl))
 f276:=Tryz.func140.trans (congrArg some (by kernel_rfl))
 f277:=Tryz.func141.trans (congrArg some (by kernel_rfl))
 t0:=Tryz.underlying0
 a0:=Tryz.isAgg0
 z0:=Tryz.sizeOf0
 v0:=Tryz.zeroValue0
 t3:=Tryz.underlying3
 a3:=Tryz.isAgg3
 z3:=Tryz.sizeOf3
 v3:=Tryz.zeroValue3
 t4:=Tryz.underlying4
 a4:=Tryz.isAgg4
 z4:=Tryz.sizeOf4
 v4:=Tryz.zeroValue4
 t9:=Tryz.underlying9
 a9:=Tryz.isAgg9
 z9:=Tryz.sizeOf9
 v9:=Tryz.zeroValue9
 t20:=Tryz.underlying20
 a20:=Tryz.isAgg20
 z20:=Tryz.sizeOf20
 v20:=Tryz.zeroValue20
 t31:=Tryz.underlying48
 a31:=Tryz.isAgg48
 z31:=Tryz.sizeOf48
 v31:=Tryz.zeroValue48
 t37:=Tryz.underlying155
 a37:=Tryz.isAgg155
 z37:=Tryz.sizeOf155
 v37:=Tryz.zeroValue155
 t70:=Tryz.underlying154
 a70:=Tryz.isAgg154
 z70:=Tryz.sizeOf154
 v70:=Tryz.zeroValue154
 t72:=Tryz.underlying157
 a72:=Tryz.isAgg157
 z72:=Tryz.sizeOf157
 v72:=Tryz.zeroValue157
 t75:=Tryz.underlying160
 a75:=Tryz.isAgg160
 z75:=Tryz.sizeOf160
 v75:=Tryz.zeroValue160
 t76:=Tryz.underlying161
 a76:=Tryz.isAgg161
 z76:=Tryz.sizeOf161
 v76:=Tryz.zeroValue161
 t127:=Tryz.underlying199
 a127:=Tryz.isAgg199
 z127:=Tryz.sizeOf199
 v127:=Tryz.zeroValue199
 t164:=Tryz.underlying224
 a164:=Tryz.isAgg224
 z164:=Tryz.sizeOf224
 v164:=Tryz.zeroValue224}
theorem Tryz.iA:Builder.Extra Tryz.prog Tryz.pB:={
 sizeBuilder:=by kernel_rfl
 liesBuilder:=by kernel_rfl
 t5:=Tryz.underlying5
 a5:=Tryz.isAgg5
 z5:=Tryz.sizeOf5
 v5:=Tryz.zeroValue5
 infoByte:=by kernel_rfl
 cellsByte:=by kernel_rfl
 sizeByte:=by kernel_rfl
 neB5:=by decide}
open Go.RowKit in
theorem Tryz.strings_Join_none (a:Option Addr)(c:Nat)(sep:ByteArray)(w:World):
 Calls Tryz.prog 106 #[.slice a 0 c,.string sep] w fun e w'=>e=.returned (.string ⟨#[]⟩)∧w'=w:=Any.strings_Join_none Tryz.CY Tryz.iA a c sep w
open Go.RowKit in
theorem Tryz.strings_Join (bk o c:Nat)(xs:List ByteArray)(sep:ByteArray)(w:World)(hcells:∀(j:Nat) x,xs[j]? =some x->w.cell? ⟨bk,o+j,none⟩=some (.string x))(hbk:bk<w.heap.size)(hN:xs.length<=140737488355328)(hcap:xs.length<=c)(hlen:(Lib.join (xs.map (·.data.toList)) sep.data.toList).length<=140737488355328):
 Calls Tryz.prog 106 #[.slice (some ⟨bk,o,none⟩) xs.length c,.string sep] w fun e w'=>e=.returned (.string ⟨(Lib.join (xs.map (·.data.toList)) sep.data.toList).toArray⟩)∧Below w.heap.size w w':=Any.strings_Join Tryz.CY Tryz.iA bk o c xs sep w hcells hbk hN hcap hlen
def Tryz.pC:Go.Shelf.Ren:=⟨fun|105=>57|212=>80|99=>81|165=>82|166=>83|170=>84|169=>85|263=>108|264=>109|206=>110|240=>111|241=>112|276=>140|277=>141|n=>n,fun|9=>9|3=>3|4=>4|20=>20|0=>0|46=>151|109=>152|5=>5|72=>157|76=>161|51=>193|146=>194|53=>196|148=>197|70=>154|37=>155|75=>160|127=>199|164=>224|80=>163|n=>n,fun|n=>n⟩
theorem Tryz.Mg:Go.Proofs.Lays.n105 Tryz.prog Tryz.pC:={
 mixed:=by kernel_rfl
 f99:=Tryz.func81.trans (congrArg some (by kernel_rfl))
 f105:=Tryz.func57.trans (congrArg some (by kernel_rfl))
 f165:=Tryz.func82.trans (congrArg some (by kernel_rfl))
 f166:=Tryz.func83.trans (congrArg some (by kernel_rfl))
 f169:=Tryz.func85.trans (congrArg some (by kernel_rfl))
 f170:=Tryz.func84.trans (congrArg some (by kernel_rfl))
 f206:=Tryz.func110.trans (congrArg some (by kernel_rfl))
 f212:=Tryz.func80.trans (congrArg some (by kernel_rfl))
 f240:=Tryz.func111.trans (congrArg some (by kernel_rfl))
 f241:=Tryz.func112.trans (congrArg some (by kernel_rfl))
 f263:=Tryz.func108.trans (congrArg some (by kernel_rfl))
 f264:=Tryz.func109.trans (congrArg some (by kernel_rfl))
 f276:=Tryz.func140.trans (congrArg some (by kernel_rfl))
 f277:=Tryz.func141.trans (congrArg some (by kernel_rfl))
 t0:=Tryz.underlying0
 a0:=Tryz.isAgg0
 z0:=Tryz.sizeOf0
 v0:=Tryz.zeroValue0
 t3:=Tryz.underlying3
 a3:=Tryz.isAgg3
 z3:=Tryz.sizeOf3
 v3:=Tryz.zeroValue3
 t4:=Tryz.underlying4
 a4:=Tryz.isAgg4
 z4:=Tryz.sizeOf4
 v4:=Tryz.zeroValue4
 t5:=Tryz.underlying5
 a5:=Tryz.isAgg5
 z5:=Tryz.sizeOf5
 v5:=Tryz.zeroValue5
 t9:=Tryz.underlying9
 a9:=Tryz.isAgg9
 z9:=Tryz.sizeOf9
 v9:=Tryz.zeroValue9
 t20:=Tryz.underlying20
 a20:=Tryz.isAgg20
 z20:=Tryz.sizeOf20
 v20:=Tryz.zeroValue20
 t37:=Tryz.underlying155
 a37:=Tryz.isAgg155
 z37:=Tryz.sizeOf155
 v37:=Tryz.zeroValue155
 t46:=Tryz.underlying151
 a46:=Tryz.isAgg151
 z46:=Tryz.sizeOf151
 v46:=Tryz.zeroValue151
 t51:=Tryz.underlying193
 a51:=Tryz.isAgg193
 z51:=Tryz.sizeOf193
 v51:=Tryz.zeroValue193
 t53:=Tryz.underlying196
 a53:=Tryz.isAgg196
 z53:=Tryz.sizeOf196
 v53:=Tryz.zeroValue196
 t70:=Tryz.underlying154
 a70:=Tryz.isAgg154
 z70:=Tryz.sizeOf154
 v70:=Tryz.zeroValue154
 t72:=Tryz.underlying157
 a72:=Tryz.isAgg157
 z72:=Tryz.sizeOf157
 v72:=Tryz.zeroValue157
 t75:=Tryz.underlying160
 a75:=Tryz.isAgg160
 z75:=Tryz.sizeOf160
 v75:=Tryz.zeroValue160
 t76:=Tryz.underlying161
 a76:=Tryz.isAgg161
 z76:=Tryz.sizeOf161
 v76:=Tryz.zeroValue161
 t109:=Tryz.underlying152
 a109:=Tryz.isAgg152
 z109:=Tryz.sizeOf152
 v109:=Tryz.zeroValue152
 t127:=Tryz.underlying199
 a127:=Tryz.isAgg199
 z127:=Tryz.sizeOf199
 v127:=Tryz.zeroValue199
 t146:=Tryz.underlying194
 a146:=Tryz.isAgg194
 z146:=Tryz.sizeOf194
 v146:=Tryz.zeroValue194
 t148:=Tryz.underlying197
 a148:=Tryz.isAgg197
 z148:=Tryz.sizeOf197
 v148:=Tryz.zeroValue197
 t164:=Tryz.underlying224
 a164:=Tryz.isAgg224
 z164:=Tryz.sizeOf224
 v164:=Tryz.zeroValue224}
theorem Tryz.mJ:Builder.Extra Tryz.prog Tryz.pC:={
 sizeBuilder:=by kernel_rfl
 liesBuilder:=by kernel_rfl
 t5:=Tryz.underlying5
 a5:=Tryz.isAgg5
 z5:=Tryz.sizeOf5
 v5:=Tryz.zeroValue5
 infoByte:=by kernel_rfl
 cellsByte:=by kernel_rfl
 sizeByte:=by kernel_rfl
 neB5:=by decide}
open Go.RowKit in
theorem Tryz.strings_Repeat (s:ByteArray)(c:Nat)(w:World)(hc:c<=9223372036854775807)(hlen:s.size*c<=140737488355328):
 Calls Tryz.prog 57 #[.string s,.int .i64 c] w fun e w'=>e=.returned (.string ⟨(Lib.repeatL s.data.toList c).toArray⟩)∧Below w.heap.size w w':=Any.strings_Repeat Tryz.Mg Tryz.mJ s c w hc hlen
def Tryz.A4:Go.Shelf.Ren:=⟨fun|5=>139|7=>175|n=>n,fun|22=>3|3=>3|4=>4|n=>n,fun|n=>n⟩
theorem Tryz.Rk:Go.Proofs.SlLaysC2.n5 Tryz.prog Tryz.A4:={
 mixed:=by kernel_rfl
 f5:=⟨Tryz.f139.name,by decide,Tryz.func139.trans (congrArg some (by kernel_rfl))⟩
 f7:=⟨Tryz.f175.name,by decide,Tryz.func175.trans (congrArg some (by kernel_rfl))⟩
 t3:=Tryz.underlying3
 a3:=Tryz.isAgg3
 z3:=Tryz.sizeOf3
 v3:=Tryz.zeroValue3
 t4:=Tryz.underlying4
 a4:=Tryz.isAgg4
 z4:=Tryz.sizeOf4
 v4:=Tryz.zeroValue4
 t22:=Tryz.underlying3
 a22:=Tryz.isAgg3
 z22:=Tryz.sizeOf3
 v22:=Tryz.zeroValue3}
def Tryz.pS:Go.Shelf.Ren:=⟨fun|8=>203|6=>227|n=>n,fun|22=>108|23=>112|25=>282|4=>4|3=>3|0=>0|n=>n,fun|n=>n⟩
theorem Tryz.yH:Go.Proofs.SlLaysH0.n8 Tryz.prog Tryz.pS:={
 mixed:=by kernel_rfl
 f6:=⟨Tryz.f227.name,by decide,Tryz.func227.trans (congrArg some (by kernel_rfl))⟩
 f8:=⟨Tryz.f203.name,by decide,Tryz.func203.trans (congrArg some (by kernel_rfl))⟩
 t0:=Tryz.underlying0
 a0:=Tryz.isAgg0
 z0:=Tryz.sizeOf0
 v0:=Tryz.zeroValue0
 t3:=Tryz.underlying3
 a3:=Tryz.isAgg3
 z3:=Tryz.sizeOf3
 v3:=Tryz.zeroValue3
 t4:=Tryz.underlying4
 a4:=Tryz.isAgg4
 z4:=Tryz.sizeOf4
 v4:=Tryz.zeroValue4
 t22:=Tryz.underlying108
 a22:=Tryz.isAgg108
 z22:=Tryz.sizeOf108
 v22:=Tryz.zeroValue108
 t25:=Tryz.underlying282
 a25:=Tryz.isAgg282
 z25:=Tryz.sizeOf282
 v25:=Tryz.zeroValue282}
def Tryz.gJ:Go.Shelf.Ren:=⟨fun|4=>221|n=>n,fun|22=>108|25=>112|3=>3|4=>4|9=>9|20=>20|0=>0|2=>3|n=>n,fun|n=>n⟩
theorem Tryz.Da:Go.Proofs.Lays8.n4 Tryz.prog Tryz.gJ:={
 mixed:=by kernel_rfl
 f4:=⟨Tryz.f221.name,by decide,Tryz.func221.trans (congrArg some (by kernel_rfl))⟩
 t0:=Tryz.underlying0
 a0:=Tryz.isAgg0
 z0:=Tryz.sizeOf0
 v0:=Tryz.zeroValue0
 t3:=Tryz.underlying3
 a3:=Tryz.isAgg3
 z3:=Tryz.sizeOf3
 v3:=Tryz.zeroValue3
 t4:=Tryz.underlying4
 a4:=Tryz.isAgg4
 z4:=Tryz.sizeOf4
 v4:=Tryz.zeroValue4
 t9:=Tryz.underlying9
 a9:=Tryz.isAgg9
 z9:=Tryz.sizeOf9
 v9:=Tryz.zeroValue9
 t20:=Tryz.underlying20
 a20:=Tryz.isAgg20
 z20:=Tryz.sizeOf20
 v20:=Tryz.zeroValue20
 t22:=Tryz.underlying108
 a22:=Tryz.isAgg108
 z22:=Tryz.sizeOf108
 v22:=Tryz.zeroValue108}
def Tryz.rF:Go.Shelf.Ren:=⟨fun|41=>69|n=>n,fun|22=>49|23=>96|4=>4|n=>n,fun|n=>n⟩
theorem Tryz.rG:Go.Proofs.SlLaysE0.n41 Tryz.prog Tryz.rF:={
 mixed:=by kernel_rfl
 f41:=⟨Tryz.f69.name,by decide,Tryz.func69.trans (congrArg some (by kernel_rfl))⟩
 t4:=Tryz.underlying4
 a4:=Tryz.isAgg4
 z4:=Tryz.sizeOf4
 v4:=Tryz.zeroValue4
 t22:=Tryz.underlying49
 a22:=Tryz.isAgg49
 z22:=Tryz.sizeOf49
 v22:=Tryz.zeroValue49}
def Tryz.yI:Go.Shelf.Ren:=⟨fun|106=>100|213=>133|265=>168|n=>n,fun|9=>9|3=>3|n=>n,fun|n=>n⟩
theorem Tryz.Mh:Go.Proofs.Lays.n106 Tryz.prog Tryz.yI:={
 mixed:=by kernel_rfl
 f106:=Tryz.func100.trans (congrArg some (by kernel_rfl))
 f213:=Tryz.func133.trans (congrArg some (by kernel_rfl))
 f265:=Tryz.func168.trans (congrArg some (by kernel_rfl))
 t3:=Tryz.underlying3
 a3:=Tryz.isAgg3
 z3:=Tryz.sizeOf3
 v3:=Tryz.zeroValue3
 t9:=Tryz.underlying9
 a9:=Tryz.isAgg9
 z9:=Tryz.sizeOf9
 v9:=Tryz.zeroValue9}
end Go.Proofs
end
namespace Go.Proofs.YtcenfooehjcddaaGreatDoor
section
section
def beNat (l:List UInt8):Nat:=l.foldl (fun a c=>a*256+c.toNat) 0
def beBytes:Nat->Nat->List UInt8
 |0,_=>[]
 |k+1,n=>beBytes k (n/256)++[UInt8.ofNat (n%256)]
theorem jr (l:List UInt8)(c:UInt8):beNat (l++[c])=beNat l*256+c.toNat:=by simp[beNat]
theorem beBytes_length (k:Nat):∀n,(beBytes k n).length=k:=by
 induction k with
 |zero=>intro n;rfl
 |succ k ih=>intro n;simp[beBytes,ih]
theorem Db {α:Type}(l:List α)(k:Nat)(h:l.length=k+1):∃a c,l=a++[c]∧a.length=k:=by
 have hne:l≠[]:=by intro e;subst e;simp at h
 refine⟨l.dropLast,l.getLast hne,(List.dropLast_concat_getLast hne).symm,by simp[h]⟩
theorem wG (k:Nat):∀l:List UInt8,l.length=k->beNat l<256^k:=by
 induction k with
 |zero=>intro l h;rw[List.length_eq_zero_iff.1 h];decide
 |succ k ih=>
  intro l h;obtain⟨a,c,rfl,ha⟩:=Db l k h;have h1:=ih a ha;have h2:c.toNat<256:=UInt8.toNat_lt c;rw[jr,Nat.pow_succ];omega
theorem mK (l:List UInt8):beNat l<256^l.length:=wG _ l rfl
theorem dJ (k:Nat):∀n,n<256^k->beNat (beBytes k n)=n:=by
 induction k with
 |zero=>intro n h;simp at h;subst h;rfl
 |succ k ih=>
  intro n h;rw[beBytes,jr,ih (n/256) (by rw[Nat.pow_succ]at h;omega)];have:(UInt8.ofNat (n%256)).toNat=n%256:=by simp
  omega
theorem jR (k:Nat):∀l:List UInt8,l.length=k->beBytes k (beNat l)=l:=by
 induction k with
 |zero=>intro l h;rw[List.length_eq_zero_iff.1 h];rfl
 |succ k ih=>
  intro l h;obtain⟨a,c,rfl,ha⟩:=Db l k h;have h2:c.toNat<256:=UInt8.toNat_lt c;rw[jr,beBytes];have e1:(beNat a*256+c.toNat)/256=beNat a:=by omega
  have e2:(beNat a*256+c.toNat)%256=c.toNat:=by omega
  rw[e1,e2,ih a ha];simp
theorem A5 (l:List UInt8)(k:Nat)(h:k<l.length):beNat (l.take (k+1))=beNat (l.take k)*256+(l[k]).toNat:=by
 rw[List.take_succ_eq_append_getElem h,jr]
theorem uy (l:List UInt8)(k:Nat)(h:k<4):beNat (l.take k)<16777216:=by
 have h1:=mK (l.take k);have h2:(l.take k).length<=3:=by simp;omega
 have h3:256^(l.take k).length<=256^3:=Nat.pow_le_pow_right (by omega) h2;have h4:(256:Nat)^3=16777216:=by decide
 omega
end
section
open Go.RowKit
def bQ (n:Int):Bool:=decide (n=1∨n=2∨n=4)
structure Rd (b:Nat)(s:ByteArray)(e:Int)(w:World):Prop where
 blk:w.heap[b]? =some (.cells #[.string s,.int .i64 e] 228 (0,0))
 sz:s.size<=maxLen
structure Only (b:Nat)(w w':World):Prop where
 os:w'.os=w.os
 tape:w'.tape=w.tape
 output:w'.output=w.output
 size:w'.heap.size=w.heap.size
 block:∀k,k≠b->w'.heap[k]? =w.heap[k]?
theorem Only.refl (b:Nat)(w:World):Only b w w:=⟨rfl,rfl,rfl,rfl,fun _ _=>rfl⟩
theorem Only.trans {b:Nat}{u v w:World}(h:Only b u v)(k:Only b v w):Only b u w:=
 ⟨k.os.trans h.os,k.tape.trans h.tape,k.output.trans h.output,k.size.trans h.size,fun i hi=>(k.block i hi).trans (h.block i hi)⟩
theorem Only.setCell (b o:Nat)(w:World)(v:Value):Only b w (w.setCell ⟨b,o,none⟩ v):=
 ⟨rfl,rfl,rfl,by simp[World.setCell],fun k hk=>Below.heap_setCell _ _ _ _ hk⟩
theorem Only.below {B b:Nat}{w w':World}(h:Only b w w')(hB:B<=b):Below B w w':=
 ⟨h.os,h.tape,h.output,Nat.le_of_eq h.size.symm,fun k hk=>h.block k (by omega)⟩
theorem Rd.lt {b:Nat}{s:ByteArray}{e:Int}{w:World}(h:Rd b s e w):b<w.heap.size:=by
 have:=h.blk;rw[Array.getElem?_eq_some_iff]at this;exact this.1
theorem Rd.c0 {b:Nat}{s:ByteArray}{e:Int}{w:World}(h:Rd b s e w):w.cell? ⟨b,0,none⟩=some (.string s):=by simp[World.cell?,h.blk]
theorem Rd.c1 {b:Nat}{s:ByteArray}{e:Int}{w:World}(h:Rd b s e w):w.cell? ⟨b,1,none⟩=some (.int .i64 e):=by simp[World.cell?,h.blk]
theorem Rd.f0 {b:Nat}{s:ByteArray}{e:Int}{w:World}(h:Rd b s e w):w.frozen? ⟨b,0,none⟩=false:=by simp[World.frozen?,h.blk]
theorem Rd.f1 {b:Nat}{s:ByteArray}{e:Int}{w:World}(h:Rd b s e w):w.frozen? ⟨b,1,none⟩=false:=by simp[World.frozen?,h.blk]
theorem Rd.set0 {b:Nat}{s:ByteArray}{e:Int}{w:World}(h:Rd b s e w)(t:ByteArray)(ht:t.size<=maxLen):Rd b t e (w.setCell ⟨b,0,none⟩ (.string t)):=
 ⟨by simp[World.setCell,Array.getElem?_modify,h.blk],ht⟩
theorem Rd.set1 {b:Nat}{s:ByteArray}{e:Int}{w:World}(h:Rd b s e w)(n:Int):Rd b s n (w.setCell ⟨b,1,none⟩ (.int .i64 n)):=
 ⟨by simp[World.setCell,Array.getElem?_modify,h.blk],h.sz⟩
theorem Rd.below {b B:Nat}{s:ByteArray}{e:Int}{w w':World}(h:Rd b s e w)(k:Below B w w')(hb:b<B):Rd b s e w':=⟨(k.block b hb).trans h.blk,h.sz⟩
theorem Rd.made (s:ByteArray)(hs:s.size<=maxLen)(w:World):Rd w.heap.size s 0 (w.alloc (.cells #[.string s,.int .i64 0] 228)):=
 ⟨by show(w.heap.push _)[w.heap.size]? =_;simp,hs⟩
theorem iP {a b:Bool}(h:a=b):Ending.returned (.bool a)=.returned (.bool b):=by rw[h]
theorem gW {k:IntKind}{a b:Int}(h:a=b):Ending.returned (.int k a)=.returned (.int k b):=by rw[h]
theorem dx (n:Int)(w:World):
  Calls Tryz.prog 105 #[.int .i64 n] w fun e w'=>e=.returned (.bool (bQ n))∧w=w':=by
 by_cases h1:n=1
 ·subst h1;go_enter Tryz.func105,Tryz.ntmps105;go_wp2;go_ret;exact⟨rfl,rfl⟩
 ·by_cases h2:n=2
  ·subst h2;go_enter Tryz.func105,Tryz.ntmps105;go_wp2;go_ret;exact⟨rfl,rfl⟩
  ·by_cases h4:n=4
   ·subst h4;go_enter Tryz.func105,Tryz.ntmps105;go_wp2;go_ret;exact⟨rfl,rfl⟩
   ·have e1:(n==1)=false:=beq_eq_false_iff_ne.2 h1;have e2:(n==2)=false:=beq_eq_false_iff_ne.2 h2;have e4:(n==4)=false:=beq_eq_false_iff_ne.2 h4;have hs:bQ n=false:=by simp[bQ,h1,h2,h4]
    have HS:Hid (bQ n=false):=hs;clear hs h1 h2 h4;go_enter Tryz.func105,Tryz.ntmps105;go_wp2;go_ret;exact⟨iP HS.out.symm,rfl⟩
theorem jS (b:Nat)(s:ByteArray)(e:Int)(w:World)(h:Rd b s e w):
  Calls Tryz.prog 145 #[.pointer (some ⟨b,0,none⟩)] w fun r w'=>r=.returned (.int .i64 s.size)∧w=w':=by
 have c0:=h.c0;have c1:=h.c1;have f0:=h.f0;have f1:=h.f1;have lt:=h.lt;clear h;go_enter Tryz.func145,Tryz.ntmps145;go_wp2;go_ret;exact⟨rfl,rfl⟩
theorem mL (b:Nat)(s:ByteArray)(e:Int)(w:World)(h:Rd b s e w):
  Calls Tryz.prog 144 #[.pointer (some ⟨b,0,none⟩)] w fun r w'=>r=.returned (.int .i64 e)∧w=w':=by
 have c0:=h.c0;have c1:=h.c1;have f0:=h.f0;have f1:=h.f1;have lt:=h.lt;clear h;go_enter Tryz.func144,Tryz.ntmps144;go_wp2;go_ret;exact⟨rfl,rfl⟩
theorem mM (s:ByteArray)(w:World):
  Calls Tryz.prog 114 #[.string s] w fun r w'=>r=.returned (.pointer (some ⟨w.heap.size,0,none⟩))∧w'=w.alloc (.cells #[.string s,.int .i64 0] 228):=by
 go_enter Tryz.func114,Tryz.ntmps114;go_wp2;go_ret;exact⟨rfl,rfl⟩
theorem wH (b:Nat)(s:ByteArray)(n:Int)(w:World)(h:Rd b s 0 w):
  Calls Tryz.prog 142 #[.pointer (some ⟨b,0,none⟩),.int .i64 n] w fun r w'=>r=.returned (.tuple #[])∧w'=w.setCell ⟨b,1,none⟩ (.int .i64 n):=by
 have c0:=h.c0;have c1:=h.c1;have f0:=h.f0;have f1:=h.f1;have lt:=h.lt;clear h;go_enter Tryz.func142,Tryz.ntmps142;go_wp2
 go_end0
 exact⟨rfl,rfl⟩
theorem Mi (b:Nat)(s:ByteArray)(e n:Int)(w:World)(h:Rd b s e w)(he:e≠0):
  Calls Tryz.prog 142 #[.pointer (some ⟨b,0,none⟩),.int .i64 n] w fun r w'=>r=.returned (.tuple #[])∧w=w':=by
 have c0:=h.c0;have c1:=h.c1;have f0:=h.f0;have f1:=h.f1;have lt:=h.lt;clear h;have e1:(e==0)=false:=beq_eq_false_iff_ne.2 he;clear he;go_enter Tryz.func142,Tryz.ntmps142;go_wp2
 go_end0
 exact⟨rfl,rfl⟩
def aN (s:ByteArray)(e n:Int):ByteArray×ByteArray×Int:=
 if e≠0 then(ByteArray.empty,s,e)else if n<0 then(ByteArray.empty,s,1)else if(s.size:Int)<n then(ByteArray.empty,s,10)else(s.extract 0 n.toNat,s.extract n.toNat s.size,0)
theorem gZ (b:Nat)(s:ByteArray)(e n:Int)(w:World)(h:Rd b s e w):
  Calls Tryz.prog 143 #[.pointer (some ⟨b,0,none⟩),.int .i64 n] w fun r w'=>r=.returned (.string (aN s e n).1)∧Rd b (aN s e n).2.1 (aN s e n).2.2 w'∧Only b w w':=by
 have c0:=h.c0;have c1:=h.c1;have f0:=h.f0;have f1:=h.f1;have lt:=h.lt;have sz:=h.sz;have H:Hid (Rd b s e w):=h;clear h;by_cases he:e=0
 ·subst he;by_cases hn:n<0
  ·have E:Hid (aN s 0 n=(ByteArray.empty,s,1)):=by simp[Hid,aN,hn]
   go_enter Tryz.func143,Tryz.ntmps143
   go_wp2_with (go_at_call 142;refine(wH b s _ _ H.out).mono ?_;rintro e w' ⟨rfl,rfl⟩)
   go_ret;rw[E.out];exact⟨rfl,H.out.set1 _,Only.setCell _ _ _ _⟩
  ·by_cases hl:(s.size:Int)<n
   ·have E:Hid (aN s 0 n=(ByteArray.empty,s,10)):=by simp[Hid,aN,hn,hl]
    go_enter Tryz.func143,Tryz.ntmps143
    go_wp2_with (go_at_call 142;refine(wH b s _ _ H.out).mono ?_;rintro e w' ⟨rfl,rfl⟩)
    go_ret;rw[E.out];exact⟨rfl,H.out.set1 _,Only.setCell _ _ _ _⟩
   ·have E:Hid (aN s 0 n=(s.extract 0 n.toNat,s.extract n.toNat s.size,0)):=by simp[Hid,aN,hn,hl]
    obtain⟨m,rfl⟩:=Int.eq_ofNat_of_zero_le (Int.not_lt.1 hn);have hm:m<=s.size:=by omega
    go_enter Tryz.func143,Tryz.ntmps143;go_wp2;go_ret;rw[E.out];refine⟨?_,?_,?_⟩
    ·rfl
    ·exact H.out.set0 _ (by simp;omega)
    ·exact Only.setCell _ _ _ _
 ·have E:Hid (aN s e n=(ByteArray.empty,s,e)):=by simp[Hid,aN,he]
  have e1:(e != 0)=true:=by rw[bne_iff_ne];exact he
  clear he;go_enter Tryz.func143,Tryz.ntmps143;go_wp2;go_ret;rw[E.out];exact⟨rfl,H.out,Only.refl _ _⟩
end
section
open Go.RowKit
theorem A6 (a b:Nat)(ha:a<4611686018427387904)(hb:b<4611686018427387904):bits .or .i64 (a:Int) (b:Int)=((a|||b:Nat):Int):=by
 have hx:a|||b<2^62:=Nat.or_lt_two_pow (by omega) (by omega)
 show IntKind.i64.wrap ((BitVec.ofInt 64 (a:Int)|||BitVec.ofInt 64 (b:Int)).toNat:Int)=_;rw[BitVec.toNat_or,ofInt_u64 a (by omega),ofInt_u64 b (by omega),IntKind.wrap_i64];omega
theorem Mj (m c:Nat)(hm:m<16777216)(hc:c<256):Value.int .i64 (bits .or .i64 ((m:Int)*256) (wrap64 (c:Int)))=.int .i64 ((m*256+c:Nat):Int):=by
 have e1:wrap64 (c:Int)=(c:Int):=by unfold wrap64;omega
 have e2:((m:Int)*256)=((m*256:Nat):Int):=by omega
 rw[e1,e2,A6 _ _ (by omega) (by omega),nat_join 8 _ _ (by omega) (by omega)]
def eI (s:ByteArray)(e:Int):Int:=if e≠0 then e else if s.size=0 then 0 else 11
theorem mN (b:Nat)(s:ByteArray)(e:Int)(w:World)(h:Rd b s e w):
  Calls Tryz.prog 116 #[.pointer (some ⟨b,0,none⟩)] w fun r w'=>r=.returned (.int .i64 (eI s e))∧w=w':=by
 have H:Hid (Rd b s e w):=h;have sz:=h.sz;clear h;by_cases he:e=0
 ·subst he;by_cases hs:s.size=0
  ·have E:Hid (eI s 0=0):=by simp[Hid,eI,hs]
   have hs':¬(0:Int)< (s.size:Int):=by omega
   clear hs;go_enter Tryz.func116,Tryz.ntmps116
   go_wp2_with (first| (go_at_call 144;refine(mL b s _ _ H.out).mono ?_;rintro e w' ⟨rfl,rfl⟩)| (go_at_call 145;refine(jS b s _ _ H.out).mono ?_;rintro e w' ⟨rfl,rfl⟩))
   go_ret;exact⟨gW E.out.symm,rfl⟩
  ·have E:Hid (eI s 0=11):=by simp[Hid,eI,hs]
   have hs':(0:Int)< (s.size:Int):=by omega
   clear hs;go_enter Tryz.func116,Tryz.ntmps116
   go_wp2_with (first| (go_at_call 144;refine(mL b s _ _ H.out).mono ?_;rintro e w' ⟨rfl,rfl⟩)| (go_at_call 145;refine(jS b s _ _ H.out).mono ?_;rintro e w' ⟨rfl,rfl⟩))
   go_ret;exact⟨gW E.out.symm,rfl⟩
 ·have E:Hid (eI s e=e):=by simp[Hid,eI,he]
  have e1:(e != 0)=true:=by rw[bne_iff_ne];exact he
  clear he;go_enter Tryz.func116,Tryz.ntmps116
  go_wp2_with (first| (go_at_call 144;refine(mL b s _ _ H.out).mono ?_;rintro e w' ⟨rfl,rfl⟩)| (go_at_call 145;refine(jS b s _ _ H.out).mono ?_;rintro e w' ⟨rfl,rfl⟩))
  go_ret;exact⟨gW E.out.symm,rfl⟩
def bh (s:ByteArray)(e n:Int):Int×ByteArray×Int:=
 if bQ n=false then(0,s,if e≠0 then e else 1)else((beNat (aN s e n).1.data.toList:Int),(aN s e n).2.1,(aN s e n).2.2)
theorem yJ (s:ByteArray)(e n:Int)(h:bQ n=true):(aN s e n).1.size<=4:=by
 have:n=1∨n=2∨n=4:=by simpa[bQ]using h
 unfold aN;split
 ·simp
 ·split
  ·simp
  ·split
   ·simp
   ·simp;omega
theorem js (b:Nat)(s:ByteArray)(e n:Int)(w:World)(h:Rd b s e w):
  Calls Tryz.prog 115 #[.pointer (some ⟨b,0,none⟩),.int .i64 n] w fun r w'=>r=.returned (.int .i64 (bh s e n).1)∧Rd b (bh s e n).2.1 (bh s e n).2.2 w'∧Only b w w':=by
 have H:Hid (Rd b s e w):=h;have sz:=h.sz;clear h;cases hz:bQ n
 ·by_cases he:e=0
  ·subst he;have E:Hid (bh s 0 n=(0,s,1)):=by simp[Hid,bh,hz]
   go_enter Tryz.func115,Tryz.ntmps115
   go_wp2_with (first| (go_at_call 105;refine(dx _ _).mono ?_;rintro e w' ⟨rfl,rfl⟩)| (go_at_call 142;refine(wH b s _ _ H.out).mono ?_;rintro e w' ⟨rfl,rfl⟩))
   go_ret;rw[E.out];exact⟨rfl,H.out.set1 _,Only.setCell _ _ _ _⟩
  ·have E:Hid (bh s e n=(0,s,e)):=by simp[Hid,bh,hz,he]
   go_enter Tryz.func115,Tryz.ntmps115
   go_wp2_with (first| (go_at_call 105;refine(dx _ _).mono ?_;rintro e w' ⟨rfl,rfl⟩)| (go_at_call 142;refine(Mi b s _ _ _ H.out he).mono ?_;rintro e w' ⟨rfl,rfl⟩))
   go_ret;rw[E.out];exact⟨rfl,H.out,Only.refl _ _⟩
 ·have E:Hid (bh s e n=((beNat (aN s e n).1.data.toList:Int),(aN s e n).2.1,(aN s e n).2.2)):=by simp[Hid,bh,hz]
  have h4:=yJ s e n hz;have C:=gZ b s e n w H.out
  revert C E h4
  generalize aN s e n=t;obtain⟨x,s',e'⟩:=t;intro E h4 C0;have C:Hid _:=C0;clear C0;simp only at h4;go_enter Tryz.func115,Tryz.ntmps115
  go_wp2_with (first| (go_at_call 105;refine(dx _ _).mono ?_;rintro e w' ⟨rfl,rfl⟩)| (go_at_call 143;refine Calls.mono C.out ?_;rintro e w' ⟨rfl,hr,ho⟩))
  go_loop [6,18] (fun v i=>∃k:Nat,k<=x.size∧i=.int .i64 k∧v=.int .i64 (beNat (x.data.toList.take k))) (fun _ i=>x.size- (intOf i).toNat)
  case atStart=>exact⟨0,Nat.zero_le _,rfl,rfl⟩
  case round=>
   obtain⟨k,hk,rfl,rfl⟩:=hrel;by_cases hlt:k<x.size
   ·have T:Hid (beNat (x.data.toList.take (k+1))=beNat (x.data.toList.take k)*256+x[k].toNat):=A5 x.data.toList k (by simpa using hlt);have B:=uy x.data.toList k (by omega);go_wp2;have C8:x[k].toNat<256:=UInt8.toNat_lt _;refine⟨⟨k+1,by omega,by go_num,?_⟩,by simp[intOf];omega⟩;rw[T.out,Mj _ _ B C8]
   ·have T:Hid (x.data.toList.take k=x.data.toList):=List.take_of_length_le (by simp;omega);go_wp2;go_ret;rw[E.out];exact⟨gW (by rw[T.out]),hr,ho⟩
end
section
open Go.RowKit
def fN (size n:Int):Bool:=bQ size&&decide (0<=n∧n< ((256^size.toNat:Nat):Int))
def ij (size n:Int):List UInt8:=if fN size n=true then beBytes size.toNat n.toNat else []
def jt (size n:Int):Int:=if fN size n=true then 0 else 1
theorem Hf (size n:Int)(w:World)(h:bQ size=false):
  Calls Tryz.prog 75 #[.int .i64 size,.int .i64 n] w fun r w'=>r=.returned (.tuple #[.string ⟨#[]⟩,.int .i64 1])∧w=w':=by
 go_enter Tryz.func75,Tryz.ntmps75
 go_wp2_with (go_at_call 105;refine(dx _ _).mono ?_;rintro e w' ⟨rfl,rfl⟩)
 go_ret2;exact⟨rfl,rfl⟩
theorem Mk (size n:Int)(w:World)(h:bQ size=true)(hn:n<0):
  Calls Tryz.prog 75 #[.int .i64 size,.int .i64 n] w fun r w'=>r=.returned (.tuple #[.string ⟨#[]⟩,.int .i64 1])∧w=w':=by
 go_enter Tryz.func75,Tryz.ntmps75
 go_wp2_with (go_at_call 105;refine(dx _ _).mono ?_;rintro e w' ⟨rfl,rfl⟩)
 go_ret2;exact⟨rfl,rfl⟩
theorem Hg (n:Int)(w:World)(hn:¬n<0)(hb:(n/256 != 0)=true):
  Calls Tryz.prog 75 #[.int .i64 1,.int .i64 n] w fun r w'=>r=.returned (.tuple #[.string ⟨#[]⟩,.int .i64 1])∧w=w':=by
 have h:bQ 1=true:=rfl;go_enter Tryz.func75,Tryz.ntmps75
 go_wp2_with (go_at_call 105;refine(dx _ _).mono ?_;rintro e w' ⟨rfl,rfl⟩)
 go_ret2;exact⟨rfl,rfl⟩
theorem Hh (n:Int)(w:World)(hn:¬n<0)(hb:(n/65536 != 0)=true):
  Calls Tryz.prog 75 #[.int .i64 2,.int .i64 n] w fun r w'=>r=.returned (.tuple #[.string ⟨#[]⟩,.int .i64 1])∧w=w':=by
 have h:bQ 2=true:=rfl;go_enter Tryz.func75,Tryz.ntmps75
 go_wp2_with (go_at_call 105;refine(dx _ _).mono ?_;rintro e w' ⟨rfl,rfl⟩)
 go_ret2;exact⟨rfl,rfl⟩
theorem Hi (n:Int)(w:World)(hn:¬n<0)(hb:(n/4294967296 != 0)=true):
  Calls Tryz.prog 75 #[.int .i64 4,.int .i64 n] w fun r w'=>r=.returned (.tuple #[.string ⟨#[]⟩,.int .i64 1])∧w=w':=by
 have h:bQ 4=true:=rfl;go_enter Tryz.func75,Tryz.ntmps75
 go_wp2_with (go_at_call 105;refine(dx _ _).mono ?_;rintro e w' ⟨rfl,rfl⟩)
 go_ret2;exact⟨rfl,rfl⟩
theorem rH (l:List UInt8)(cs:Array Value)(w:World)(m c:Nat)(hcs:cs=(l.map fun b=>Value.int .u8 (b.toNat:Int)).toArray)(hm:m=l.length):
  Sem.run Tryz.prog (convert 155 9 (.slice (some ⟨w.heap.size,0,none⟩) m c)) (w.alloc (.cells cs 5))=.ok (.string ⟨l.toArray⟩) (w.alloc (.cells cs 5)):=by
 subst hm;refine run_convert_bytes_back _ 155 9 5 _ c l Tryz.underlying155 Tryz.underlying5 Tryz.underlying9 (fun j hj=>?_);have e:(⟨w.heap.size,0,none⟩:Addr).add j=⟨w.heap.size,j,none⟩:=by simp[Addr.add];intro h;omega
 rw[e,World.cell?_alloc_at cs 5 _ j rfl,hcs];simp[List.getElem?_eq_getElem hj]
theorem Vm (n:Nat)(w:World)(hn:n<256):
  Calls Tryz.prog 75 #[.int .i64 1,.int .i64 n] w fun r w'=>r=.returned (.tuple #[.string ⟨(beBytes 1 n).toArray⟩,.int .i64 0])∧Below w.heap.size w w':=by
 have h:bQ 1=true:=rfl;have hb:(((n:Int)/256) != 0)=false:=by simp;omega
 have hn0:¬(n:Int)<0:=by omega
 have hmk:∀w,(Instr.makeSlice 155 (.int .i64 1) (.int .i64 1)).run Tryz.prog w=.ok (.slice (some ⟨w.heap.size,0,none⟩) 1 1) (w.alloc (.cells #[.int .u8 0] 5)):=fun _=>by kernel_rfl
 have hcv:=rH (beBytes 1 n) #[.int .u8 (n:Int)] w 1 1 (by simp[beBytes];omega) (beBytes_length _ _).symm;go_enter Tryz.func75,Tryz.ntmps75
 go_wp2_with (go_at_call 105;refine(dx _ _).mono ?_;rintro e w' ⟨rfl,rfl⟩)
 refine wp_loop_rounds 2 ?_
 repeat any_goals (rw[rounds_succ];go_wp2)
 go_ret2;exact⟨rfl,(Below.refl _ _).alloc (Nat.le_refl _) _⟩
theorem Vn (n:Nat)(w:World)(hn:n<65536):
  Calls Tryz.prog 75 #[.int .i64 2,.int .i64 n] w fun r w'=>r=.returned (.tuple #[.string ⟨(beBytes 2 n).toArray⟩,.int .i64 0])∧Below w.heap.size w w':=by
 have h:bQ 2=true:=rfl;have hb:(((n:Int)/65536) != 0)=false:=by simp;omega
 have hn0:¬(n:Int)<0:=by omega
 have hmk:∀w,(Instr.makeSlice 155 (.int .i64 2) (.int .i64 2)).run Tryz.prog w=.ok (.slice (some ⟨w.heap.size,0,none⟩) 2 2) (w.alloc (.cells #[.int .u8 0,.int .u8 0] 5)):=fun _=>by kernel_rfl
 have hcv:=rH (beBytes 2 n) #[.int .u8 ((n:Int)/256),.int .u8 ((n:Int)%256)] w 2 2 (by simp[beBytes];omega) (beBytes_length _ _).symm;go_enter Tryz.func75,Tryz.ntmps75
 go_wp2_with (go_at_call 105;refine(dx _ _).mono ?_;rintro e w' ⟨rfl,rfl⟩)
 refine wp_loop_rounds 3 ?_
 repeat any_goals (rw[rounds_succ];go_wp2)
 go_ret2;exact⟨rfl,(Below.refl _ _).alloc (Nat.le_refl _) _⟩
theorem Rl (n:Nat)(w:World)(hn:n<4294967296):
  Calls Tryz.prog 75 #[.int .i64 4,.int .i64 n] w fun r w'=>r=.returned (.tuple #[.string ⟨(beBytes 4 n).toArray⟩,.int .i64 0])∧Below w.heap.size w w':=by
 have h:bQ 4=true:=rfl;have hb:(((n:Int)/4294967296) != 0)=false:=by simp;omega
 have hn0:¬(n:Int)<0:=by omega
 have hmk:∀w,(Instr.makeSlice 155 (.int .i64 4) (.int .i64 4)).run Tryz.prog w=.ok (.slice (some ⟨w.heap.size,0,none⟩) 4 4) (w.alloc (.cells #[.int .u8 0,.int .u8 0,.int .u8 0,.int .u8 0] 5)):=fun _=>by kernel_rfl
 have hcv:=rH (beBytes 4 n) #[.int .u8 ((n:Int)/16777216),.int .u8 ((n:Int)/65536%256),.int .u8 ((n:Int)/256%256),.int .u8 ((n:Int)%256)] w 4 4 (by simp[beBytes];omega) (beBytes_length _ _).symm;go_enter Tryz.func75,Tryz.ntmps75
 go_wp2_with (go_at_call 105;refine(dx _ _).mono ?_;rintro e w' ⟨rfl,rfl⟩)
 refine wp_loop_rounds 5 ?_
 repeat any_goals (rw[rounds_succ];go_wp2)
 go_ret2;exact⟨rfl,(Below.refl _ _).alloc (Nat.le_refl _) _⟩
theorem rI {size n:Int}{r:Ending}{w w':World}(hp:fN size n=false)(h:r=.returned (.tuple #[.string ⟨#[]⟩,.int .i64 1])∧w=w'):
  r=.returned (.tuple #[.string ⟨(ij size n).toArray⟩,.int .i64 (jt size n)])∧Below w.heap.size w w':=by
 obtain⟨rfl,rfl⟩:=h;simp[ij,jt,hp,Below.refl]
theorem wI {size n:Int}{r:Ending}{w w':World}(k m:Nat)(hk:size=k)(hm:n=m)(hp:fN size n=true)(h:r=.returned (.tuple #[.string ⟨(beBytes k m).toArray⟩,.int .i64 0])∧Below w.heap.size w w'):
  r=.returned (.tuple #[.string ⟨(ij size n).toArray⟩,.int .i64 (jt size n)])∧Below w.heap.size w w':=by
 obtain⟨rfl,hb⟩:=h;subst hk hm;simp[ij,jt,hp,hb]
theorem ju (size n:Int)(w:World):
  Calls Tryz.prog 75 #[.int .i64 size,.int .i64 n] w fun r w'=>r=.returned (.tuple #[.string ⟨(ij size n).toArray⟩,.int .i64 (jt size n)])∧Below w.heap.size w w':=by
 cases hz:bQ size
 ·exact(Hf size n w hz).mono fun r w' h=>rI (by simp[fN,hz]) h
 ·by_cases hn:n<0
  ·exact(Mk size n w hz hn).mono fun r w' h=>rI (by simp[fN];intro _ _;omega) h
  ·obtain⟨m,rfl⟩:=Int.eq_ofNat_of_zero_le (Int.not_lt.1 hn);have hs:size=1∨size=2∨size=4:=by simpa[bQ]using hz
   rcases hs with rfl|rfl|rfl
   ·by_cases hb:m<256
    ·exact(Vm m w hb).mono fun r w' h=>wI 1 m rfl rfl (by simp[fN,hz];omega) h
    ·exact(Hg m w hn (by rw[bne_iff_ne];omega)).mono fun r w' h=>rI (by simp[fN];omega) h
   ·by_cases hb:m<65536
    ·exact(Vn m w hb).mono fun r w' h=>wI 2 m rfl rfl (by simp[fN,hz];omega) h
    ·exact(Hh m w hn (by rw[bne_iff_ne];omega)).mono fun r w' h=>rI (by simp[fN];omega) h
   ·by_cases hb:m<4294967296
    ·exact(Rl m w hb).mono fun r w' h=>wI 4 m rfl rfl (by simp[fN,hz];omega) h
    ·exact(Hi m w hn (by rw[bne_iff_ne];omega)).mono fun r w' h=>rI (by simp[fN];omega) h
end
section
open Go.RowKit
def cat (xs:List ByteArray):List UInt8:=(xs.map (·.data.toList)).flatten
theorem yK (xs:List ByteArray):Lib.join (xs.map (·.data.toList)) (ByteArray.data ⟨#[]⟩).toList=cat xs:=by
 cases xs with
 |nil=>rfl
 |cons x r=>
  rw[List.map_cons,Lib.join_cons];simp[cat,Lib.joinTail];rfl
theorem rJ (bk o c m:Nat)(xs:List ByteArray)(w:World)(hcells:∀(j:Nat) x,xs[j]? =some x->w.cell? ⟨bk,o+j,none⟩=some (.string x))(hbk:bk<w.heap.size)(hm:xs.length=m)(hN:xs.length<=140737488355328)(hcap:xs.length<=c)(hlen:(cat xs).length<=140737488355328):
  Calls Tryz.prog 76 #[.slice (some ⟨bk,o,none⟩) m c] w fun r w'=>r=.returned (.string ⟨(cat xs).toArray⟩)∧Below w.heap.size w w':=by
 subst hm;have C:Hid _:=Tryz.strings_Join bk o c xs ⟨#[]⟩ w hcells hbk hN hcap (by rw[yK];exact hlen);rw[yK]at C;clear hcells hlen;go_enter Tryz.func76,Tryz.ntmps76
 go_wp2_with (go_at_call 106;refine Calls.mono C.out ?_;rintro e w' ⟨rfl,hb⟩)
 go_ret;exact⟨rfl,hb⟩
theorem join_none (a:Option Addr)(c:Nat)(w:World):
  Calls Tryz.prog 76 #[.slice a 0 c] w fun r w'=>r=.returned (.string ⟨#[]⟩)∧w=w':=by
 go_enter Tryz.func76,Tryz.ntmps76
 go_wp2_with (go_at_call 106;refine(Tryz.strings_Join_none a c _ w).mono ?_;rintro e w' ⟨rfl,rfl⟩)
 go_ret;exact⟨rfl,rfl⟩
theorem Qh (x y:ByteArray)(w:World)(hl:x.size+y.size<=140737488355328):
  Calls Tryz.prog 76 #[.slice (some ⟨w.heap.size,0,none⟩) 2 2] (w.alloc (.cells #[.string x,.string y] 9)) fun r w'=>r=.returned (.string ⟨(x.data.toList++y.data.toList).toArray⟩)∧Below w.heap.size w w':=by
 have hc:cat [x,y]=x.data.toList++y.data.toList:=by simp[cat]
 have h:=rJ w.heap.size 0 2 2 [x,y] (w.alloc (.cells #[.string x,.string y] 9)) (fun j z hj=>?_) (by simp) rfl (by simp) (by simp) (by rw[hc];simpa using hl)
 ·rw[hc]at h;exact h.mono fun r w' ⟨a,b⟩=>⟨a,((Below.refl _ _).alloc (Nat.le_refl _) _).trans (b.mono (by simp))⟩
 ·rw[World.cell?_alloc_at _ 9 _ (0+j) rfl,Nat.zero_add]
  match j,hj with
  |0,hj=>simp at hj⊢;exact hj
  |1,hj=>simp at hj⊢;exact hj
end
section
open Go.RowKit
theorem Rm (s:ByteArray):s=⟨s.data.toList.toArray⟩:=by cases s;simp
theorem fu (l:List UInt8):(⟨l.toArray⟩:ByteArray).size=l.length:=by simp[ByteArray.size]
theorem jT {s t:ByteArray}(h:s.data.toList=t.data.toList):s=t:=ByteArray.ext (Array.toList_inj.1 h)
theorem Dc (l r:List UInt8):(⟨(l++r).toArray⟩:ByteArray).extract 0 l.length=⟨l.toArray⟩:=by
 apply jT;rw[Lib.extract_data];simp
theorem Ml (l r:List UInt8):(⟨(l++r).toArray⟩:ByteArray).extract l.length (l.length+r.length)=⟨r.toArray⟩:=by
 apply jT;rw[Lib.extract_data];simp
theorem eK (l r:List UInt8)(n:Int)(h:n=l.length):aN ⟨(l++r).toArray⟩ 0 n=(⟨l.toArray⟩,⟨r.toArray⟩,0):=by
 subst h;have h1:¬(l.length:Int)<0:=by omega
 have h2:¬(((⟨(l++r).toArray⟩:ByteArray).size:Int)<l.length):=by rw[fu,List.length_append];omega
 have h3:(⟨(l++r).toArray⟩:ByteArray).size=l.length+r.length:=by rw[fu,List.length_append]
 unfold aN;rw[if_neg (by simp),if_neg h1,if_neg h2,Int.toNat_natCast,h3,Dc,Ml]
theorem fH (l r:List UInt8)(n:Int)(h:n=l.length)(hz:bQ n=true):bh ⟨(l++r).toArray⟩ 0 n=((beNat l:Int),⟨r.toArray⟩,0):=by
 unfold bh;rw[eK l r n h];simp[hz]
theorem pD (s:ByteArray)(e n:Int)(h:(aN s e n).2.2=0):
  e=0∧∃l r:List UInt8,s=⟨(l++r).toArray⟩∧n=(l.length:Int)∧aN s e n=(⟨l.toArray⟩,⟨r.toArray⟩,0):=by
 by_cases he:e=0
 ·refine⟨he,?_⟩;subst he;by_cases h1:n<0
  ·simp[aN,h1]at h
  ·by_cases h2:(s.size:Int)<n
   ·simp[aN,h1,h2]at h
   ·obtain⟨k,rfl⟩:=Int.eq_ofNat_of_zero_le (Int.not_lt.1 h1);have hk:k<=s.data.toList.length:=by
     have:=Lib.size_eq s;omega
    have hl:(s.data.toList.take k).length=k:=by simp at hk⊢;omega
    have hs:s=⟨(s.data.toList.take k++s.data.toList.drop k).toArray⟩:=by rw[List.take_append_drop]
    refine⟨s.data.toList.take k,s.data.toList.drop k,hs,by rw[hl],?_⟩;have:=eK (s.data.toList.take k) (s.data.toList.drop k) (k:Int) (by rw[hl]);rw[<-hs]at this;exact this
 ·simp[aN,he]at h
theorem iQ (s:ByteArray)(e n:Int)(h:(bh s e n).2.2=0):
  e=0∧bQ n=true∧∃l r:List UInt8,s=⟨(l++r).toArray⟩∧n=(l.length:Int)∧bh s e n=((beNat l:Int),⟨r.toArray⟩,0):=by
 cases hz:bQ n
 ·exfalso;by_cases he:e=0<;>simp[bh,hz,he]at h
 ·have h':(aN s e n).2.2=0:=by simpa[bh,hz]using h
  obtain⟨he,l,r,hs,hn,_⟩:=pD s e n h';subst he;refine⟨rfl,rfl,l,r,hs,hn,?_⟩;rw[hs];exact fH l r n hn hz
end
section
open Go.RowKit
end
section
def pT (c:Nat):Nat:=if c%2=1 then c/2^^^3988292384 else c/2
def jv (c:Nat):Nat:=pT (pT (pT (pT c)))
def fF (c:Nat):Nat:=jv (jv c)
def ik (c b:Nat):Nat:=fF (c^^^b)
def mO (c:Nat)(l:List UInt8):Nat:=l.foldl (fun c b=>ik c b.toNat) c
def lM (l:List UInt8):Nat:=mO 4294967295 l^^^4294967295
theorem xor_left_comm (x y z:Nat):x^^^(y^^^z)=y^^^(x^^^z):=by
 rw[<-Nat.xor_assoc,Nat.xor_comm x y,Nat.xor_assoc]
theorem jU {x y:Nat}(hx:x<4294967296)(hy:y<4294967296):x^^^y<4294967296:=Nat.xor_lt_two_pow (n:=32) hx hy
theorem mP (x y:Nat):pT (x^^^y)=pT x^^^pT y:=by
 have hm:=@Nat.xor_mod_two_eq_one x y;have hd:=@Nat.xor_div_two x y;unfold pT;rw[hd];by_cases h1:x%2=1<;>by_cases h2:y%2=1
 ·rw[if_neg (by rw[hm];simp[h1,h2]),if_pos h1,if_pos h2];rw[Nat.xor_assoc,xor_left_comm 3988292384,Nat.xor_self,Nat.xor_zero]
 ·rw[if_pos (by rw[hm];simp[h1,h2]),if_pos h1,if_neg h2];rw[Nat.xor_assoc,Nat.xor_assoc,Nat.xor_comm (y/2)]
 ·rw[if_pos (by rw[hm];simp[h1,h2]),if_neg h1,if_pos h2];rw[Nat.xor_assoc]
 ·rw[if_neg (by rw[hm];simp[h1,h2]),if_neg h1,if_neg h2]
theorem kL (x:Nat):pT (2*x)=x:=by
 unfold pT;rw[if_neg (by omega)];omega
theorem qx {c:Nat}(h:c<4294967296):pT c<4294967296:=by
 unfold pT;split
 ·exact jU (by omega) (by decide)
 ·omega
theorem rK (x y:Nat):jv (x^^^y)=jv x^^^jv y:=by
 unfold jv;rw[mP,mP,mP,mP]
theorem ox (x:Nat):jv (16*x)=x:=by
 unfold jv;rw[show 16*x=2*(2*(2*(2*x))) by omega,kL,kL,kL,kL]
theorem qy {c:Nat}(h:c<4294967296):jv c<4294967296:=qx (qx (qx (qx h)))
theorem gK (x y:Nat):fF (x^^^y)=fF x^^^fF y:=by
 unfold fF;rw[rK,rK]
theorem hZ (x:Nat):fF (256*x)=x:=by
 unfold fF;rw[show 256*x=16*(16*x) by omega,ox,ox]
theorem Mm {c:Nat}(h:c<4294967296):fF c<4294967296:=qy (qy h)
theorem Mo {i b:Nat}(h:b<2^i)(a:Nat):2^i*a+b=2^i*a^^^b:=by
 apply Nat.eq_of_testBit_eq;intro j;rw[Nat.testBit_two_pow_mul_add _ h,Nat.testBit_xor,Nat.testBit_two_pow_mul];by_cases hj:j<i
 ·simp[hj,Nat.not_le.2 hj]
 ·have hb:b.testBit j=false:=Nat.testBit_lt_two_pow (Nat.lt_of_lt_of_le h (Nat.pow_le_pow_right (by decide) (by omega)));simp[hj,hb,Nat.le_of_not_lt hj]
theorem nib (c:Nat):c=(16*(c/16))^^^(c%16):=by
 have h:2^4*(c/16)+c%16=2^4*(c/16)^^^c%16:=Mo (Nat.mod_lt _ (by decide)) _;have h2:=Nat.div_add_mod c 16;simp only[Nat.reducePow]at h;omega
theorem E9 (c:Nat):c/16^^^jv (c%16)=jv c:=by
 conv=>rhs;rw[nib c,rK,ox]
theorem yL {c b:Nat}(hc:c<4294967296)(hb:b<256):ik c b<4294967296:=Mm (jU hc (by omega))
theorem uW (c:Nat)(l m:List UInt8):mO c (l++m)=mO (mO c l) m:=List.foldl_append
theorem Hj {c:Nat}(hc:c<4294967296)(l:List UInt8):mO c l<4294967296:=by
 induction l generalizing c with
 |nil=>exact hc
 |cons b l ih=>exact ih (yL hc b.toNat_lt)
theorem Mp (l:List UInt8):lM l<4294967296:=jU (Hj (by decide) l) (by decide)
theorem four (C x0 x1 x2 x3 a b c d:Nat):
  ik (ik (ik (ik C (x0^^^a)) (x1^^^b)) (x2^^^c)) (x3^^^d)
   =ik (ik (ik (ik C x0) x1) x2) x3^^^fF (fF (fF (fF (a^^^256*b^^^65536*c^^^16777216*d)))):=by
 have e1:fF (a^^^256*b^^^65536*c^^^16777216*d)=fF a^^^b^^^256*c^^^65536*d:=by
  rw[gK,gK,gK,hZ,show 65536*c=256*(256*c) by omega,hZ,show 16777216*d=256*(65536*d) by omega,hZ]
 have e2:fF (fF a^^^b^^^256*c^^^65536*d)=fF (fF a^^^b)^^^c^^^256*d:=by
  rw[gK,gK,hZ,show 65536*d=256*(256*d) by omega,hZ]
 have e3:fF (fF (fF a^^^b)^^^c^^^256*d)=fF (fF (fF a^^^b)^^^c)^^^d:=by
  rw[gK,hZ]
 rw[e1,e2,e3];unfold ik;have s (C x a D:Nat):fF ((C^^^D)^^^(x^^^a))=fF (C^^^x)^^^fF (D^^^a):=by
  rw[<-gK]
  congr 1
  rw[Nat.xor_assoc,Nat.xor_assoc,xor_left_comm D]
 have s0:fF (C^^^(x0^^^a))=fF (C^^^x0)^^^fF a:=by rw[<-Nat.xor_assoc,gK]
 rw[s0,s,s,s]
end
section
open Go.RowKit
structure uX (w:World):Prop where
 lt:1<w.heap.size
 cell:∀i,i<16->w.cell? ⟨1,i,none⟩=some (.int .u32 ((jv i:Nat):Int))
theorem uX.below {w w':World}(h:uX w)(hb:Below w.heap.size w w'):uX w':=
 ⟨Nat.lt_of_lt_of_le h.lt hb.size,fun i hi=>by rw[hb.cell h.lt];exact h.cell i hi⟩
theorem Vo (c:Nat)(h:c<4294967296):bits .and .u32 (c:Int) 15=((c%16:Nat):Int):=by
 have:=u32_and_nat c 15 h (by decide);rw[show((15:Nat):Int)=15 from rfl]at this;rw[this,Nat.and_two_pow_sub_one_eq_mod c 4]
theorem Hk (c:Nat)(h:c<4294967296):bits .xor .u32 ((c:Int)/16) ((jv (c%16):Nat):Int)=((jv c:Nat):Int):=by
 have:=u32_xor_nat (c/16) (jv (c%16)) (by omega) (qy (by omega));rw[E9]at this;exact this
theorem mQ (c:Nat)(hc:c<4294967296)(w:World)(h:uX w):
  Calls Tryz.prog 244 #[.int .u32 c] w fun r w'=>r=.returned (.int .u32 ((jv c:Nat):Int))∧w=w':=by
 have e1:=Vo c hc;have e2:=Hk c hc;have hcell:=h.cell (c%16) (Nat.mod_lt _ (by decide));go_enter Tryz.func244,Tryz.ntmps244;go_wp2;go_ret;exact⟨rfl,rfl⟩
theorem Hl (c b:Nat)(hc:c<4294967296)(hb:b<256)(w:World)(h:uX w):
  Calls Tryz.prog 243 #[.int .u32 c,.int .u8 b] w fun r w'=>r=.returned (.int .u32 ((ik c b:Nat):Int))∧w=w':=by
 have e1:=u32_xor_nat c b hc (by omega);have hx:c^^^b<4294967296:=jU hc (by omega);unfold ik fF;generalize c^^^b=x at*;have H1:Hid _:=mQ x hx w h;have H2:Hid _:=mQ (jv x) (qy hx) w h;clear h;go_enter Tryz.func243,Tryz.ntmps243
 go_wp2_with fail
 refine Calls.mono H1.out ?_;rintro e w' ⟨rfl,rfl⟩
 go_wp2_with fail
 refine Calls.mono H2.out ?_;rintro e w' ⟨rfl,rfl⟩;go_wp2;go_ret;exact⟨rfl,rfl⟩
end
section
open Go.RowKit
theorem Hm (xs:List ByteArray)(k:Nat)(h:k<xs.length):cat (xs.take (k+1))=cat (xs.take k)++(xs.getD k ByteArray.empty).data.toList:=by
 have e:xs.take (k+1)=xs.take k++[xs.getD k ByteArray.empty]:=by
  rw[List.take_succ_eq_append_getElem h,List.getD_eq_getElem?_getD,List.getElem?_eq_getElem h];rfl
 rw[e];unfold cat;rw[List.map_append,List.flatten_append];simp
structure A7 (w:World)(a:Option Addr)(len cap:Nat)(xs:List ByteArray):Prop where
 Hn:xs.length=len
 YI:len<=cap
 small:len<=maxLen
 sizes:∀k,k<len->(xs.getD k ByteArray.empty).size<=maxLen
 cells:∀k,k<len->∃b o,a=some ⟨b,o,none⟩∧b<w.heap.size∧w.cell? ⟨b,o+k,none⟩=some (.string (xs.getD k ByteArray.empty))
theorem A8 (c:Nat)(x:ByteArray)(i:Nat)(h:i<x.size):mO c (x.data.toList.take (i+1))=ik (mO c (x.data.toList.take i)) x[i].toNat:=by
 have h':i<x.data.toList.length:=by simpa using h
 rw[List.take_succ_eq_append_getElem h',uW];rfl
theorem Mq (a:Option Addr)(len cap:Nat)(xs:List ByteArray)(w:World)(h:uX w)(row:A7 w a len cap xs):
  Calls Tryz.prog 241 #[.slice a len cap] w fun r w'=>r=.returned (.int .i64 ((lM (cat xs):Nat):Int))∧w=w':=by
 have hm:=row.small;unfold maxLen at hm;have ROW:Hid (A7 w a len cap xs):=row;have Rn:Hid (uX w):=h;clear row h;go_enter Tryz.func241,Tryz.ntmps241;go_wp2
 go_loop [3,9] (fun c i=>∃(k C:Nat),k<=len∧i=.int .i64 k∧c=.int .u32 C∧C<4294967296∧Hid (C=mO 4294967295 (cat (xs.take k)))) (fun _ i=>len- (intOf i).toNat)
 case atStart=>exact⟨0,4294967295,Nat.zero_le _,rfl,rfl,by decide,rfl⟩
 case round=>
  obtain⟨k,C,hk,rfl,rfl,hC,eC⟩:=hrel;by_cases hlt:k<len
  ·obtain⟨bx,o,rfl,hbx,hc⟩:=ROW.out.cells k hlt;have hz:=ROW.out.sizes k hlt;unfold maxLen at hz;have eT:Hid (cat (xs.take (k+1))=cat (xs.take k)++(xs.getD k ByteArray.empty).data.toList):=Hm xs k (by rw[ROW.out.Hn];exact hlt);generalize xs.getD k ByteArray.empty=x at*;go_wp2
   go_loop [3,15] (fun c i=>∃(j D:Nat),j<=x.size∧i=.int .i64 j∧c=.int .u32 D∧D<4294967296∧Hid (D=mO C (x.data.toList.take j))) (fun _ i=>x.size- (intOf i).toNat)
   case atStart=>exact⟨0,C,Nat.zero_le _,rfl,rfl,hC,rfl⟩
   case round=>
    obtain⟨j,D,hj,rfl,rfl,hD,eD⟩:=hrel;by_cases hlj:j<x.size
    ·have T:Hid _:=A8 C x j hlj;have S:Hid _:=Hl D x[j].toNat hD (UInt8.toNat_lt _) w Rn.out;have hS:ik D x[j].toNat<4294967296:=yL hD (UInt8.toNat_lt _)
     go_wp2_with fail
     refine Calls.mono S.out ?_;rintro e w' ⟨rfl,rfl⟩;go_wp2;refine⟨⟨j+1,_,by omega,by go_num,rfl,hS,?_⟩,by simp[intOf];omega⟩;rw[Hid,T.out,<-eD.out]
    ·have T:Hid (x.data.toList.take j=x.data.toList):=List.take_of_length_le (by simp;omega);go_wp2;refine⟨⟨k+1,D,by omega,by go_num,rfl,hD,?_⟩,by simp[intOf];omega⟩;rw[Hid,eT.out,uW,<-eC.out,eD.out,T.out]
  ·have e1:bits .xor .u32 (C:Int) 4294967295=((C^^^4294967295:Nat):Int):=u32_xor_nat C 4294967295 hC (by decide);have e2:Hid (lM (cat xs)=C^^^4294967295):=by
    rw[Hid,lM,eC.out,List.take_of_length_le (by rw[ROW.out.Hn];omega)]
   have e3:C^^^4294967295<4294967296:=jU hC (by decide);generalize C^^^4294967295=S at*;go_wp2;go_ret;rw[e2.out];exact⟨rfl,rfl⟩
theorem Mr (xs:List ByteArray)(vs:Array Value)(w:World)(n:Nat)(hn:xs.length=n)(hv:vs=(xs.map Value.string).toArray)(hs:n<=8)(hz:∀x∈xs,x.size<=maxLen):
  A7 (w.alloc (.cells vs 9)) (some ⟨w.heap.size,0,none⟩) n n xs:=by
 subst hn hv;refine⟨rfl,Nat.le_refl _,by unfold maxLen;omega,fun k hk=>?_,fun k hk=>⟨_,_,rfl,by simp,?_⟩⟩
 ·rw[List.getD_eq_getElem?_getD,List.getElem?_eq_getElem hk];exact hz _ (List.getElem_mem hk)
 ·rw[World.cell?_alloc_at _ 9 _ (0+k) rfl,Nat.zero_add,List.getD_eq_getElem?_getD,List.getElem?_eq_getElem hk];simp[hk]
theorem Ms (xs:List ByteArray)(vs:Array Value)(w:World)(n:Nat)(h:uX w)(hn:xs.length=n)(hv:vs=(xs.map Value.string).toArray)(hs:n<=8)(hz:∀x∈xs,x.size<=maxLen):
  Calls Tryz.prog 241 #[.slice (some ⟨w.heap.size,0,none⟩) n n] (w.alloc (.cells vs 9)) fun r w'=>r=.returned (.int .i64 ((lM (cat xs):Nat):Int))∧w.alloc (.cells vs 9)=w':=
 Mq _ n n xs _ (h.below ((Below.refl _ _).alloc (Nat.le_refl _) _)) (Mr xs vs w n hn hv hs hz)
theorem YJ (x:ByteArray)(w:World)(h:uX w)(hx:x.size<=maxLen):
  Calls Tryz.prog 241 #[.slice (some ⟨w.heap.size,0,none⟩) 1 1] (w.alloc (.cells #[.string x] 9)) fun r w'=>r=.returned (.int .i64 ((lM x.data.toList:Nat):Int))∧w.alloc (.cells #[.string x] 9)=w':=by
 have:=Ms [x] #[.string x] w 1 h rfl rfl (by decide) (by simpa using hx);rw[show cat [x]=x.data.toList by simp[cat]]at this;exact this
end
section
open Go.RowKit Go.WideShapes
theorem own:ownKnob Tryz.prog.godebug=none:=by kernel_rfl
end
section
open Go.RowKit
end
section
open Go.RowKit
def fT (n:Nat)(k:UInt8)(b:List UInt8):List UInt8:=
 beBytes 4 n++([k]++([0]++(beBytes 2 b.length++(List.replicate 4 0++(b++List.replicate (240-b.length) 0)))))
def cP (n:Nat)(k:UInt8)(b:List UInt8):List UInt8:=beBytes 4 (lM (fT n k b))++fT n k b
theorem mR (n:Nat)(k:UInt8)(b:List UInt8)(h:b.length<=240):(fT n k b).length=252:=by
 simp[fT,beBytes_length];omega
theorem wJ (n:Nat)(k:UInt8)(b:List UInt8)(h:b.length<=240):(cP n k b).length=256:=by
 rw[cP,List.length_append,beBytes_length,mR n k b h]
def fI (id:Int)(n:Nat):Int:=if 240<n then 50 else if fN 4 id=true then 0 else 1
def iR (id:Int)(k:UInt8)(b:List UInt8):List UInt8:=if fI id b.length=0 then cP id.toNat k b else []
theorem Qi (id:Int):fN 4 id=true↔0<=id∧id<4294967296:=by simp[fN,bQ]
theorem jw {id:Int}{n:Nat}:fI id n=0↔n<=240∧0<=id∧id<4294967296:=by
 rw[<-Qi];unfold fI;by_cases h:240<n
 ·rw[if_pos h];constructor
  ·intro e;cases e
  ·intro e;omega
 ·rw[if_neg h];cases hp:fN 4 id
  ·simp
  ·simp;omega
def Vp (s:List UInt8):UInt8:=s.getD 8 0
def YK (s:List UInt8):Nat:=beNat ((s.drop 10).take 2)
def Ro (s:List UInt8):List UInt8:=(s.drop 16).take (YK s)
theorem Dd (a b:List UInt8)(k:Nat)(h:a.length=k):(a++b).drop k=b:=by subst h;simp
theorem De (a b:List UInt8)(k:Nat)(h:a.length=k):(a++b).take k=a:=by subst h;simp
theorem mS (n:Nat)(k:UInt8)(b:List UInt8):(cP n k b).drop 10=beBytes 2 b.length++(List.replicate 4 0++(b++List.replicate (240-b.length) 0)):=by
 have e:cP n k b=(beBytes 4 (lM (fT n k b))++(beBytes 4 n++([k]++[0])))++(beBytes 2 b.length++(List.replicate 4 0++(b++List.replicate (240-b.length) 0))):=by
  conv=>lhs;rw[cP]
  conv=>lhs;rhs;rw[fT]
  simp only[List.append_assoc]
 rw[e];exact Dd _ _ 10 (by simp[beBytes_length])
theorem Ho (n:Nat)(k:UInt8)(b:List UInt8)(h:b.length<=240):YK (cP n k b)=b.length:=by
 unfold YK;rw[mS,De _ _ 2 (beBytes_length _ _),dJ 2 _ (by omega)]
theorem yM (n:Nat)(k:UInt8)(b:List UInt8)(h:b.length<=240):Ro (cP n k b)=b:=by
 unfold Ro;rw[Ho n k b h,show 16=10+6 from rfl,<-List.drop_drop,mS,<-List.append_assoc,Dd _ _ 6 (by simp[beBytes_length]),De _ _ _ rfl]
theorem yN (n:Nat)(k:UInt8)(b:List UInt8):Vp (cP n k b)=k:=by
 have e:cP n k b=(beBytes 4 (lM (fT n k b))++beBytes 4 n)++(k::([0]++(beBytes 2 b.length++(List.replicate 4 0++(b++List.replicate (240-b.length) 0))))):=by
  conv=>lhs;rw[cP]
  conv=>lhs;rhs;rw[fT]
  simp only[List.append_assoc,List.cons_append,List.nil_append]
 unfold Vp;rw[e,List.getD_eq_getElem?_getD,List.getElem?_append_right (by simp[beBytes_length])];simp[beBytes_length]
def opn (id:Int)(s:List UInt8):UInt8×List UInt8×Int:=
 if fI id (Ro s).length=0∧s=cP id.toNat (Vp s) (Ro s)then(Vp s,Ro s,0)else(0,[],3)
theorem Hq (id:Int)(k:UInt8)(b:List UInt8)(h:fI id b.length=0):opn id (cP id.toNat k b)=(k,b,0):=by
 have hl:=(jw.1 h).1;unfold opn;rw[yM _ _ _ hl,yN,if_pos ⟨h,rfl⟩]
theorem oy (id:Int)(s:List UInt8):(∃k b,fI id b.length=0∧s=cP id.toNat k b∧opn id s=(k,b,0))∨((∀k b,fI id b.length=0->s≠cP id.toNat k b)∧opn id s=(0,[],3)):=by
 by_cases c:fI id (Ro s).length=0∧s=cP id.toNat (Vp s) (Ro s)
 ·exact .inl ⟨_,_,c.1,c.2,by rw[opn,if_pos c]⟩
 ·refine .inr ⟨fun k b h e=>c ?_,by rw[opn,if_neg c]⟩;subst e;have hl:=(jw.1 h).1;rw[yM _ _ _ hl,yN];exact⟨h,rfl⟩
def Hr (s:ByteArray):ByteArray×ByteArray×Int:=aN s 0 8
def Df (s:ByteArray):Int×ByteArray×Int:=bh (Hr s).2.1 (Hr s).2.2 1
def Mt (s:ByteArray):ByteArray×ByteArray×Int:=aN (Df s).2.1 (Df s).2.2 1
def Hs (s:ByteArray):Int×ByteArray×Int:=bh (Mt s).2.1 (Mt s).2.2 2
def Mu (s:ByteArray):ByteArray×ByteArray×Int:=aN (Hs s).2.1 (Hs s).2.2 4
def Rp (s:ByteArray):ByteArray×ByteArray×Int:=aN (Mu s).2.1 (Mu s).2.2 (Hs s).1
def AW (s:ByteArray):UInt8:=UInt8.ofNat (Df s).1.toNat
def qz (s:ByteArray):ByteArray:=(Rp s).1
theorem Ht (s:ByteArray):(Df s).1=((AW s).toNat:Int):=by
 have h:0<=(Df s).1∧(Df s).1<256:=by
  unfold Df bh;rw[if_neg (by decide)];generalize(Hr s).2.1=t;generalize(Hr s).2.2=e;have hl:(aN t e 1).1.size<=1:=by
   unfold aN;split
   ·simp
   ·split
    ·simp
    ·split
     ·simp
     ·simp;omega
  have h1:=mK (aN t e 1).1.data.toList;have h2:256^(aN t e 1).1.data.toList.length<=256^1:=Nat.pow_le_pow_right (by omega) (by simpa using hl);dsimp only;omega
 unfold AW;simp;omega
theorem Mv (n:Nat)(k:UInt8)(b:List UInt8)(h:b.length<=240):AW ⟨(cP n k b).toArray⟩=k∧qz ⟨(cP n k b).toArray⟩=⟨b.toArray⟩:=by
 have e:cP n k b=(beBytes 4 (lM (fT n k b))++beBytes 4 n)++([k]++([0]++(beBytes 2 b.length++(List.replicate 4 0++(b++List.replicate (240-b.length) 0))))):=by
  conv=>lhs;rw[cP]
  conv=>lhs;rhs;rw[fT]
  simp only[List.append_assoc]
 have e1:Hr ⟨(cP n k b).toArray⟩=(⟨(beBytes 4 (lM (fT n k b))++beBytes 4 n).toArray⟩,⟨([k]++([0]++(beBytes 2 b.length++(List.replicate 4 0++(b++List.replicate (240-b.length) 0))))).toArray⟩,0):=by
  rw[Hr,e];exact eK _ _ 8 (by simp[beBytes_length])
 have e2:Df ⟨(cP n k b).toArray⟩=((beNat [k]:Int),⟨([0]++(beBytes 2 b.length++(List.replicate 4 0++(b++List.replicate (240-b.length) 0)))).toArray⟩,0):=by
  rw[Df,e1];exact fH _ _ 1 rfl rfl
 have e3:Mt ⟨(cP n k b).toArray⟩=(⟨[0].toArray⟩,⟨(beBytes 2 b.length++(List.replicate 4 0++(b++List.replicate (240-b.length) 0))).toArray⟩,0):=by
  rw[Mt,e2];exact eK _ _ 1 rfl
 have e4:Hs ⟨(cP n k b).toArray⟩=((beNat (beBytes 2 b.length):Int),⟨(List.replicate 4 0++(b++List.replicate (240-b.length) 0)).toArray⟩,0):=by
  rw[Hs,e3];exact fH _ _ 2 (by rw[beBytes_length];rfl) rfl
 rw[dJ 2 _ (by omega)]at e4;have e5:Mu ⟨(cP n k b).toArray⟩=(⟨(List.replicate 4 0).toArray⟩,⟨(b++List.replicate (240-b.length) 0).toArray⟩,0):=by
  rw[Mu,e4];exact eK _ _ 4 rfl
 have e6:Rp ⟨(cP n k b).toArray⟩=(⟨b.toArray⟩,⟨(List.replicate (240-b.length) 0).toArray⟩,0):=by
  rw[Rp,e5,e4];exact eK _ _ _ rfl
 refine⟨?_,by rw[qz,e6]⟩;rw[AW,e2];simp[beNat]
theorem Fa (id:Int)(s:ByteArray):
    (if fI id (qz s).size=0∧(⟨(iR id (AW s) (qz s).data.toList).toArray⟩:ByteArray)=s then(AW s,(qz s).data.toList,(0:Int))else(0,[],3))=opn id s.data.toList:=by
  have hsz:(qz s).size=(qz s).data.toList.length:=by simp
  by_cases c:fI id (qz s).size=0∧(⟨(iR id (AW s) (qz s).data.toList).toArray⟩:ByteArray)=s
  · rw[if_pos c];have h0:fI id (qz s).data.toList.length=0:=by rw[<-hsz];exact c.1
    have hs:s.data.toList=cP id.toNat (AW s) (qz s).data.toList:=by
      have:=c.2;rw[iR,if_pos h0]at this
      conv=>lhs;rw[<-this]
    rw[hs,Hq _ _ _ h0]
  · rw[if_neg c];rcases oy id s.data.toList with⟨k,b,h1,h2,h3⟩| ⟨_,h⟩
    · exfalso;apply c;have e:s=⟨(cP id.toNat k b).toArray⟩:=by rw[<-h2]
      obtain⟨hk,hb⟩:=Mv id.toNat k b (jw.1 h1).1;rw[e,hk,hb];refine⟨by rw[fu];exact h1,?_⟩;rw[iR,if_pos (by simpa using h1)]
    · exact h.symm
end
section
open Go.RowKit
theorem yO (n:Nat):Lib.repeatL [0] n=List.replicate n (0:UInt8):=by
 have:=Lib.repeatL_replicate 0 1 n;simpa using this
theorem jV (n:Nat)(w:World)(hn:n<=1000):
  Calls Tryz.prog 240 #[.int .i64 n] w fun e w'=>e=.returned (.string ⟨(List.replicate n (0:UInt8)).toArray⟩)∧Below w.heap.size w w':=by
 have C:Hid (Calls Tryz.prog 57 #[.string ⟨#[0]⟩,.int .i64 n] w fun e w'=>e=.returned (.string ⟨(Lib.repeatL [0] n).toArray⟩)∧Below w.heap.size w w'):=Tryz.strings_Repeat ⟨#[0]⟩ n w (by omega) (by show 1*n<=_;omega);rw[yO]at C;go_enter Tryz.func240,Tryz.ntmps240
 go_wp2_with (go_at_call 57;refine Calls.mono C.out ?_;rintro e w' ⟨rfl,hb⟩)
 go_ret;exact⟨rfl,hb⟩
theorem yP (xs:List ByteArray)(vs:Array Value)(w:World)(n:Nat)(hn:xs.length=n)(hv:vs=(xs.map Value.string).toArray)(hs:n<=8)(hl:(cat xs).length<=140737488355328):
  Calls Tryz.prog 76 #[.slice (some ⟨w.heap.size,0,none⟩) n n] (w.alloc (.cells vs 9)) fun r w'=>r=.returned (.string ⟨(cat xs).toArray⟩)∧Below w.heap.size w w':=by
 subst hn hv;have h:=rJ w.heap.size 0 xs.length xs.length xs (w.alloc (.cells (xs.map Value.string).toArray 9)) (fun j z hj=>?_) (by simp) rfl (by omega) (Nat.le_refl _) hl
 ·exact h.mono fun r w' ⟨a,b⟩=>⟨a,((Below.refl _ _).alloc (Nat.le_refl _) _).trans (b.mono (by simp))⟩
 ·rw[World.cell?_alloc_at _ 9 _ (0+j) rfl,Nat.zero_add];simp[hj]
theorem one_byte (k:UInt8):beBytes 1 k.toNat=[k]:=by simp[beBytes]
theorem Hu (n:Nat)(k:UInt8)(b:ByteArray):
  cat [⟨(beBytes 4 n).toArray⟩,⟨(beBytes 1 k.toNat).toArray⟩,⟨(List.replicate 1 (0:UInt8)).toArray⟩,⟨(beBytes 2 b.size).toArray⟩,⟨(List.replicate 4 (0:UInt8)).toArray⟩,b,⟨(List.replicate (240-b.size) (0:UInt8)).toArray⟩]=fT n k b.data.toList:=by
 rw[one_byte];simp only[cat,List.map_cons,List.map_nil,List.flatten_cons,List.flatten_nil,List.append_nil,fT];rw[show b.data.toList.length=b.size by simp];rfl
theorem Hv (n:Nat)(k:UInt8)(b:List UInt8):cat [⟨(beBytes 4 (lM (fT n k b))).toArray⟩,⟨(fT n k b).toArray⟩]=cP n k b:=by
 simp only[cat,List.map_cons,List.map_nil,List.flatten_cons,List.flatten_nil,List.append_nil,cP]
theorem Mw (n:Nat)(k:UInt8)(b:ByteArray)(w:World)(T:uX w)(hn:n<4294967296)(hb:b.size<=240):
  Calls Tryz.prog 232 #[.int .i64 n,.int .u8 (k.toNat:Int),.string b] w fun e w'=>e=.returned (.tuple #[.string ⟨(cP n k b.data.toList).toArray⟩,.int .i64 0])∧Below w.heap.size w w':=by
 have Rn:Hid (uX w):=T;have C1:Hid _:=Rl n w hn;have hk:k.toNat<256:=UInt8.toNat_lt k;have hl:(fT n k b.data.toList).length=252:=mR _ _ _ (by simpa using hb);have ER:Hid (_=fT n k b.data.toList):=Hu n k b;have EP:Hid (_=cP n k b.data.toList):=Hv n k b.data.toList;have hS:lM (fT n k b.data.toList)<4294967296:=Mp _;have hP:(cP n k b.data.toList).length=256:=wJ _ _ _ (by simpa using hb);generalize fT n k b.data.toList=R at*;generalize cP n k b.data.toList=G at*;clear T;go_enter Tryz.func232,Tryz.ntmps232
 go_wp2_with fail
 refine Calls.mono C1.out ?_;rintro e w1 ⟨rfl,b1⟩;have B1:Hid (Below w.heap.size w w1):=b1;clear b1 C1;have C2:Hid _:=Vm k.toNat w1 hk
 go_wp2_with fail
 refine Calls.mono C2.out ?_;rintro e w2 ⟨rfl,b2⟩;have B2:Hid (Below w.heap.size w w2):=B1.out.trans (b2.mono B1.out.size);clear b2 C2;have C3:Hid _:=Vn b.size w2 (by omega)
 go_wp2_with fail
 refine Calls.mono C3.out ?_;rintro e w3 ⟨rfl,b3⟩;have B3:Hid (Below w.heap.size w w3):=B2.out.trans (b3.mono B2.out.size);clear b3 C3;have C4:Hid (Calls Tryz.prog 240 #[.int .i64 1] w3 fun e w'=>e=.returned (.string ⟨(List.replicate 1 (0:UInt8)).toArray⟩)∧Below w3.heap.size w3 w'):=jV 1 w3 (by omega)
 go_wp2_with fail
 refine Calls.mono C4.out ?_;rintro e w4 ⟨rfl,b4⟩;have B4:Hid (Below w.heap.size w w4):=B3.out.trans (b4.mono B3.out.size);clear b4 C4;have C5:Hid (Calls Tryz.prog 240 #[.int .i64 4] w4 fun e w'=>e=.returned (.string ⟨(List.replicate 4 (0:UInt8)).toArray⟩)∧Below w4.heap.size w4 w'):=jV 4 w4 (by omega)
 go_wp2_with fail
 refine Calls.mono C5.out ?_;rintro e w5 ⟨rfl,b5⟩;have B5:Hid (Below w.heap.size w w5):=B4.out.trans (b5.mono B4.out.size);clear b5 C5;have C6:Hid _:=jV (240-b.size) w5 (by omega);rw[show(((240-b.size:Nat):Int))=240- (b.size:Int) by omega]at C6
 go_wp2_with fail
 refine Calls.mono C6.out ?_;rintro e w6 ⟨rfl,b6⟩;have B6:Hid (Below w.heap.size w w6):=B5.out.trans (b6.mono B5.out.size);clear b6 C6;have C7:Hid _:=yP [⟨(beBytes 4 n).toArray⟩,⟨(beBytes 1 k.toNat).toArray⟩,⟨(List.replicate 1 (0:UInt8)).toArray⟩,⟨(beBytes 2 b.size).toArray⟩,⟨(List.replicate 4 (0:UInt8)).toArray⟩,b,⟨(List.replicate (240-b.size) (0:UInt8)).toArray⟩] _ w6 7 rfl rfl (by omega) (by rw[ER.out,hl];omega);rw[ER.out]at C7
 go_wp2_with fail
 refine Calls.mono C7.out ?_;rintro e w7 ⟨rfl,b7⟩;have B7:Hid (Below w.heap.size w w7):=B6.out.trans (b7.mono B6.out.size);clear b7 C7;have C8:Hid _:=YJ ⟨R.toArray⟩ w7 (Rn.out.below B7.out) (by rw[fu];unfold maxLen;omega);rw[show(⟨R.toArray⟩:ByteArray).data.toList=R from rfl]at C8
 go_wp2_with fail
 refine Calls.mono C8.out ?_;rintro e w8 ⟨rfl,hw8⟩;have B8:Hid (Below w.heap.size w w8):=by subst hw8;exact B7.out.alloc B7.out.size _
 clear hw8 C8;have C9:Hid _:=Rl (lM R) w8 hS
 go_wp2_with fail
 refine Calls.mono C9.out ?_;rintro e w9 ⟨rfl,b9⟩;have B9:Hid (Below w.heap.size w w9):=B8.out.trans (b9.mono B8.out.size);clear b9 C9;have YL:Hid _:=yP [⟨(beBytes 4 (lM R)).toArray⟩,⟨R.toArray⟩] _ w9 2 rfl rfl (by omega) (by rw[EP.out,hP];omega);rw[EP.out]at YL
 go_wp2_with fail
 refine Calls.mono YL.out ?_;rintro e UZ ⟨rfl,b10⟩;have B10:Hid (Below w.heap.size w UZ):=B9.out.trans (b10.mono B9.out.size);clear b10 YL;go_wp2;go_ret2;exact⟨rfl,B10.out⟩
theorem Fb (id:Int)(k:UInt8)(b:ByteArray)(w:World)(hb:240<b.size)(hm:b.size<=maxLen):
  Calls Tryz.prog 232 #[.int .i64 id,.int .u8 (k.toNat:Int),.string b] w fun e w'=>e=.returned (.tuple #[.string ⟨#[]⟩,.int .i64 50])∧w=w':=by
 unfold maxLen at hm;go_enter Tryz.func232,Tryz.ntmps232;go_wp2;go_ret2;exact⟨rfl,rfl⟩
theorem Hw (id:Int)(k:UInt8)(b:ByteArray)(w:World)(hb:b.size<=240)(hp:fN 4 id=false):
  Calls Tryz.prog 232 #[.int .i64 id,.int .u8 (k.toNat:Int),.string b] w fun e w'=>e=.returned (.tuple #[.string ⟨#[]⟩,.int .i64 1])∧Below w.heap.size w w':=by
 have C:Hid _:=ju 4 id w;rw[show ij 4 id=[] by simp[ij,hp],show jt 4 id=1 by simp[jt,hp]]at C;clear hp;go_enter Tryz.func232,Tryz.ntmps232
 go_wp2_with fail
 refine Calls.mono C.out ?_;rintro e w1 ⟨rfl,b1⟩;go_wp2;go_ret2;exact⟨rfl,b1⟩
theorem Hx (id:Int)(k:UInt8)(b:ByteArray)(w:World)(T:uX w)(hm:b.size<=maxLen):
  Calls Tryz.prog 232 #[.int .i64 id,.int .u8 (k.toNat:Int),.string b] w fun e w'=>e=.returned (.tuple #[.string ⟨(iR id k b.data.toList).toArray⟩,.int .i64 (fI id b.size)])∧Below w.heap.size w w':=by
 have hsz:b.data.toList.length=b.size:=by simp
 by_cases hb:240<b.size
 ·have e1:fI id b.size=50:=by rw[fI,if_pos hb]
  have e2:iR id k b.data.toList=[]:=by rw[iR,hsz,e1,if_neg (by decide)]
  rw[e1,e2];exact(Fb id k b w hb hm).mono fun e w' ⟨h1,h2⟩=>⟨h1,by subst h2;exact Below.refl _ _⟩
 ·cases hp:fN 4 id
  ·have e1:fI id b.size=1:=by rw[fI,if_neg hb,hp,if_neg (by decide)]
   have e2:iR id k b.data.toList=[]:=by rw[iR,hsz,e1,if_neg (by decide)]
   rw[e1,e2];exact Hw id k b w (by omega) hp
  ·have e1:fI id b.size=0:=by rw[fI,if_neg hb,hp,if_pos rfl]
   have e2:iR id k b.data.toList=cP id.toNat k b.data.toList:=by rw[iR,hsz,e1,if_pos rfl]
   obtain⟨h0,h1⟩:=(Qi id).1 hp;rw[e1,e2];have:=Mw id.toNat k b w T (by omega) (by omega);rw[show((id.toNat:Nat):Int)=id by omega]at this;exact this
end
section
open Go.RowKit
theorem Rq {a b:ByteArray}(h:¬a=b):(a.toList==b.toList)=false:=by
 rw[beq_eq_false_iff_ne,Lib.toList_data,Lib.toList_data];intro e;exact h (jT e)
theorem uz (s:ByteArray)(e n:Int)(h:s.size<=maxLen):(aN s e n).1.size<=maxLen:=by
 unfold aN;split
 ·unfold maxLen;simp
 ·split
  ·unfold maxLen;simp
  ·split
   ·unfold maxLen;simp
   ·simp;omega
theorem Fc (s:ByteArray)(w:World)(hs:s.size<=maxLen):
  Calls Tryz.prog 231 #[.string s] w fun e w'=>e=.returned (.tuple #[.int .u8 ((AW s).toNat:Int),.string (qz s)])∧(qz s).size<=maxLen∧Below w.heap.size w w':=by
 have C0:Hid _:=mM s w;have R0:Hid _:=Rd.made s hs w;have bl:Hid (Below w.heap.size w (w.alloc (.cells #[.string s,.int .i64 0] 228))):=(Below.refl _ _).alloc (Nat.le_refl _) _;have hK:=Ht s;have hk:(AW s).toNat<256:=UInt8.toNat_lt _;unfold qz;generalize(AW s).toNat=K at*;go_enter Tryz.func231,Tryz.ntmps231
 go_wp2_with fail
 refine Calls.mono C0.out ?_;rintro e w0 ⟨rfl,h0⟩;rw[<-h0]at R0 bl;clear h0 C0;have C1:Hid (Calls Tryz.prog 143 #[.pointer (some ⟨w.heap.size,0,none⟩),.int .i64 8] w0 fun r w'=>r=.returned (.string (Hr s).1)∧Rd w.heap.size (Hr s).2.1 (Hr s).2.2 w'∧Only w.heap.size w0 w'):=gZ w.heap.size s 0 8 w0 R0.out
 go_wp2_with fail
 refine Calls.mono C1.out ?_;rintro e w1 ⟨rfl,r1,o1⟩;have R1:Hid (Rd w.heap.size (Hr s).2.1 (Hr s).2.2 w1):=r1;have O1:Hid (Only w.heap.size w0 w1):=o1;clear r1 o1 C1;have C2:Hid (Calls Tryz.prog 115 #[.pointer (some ⟨w.heap.size,0,none⟩),.int .i64 1] w1 fun r w'=>r=.returned (.int .i64 (Df s).1)∧Rd w.heap.size (Df s).2.1 (Df s).2.2 w'∧Only w.heap.size w1 w'):=js w.heap.size _ _ 1 w1 R1.out;rw[hK]at C2
 go_wp2_with fail
 refine Calls.mono C2.out ?_;rintro e w2 ⟨rfl,r2,o2⟩;have R2:Hid (Rd w.heap.size (Df s).2.1 (Df s).2.2 w2):=r2;have O2:Hid (Only w.heap.size w0 w2):=O1.out.trans o2;clear r2 o2 C2;have C3:Hid (Calls Tryz.prog 143 #[.pointer (some ⟨w.heap.size,0,none⟩),.int .i64 1] w2 fun r w'=>r=.returned (.string (Mt s).1)∧Rd w.heap.size (Mt s).2.1 (Mt s).2.2 w'∧Only w.heap.size w2 w'):=gZ w.heap.size _ _ 1 w2 R2.out
 go_wp2_with fail
 refine Calls.mono C3.out ?_;rintro e w3 ⟨rfl,r3,o3⟩;have R3:Hid (Rd w.heap.size (Mt s).2.1 (Mt s).2.2 w3):=r3;have O3:Hid (Only w.heap.size w0 w3):=O2.out.trans o3;clear r3 o3 C3;have C4:Hid (Calls Tryz.prog 115 #[.pointer (some ⟨w.heap.size,0,none⟩),.int .i64 2] w3 fun r w'=>r=.returned (.int .i64 (Hs s).1)∧Rd w.heap.size (Hs s).2.1 (Hs s).2.2 w'∧Only w.heap.size w3 w'):=js w.heap.size _ _ 2 w3 R3.out
 go_wp2_with fail
 refine Calls.mono C4.out ?_;rintro e w4 ⟨rfl,r4,o4⟩;have R4:Hid (Rd w.heap.size (Hs s).2.1 (Hs s).2.2 w4):=r4;have O4:Hid (Only w.heap.size w0 w4):=O3.out.trans o4;clear r4 o4 C4;have C5:Hid (Calls Tryz.prog 143 #[.pointer (some ⟨w.heap.size,0,none⟩),.int .i64 4] w4 fun r w'=>r=.returned (.string (Mu s).1)∧Rd w.heap.size (Mu s).2.1 (Mu s).2.2 w'∧Only w.heap.size w4 w'):=gZ w.heap.size _ _ 4 w4 R4.out
 go_wp2_with fail
 refine Calls.mono C5.out ?_;rintro e w5 ⟨rfl,r5,o5⟩;have R5:Hid (Rd w.heap.size (Mu s).2.1 (Mu s).2.2 w5):=r5;have O5:Hid (Only w.heap.size w0 w5):=O4.out.trans o5;clear r5 o5 C5;have C6:Hid (Calls Tryz.prog 143 #[.pointer (some ⟨w.heap.size,0,none⟩),.int .i64 (Hs s).1] w5 fun r w'=>r=.returned (.string (Rp s).1)∧Rd w.heap.size (Rp s).2.1 (Rp s).2.2 w'∧Only w.heap.size w5 w'):=gZ w.heap.size _ _ _ w5 R5.out;have Z:Hid ((Rp s).1.size<=maxLen):=uz _ _ _ R5.out.sz
 go_wp2_with fail
 refine Calls.mono C6.out ?_;rintro e w6 ⟨rfl,r6,o6⟩;have O6:Hid (Only w.heap.size w0 w6):=O5.out.trans o6;clear r6 o6 C6;go_wp2;go_ret2;exact⟨rfl,Z.out,bl.out.trans (O6.out.below (Nat.le_refl _))⟩
theorem Hy (id:Int)(s:ByteArray)(w:World)(T:uX w)(hs:s.size<=maxLen):
  Calls Tryz.prog 207 #[.int .i64 id,.string s] w fun e w'=>e=.returned (.tuple #[.int .u8 ((opn id s.data.toList).1.toNat:Int),.string ⟨(opn id s.data.toList).2.1.toArray⟩,.int .i64 (opn id s.data.toList).2.2])∧Below w.heap.size w w':=by
 have Rn:Hid (uX w):=T;have C0:Hid _:=Fc s w hs;have EO:Hid _:=Fa id s;clear T;have SE:Hid (∀w1,uX w1->(qz s).size<=maxLen->Calls Tryz.prog 232 #[.int .i64 id,.int .u8 ((AW s).toNat:Int),.string (qz s)] w1 fun e w'=>e=.returned (.tuple #[.string ⟨(iR id (AW s) (qz s).data.toList).toArray⟩,.int .i64 (fI id (qz s).size)])∧Below w1.heap.size w1 w'):=fun w1 h1 h2=>Hx id (AW s) (qz s) w1 h1 h2;generalize(⟨(iR id (AW s) (qz s).data.toList).toArray⟩:ByteArray)=A at*;generalize fI id (qz s).size=E at*;generalize hO:opn id s.data.toList=O at*;have hb:qz s=⟨(qz s).data.toList.toArray⟩:=rfl;by_cases h1:E=0
 ·subst h1;by_cases h2:A=s
  ·subst h2;have Vq:Hid ((AW A,(qz A).data.toList,(0:Int))=O):=by
    have:=EO.out
    rwa [if_pos ⟨rfl,rfl⟩]at this
   clear EO;go_enter Tryz.func207,Tryz.ntmps207
   go_wp2_with fail
   refine Calls.mono C0.out ?_;rintro e w1 ⟨rfl,z1,b1⟩;have B1:Hid (Below w.heap.size w w1):=b1;have C1:Hid _:=SE.out w1 (Rn.out.below b1) z1;clear b1 C0 SE z1
   go_wp2_with fail
   refine Calls.mono C1.out ?_;rintro e w2 ⟨rfl,b2⟩;have B2:Hid (Below w.heap.size w w2):=B1.out.trans (b2.mono B1.out.size);clear b2 C1;go_wp2
   go_ret3
   rw[<-Vq.out];exact⟨rfl,B2.out⟩
  ·have Vq:Hid (((0:UInt8),([]:List UInt8),(3:Int))=O):=by
    have:=EO.out
    rwa [if_neg (fun c=>h2 c.2)]at this
   have hne:=Rq h2;clear EO;go_enter Tryz.func207,Tryz.ntmps207
   go_wp2_with fail
   refine Calls.mono C0.out ?_;rintro e w1 ⟨rfl,z1,b1⟩;have B1:Hid (Below w.heap.size w w1):=b1;have C1:Hid _:=SE.out w1 (Rn.out.below b1) z1;clear b1 C0 SE z1
   go_wp2_with fail
   refine Calls.mono C1.out ?_;rintro e w2 ⟨rfl,b2⟩;have B2:Hid (Below w.heap.size w w2):=B1.out.trans (b2.mono B1.out.size);clear b2 C1;go_wp2
   go_ret3
   rw[<-Vq.out];exact⟨rfl,B2.out⟩
 ·have Vq:Hid (((0:UInt8),([]:List UInt8),(3:Int))=O):=by
   have:=EO.out
   rwa [if_neg (fun c=>h1 c.1)]at this
  have hne:(E != 0)=true:=by rw[bne_iff_ne];exact h1
  clear EO h1;go_enter Tryz.func207,Tryz.ntmps207
  go_wp2_with fail
  refine Calls.mono C0.out ?_;rintro e w1 ⟨rfl,z1,b1⟩;have B1:Hid (Below w.heap.size w w1):=b1;have C1:Hid _:=SE.out w1 (Rn.out.below b1) z1;clear b1 C0 SE z1
  go_wp2_with fail
  refine Calls.mono C1.out ?_;rintro e w2 ⟨rfl,b2⟩;have B2:Hid (Below w.heap.size w w2):=B1.out.trans (b2.mono B1.out.size);clear b2 C1;go_wp2
  go_ret3
  rw[<-Vq.out];exact⟨rfl,B2.out⟩
end
section
open Go.RowKit
end
section
open Go.RowKit
theorem Mx {id:Int}{s:List UInt8}(h:(opn id s).2.2≠0):opn id s=(0,[],3):=by
 rcases oy id s with⟨k,b,_,_,h3⟩| ⟨_,h3⟩
 ·rw[h3]at h;exact absurd rfl h
 ·exact h3
end
section
open Go.RowKit
end
end
section
open Go.RowKit Go.WideShapes
def tab:List Int:=[0,498536548,997073096,651767980,1994146192,1802195444,1303535960,1342533948,3988292384,4027552580,3604390888,3412177804,2607071920,2262029012,2685067896,3183342108]
theorem Hz:∀n,n<16->tab.getD n 0=((jv n:Nat):Int):=by decide
theorem Dg:Tryz.prog.globalNamed "rootstock/crc.halves" =some 1:=by kernel_rfl
theorem My:(Tryz.prog.globals[1]?).map (·.type)=some 325:=by kernel_rfl
theorem Mz {w:World}{p:Addr}{v:Value}(h:w.cell? p=some v):p.block<w.heap.size:=by
 unfold World.cell? at h;by_cases hb:p.block<w.heap.size
 ·exact hb
 ·rw[Array.getElem?_eq_none (by omega)]at h;simp at h
theorem tab_of_laid {W:World}(h:laidMetH Tryz.prog [("rootstock/crc.halves",Rows.laid_rootstock_crc_halves)] W):uX W:=by
 rw[MakeChecks.laidMetH_plain _ _ _ (by kernel_rfl)]at h;have hT:Lib.TabIs Tryz.prog W "rootstock/crc.halves" .u32 tab:=
  Lib.tabIs_of_head Dg My Tryz.underlying325 Tryz.underlying193 (by kernel_rfl) (by kernel_rfl) (rest:=[]) h
 have hc:∀i,i<16->W.cell? ⟨1,i,none⟩=some (.int .u32 ((jv i:Nat):Int)):=fun i hi=>by
  rw[<-Hz i hi];exact hT.cell Dg i hi
 exact⟨Mz (hc 0 (by decide)),hc⟩
theorem door_met (os:Os)(args:Array Value):laidMetH Tryz.prog [("rootstock/crc.halves",Rows.laid_rootstock_crc_halves)] ((World.doorLaid Tryz.prog 400 os).forCall (fun _ _=>0) ⟨#[],args,[]⟩).memory:=
 laidMetH_of_parts3 (fuel:=8) (laidMet_of_run' 8 (by kernel_rfl) (by kernel_rfl)) (by kernel_rfl) (by kernel_rfl)
end
end Go.Proofs.YtcenfooehjcddaaGreatDoor
namespace Go.Proofs.YtcenfooehjcddaaGreatDoor
open Go.Shelf Go.RowKit Go.Lib Go.Sort
section
section
abbrev Pr:=Int×Int
def dm (l:List Pr)(n:Int):Prop:=0<=n∧n<=4294967295∧∃r∈l,r.1<=n∧n<=r.2
def Rs (n:Int)(r:Pr):Bool:=decide (r.1<=n)&&decide (n<=r.2)
def hasB (l:List Pr)(n:Int):Bool:=(decide (0<=n)&&decide (n<=4294967295))&&l.any (Rs n)
theorem fg (l:List Pr)(n:Int):hasB l n=true↔dm l n:=by
 unfold hasB dm Rs;simp only[Bool.and_eq_true,decide_eq_true_eq,List.any_eq_true];constructor
 ·rintro⟨⟨h1,h2⟩,h3⟩;exact⟨h1,h2,h3⟩
 ·rintro⟨h1,h2,h3⟩;exact⟨⟨h1,h2⟩,h3⟩
theorem H0 {l:List Pr}{n:Int}(h:dm l n):hasB l n=true:=(fg l n).2 h
theorem jx {l:List Pr}{n:Int}(h:¬dm l n):hasB l n=false:=by
 cases e:hasB l n with
 |false=>rfl
 |true=>exact absurd ((fg l n).1 e) h
theorem qC {l:List Pr}{n:Int}{b:Bool}(h:dm l n↔b=true):hasB l n=b:=by
 cases b with
 |true=>exact H0 (h.2 rfl)
 |false=>exact jx fun k=>by have:=h.1 k;cases this
def Cn (l:List Pr):Prop:=(∀r∈l,0<=r.1∧r.1<=r.2∧r.2<=4294967295)∧l.Pairwise fun r s=>r.2+1<s.1
theorem Cn.nil:Cn []:=⟨fun _ h=>by simp at h,List.Pairwise.nil⟩
theorem bE {r:Pr}{l:List Pr}:Cn (r::l)↔(0<=r.1∧r.1<=r.2∧r.2<=4294967295)∧(∀s∈l,r.2+1<s.1)∧Cn l:=by
 unfold Cn;rw[List.pairwise_cons];constructor
 ·rintro⟨h1,h2,h3⟩;exact⟨h1 r (by simp),h2,fun s hs=>h1 s (by simp[hs]),h3⟩
 ·rintro⟨h1,h2,h3,h4⟩;refine⟨fun s hs=>?_,h2,h4⟩;rcases List.mem_cons.1 hs with rfl|hs
  ·exact h1
  ·exact h3 s hs
theorem kM {r:Pr}{l:List Pr}:Cn (l++[r])↔Cn l∧(∀s∈l,s.2+1<r.1)∧(0<=r.1∧r.1<=r.2∧r.2<=4294967295):=by
 unfold Cn;rw[List.pairwise_append];constructor
 ·rintro⟨h1,h2,_,h4⟩;exact⟨⟨fun s hs=>h1 s (by simp[hs]),h2⟩,fun s hs=>h4 s hs r (by simp),h1 r (by simp)⟩
 ·rintro⟨⟨h1,h2⟩,h3,h4⟩;refine⟨fun s hs=>?_,h2,by simp,fun s hs t ht=>?_⟩
  ·rcases List.mem_append.1 hs with hs|hs
   ·exact h1 s hs
   ·rw[List.mem_singleton.1 hs];exact h4
  ·rw[List.mem_singleton.1 ht];exact h3 s hs
theorem dz (n:Int):¬dm [] n:=fun⟨_,_,r,h,_⟩=>by simp at h
theorem aT (r:Pr)(l:List Pr)(n:Int):dm (r::l) n↔(0<=n∧n<=4294967295∧r.1<=n∧n<=r.2)∨dm l n:=by
 unfold dm;constructor
 ·rintro⟨h1,h2,s,hs,h3,h4⟩;rcases List.mem_cons.1 hs with rfl|hs
  ·exact Or.inl ⟨h1,h2,h3,h4⟩
  ·exact Or.inr ⟨h1,h2,s,hs,h3,h4⟩
 ·rintro(⟨h1,h2,h3,h4⟩| ⟨h1,h2,s,hs,h3,h4⟩)
  ·exact⟨h1,h2,r,by simp,h3,h4⟩
  ·exact⟨h1,h2,s,by simp[hs],h3,h4⟩
theorem eL (l m:List Pr)(n:Int):dm (l++m) n↔dm l n∨dm m n:=by
 induction l with
 |nil=>simp[dz]
 |cons r l ih=>rw[List.cons_append,aT,aT,ih];exact or_assoc.symm
theorem eW (r:Pr)(n:Int):dm [r] n↔0<=n∧n<=4294967295∧r.1<=n∧n<=r.2:=by
 rw[aT];simp[dz]
theorem Cn.fw {r:Pr}{l:List Pr}(h:Cn (r::l)){n:Int}(hn:dm l n):r.2+1<n:=by
 obtain⟨_,h2,_⟩:=bE.1 h;obtain⟨_,_,s,hs,h3,_⟩:=hn;have:=h2 s hs;omega
theorem Cn.wK {r:Pr}{l:List Pr}(h:Cn (r::l)){n:Int}(hn:dm (r::l) n):r.1<=n:=by
 obtain⟨h1,_,_⟩:=bE.1 h;rcases(aT r l n).1 hn with h2|h2
 ·omega
 ·have:=h.fw h2;omega
theorem Cn.dT {r:Pr}{l:List Pr}(h:Cn (r::l)){n:Int}(h1:r.1<=n)(h2:n<=r.2):dm (r::l) n:=by
 obtain⟨h3,_,_⟩:=bE.1 h;exact(aT r l n).2 (Or.inl ⟨by omega,by omega,h1,h2⟩)
theorem Cn.Dh {r:Pr}{l:List Pr}(h:Cn (r::l))(n:Int):dm l n↔dm (r::l) n∧r.2<n:=by
 constructor
 ·intro hn;have:=h.fw hn;exact⟨(aT r l n).2 (Or.inr hn),by omega⟩
 ·rintro⟨h1,h2⟩;rcases(aT r l n).1 h1 with h3|h3
  ·omega
  ·exact h3
theorem rL:∀(l m:List Pr),Cn l->Cn m->(∀n,dm l n↔dm m n)->l=m
 |[],[],_,_,_=>rfl
 |[],s::m,_,hm,h=>by
  obtain⟨h1,_,_⟩:=bE.1 hm;exact absurd ((h s.1).2 (hm.dT (Int.le_refl _) (by omega))) (dz _)
 |r::l,[],hl,_,h=>by
  obtain⟨h1,_,_⟩:=bE.1 hl;exact absurd ((h r.1).1 (hl.dT (Int.le_refl _) (by omega))) (dz _)
 |r::l,s::m,hl,hm,h=>by
  have hr:=(bE.1 hl).1;have hs:=(bE.1 hm).1;have e1:r.1=s.1:=by
   have a:=hm.wK ((h r.1).1 (hl.dT (Int.le_refl _) (by omega)));have b:=hl.wK ((h s.1).2 (hm.dT (Int.le_refl _) (by omega)));omega
  have e2:r.2=s.2:=by
   rcases Int.lt_trichotomy r.2 s.2 with c|c|c
   ·have a:=(h (r.2+1)).2 (hm.dT (by omega) (by omega));rcases(aT r l _).1 a with a|a
    ·omega
    ·have:=hl.fw a;omega
   ·exact c
   ·have a:=(h (s.2+1)).1 (hl.dT (by omega) (by omega));rcases(aT s m _).1 a with a|a
    ·omega
    ·have:=hm.fw a;omega
  have e:r=s:=by
   obtain⟨a,b⟩:=r;obtain⟨c,d⟩:=s;rw[Prod.mk.injEq];exact⟨e1,e2⟩
  subst e;rw[rL l m (bE.1 hl).2.2 (bE.1 hm).2.2 fun n=>by rw[hl.Dh,hm.Dh,h n]]
def cH (r:Pr):Pr:=(max r.1 0,min r.2 4294967295)
def gQ (r:Pr)(done:Bool):List Pr->List Pr
 |[]=>if done then []else [r]
 |y::l=>
  if y.2+1<r.1 then y::gQ r done l
  else if r.2+1<y.1 then(if done then y::gQ r done l else r::y::gQ r true l)
  else gQ (min r.1 y.1,max r.2 y.2) done l
def jy (l:List Pr)(x:Pr):List Pr:=if(cH x).1<=(cH x).2 then gQ (cH x) false l else l
def pE (l:List Pr):List Pr:=l.foldl jy []
def Di (a b:List Pr):List Pr:=pE (a++b)
def Vr (out:List Pr)(r:Pr):List Pr:=out.foldl (fun nx y=>jy (jy nx (y.1,min y.2 (r.1-1))) (max y.1 (r.2+1),y.2)) []
def Fe (out:List Pr)(x:Pr):List Pr:=if(cH x).1<=(cH x).2 then Vr out (cH x)else out
def Rt (a b:List Pr):List Pr:=b.foldl Fe (pE a)
def uY (a b:List Pr):List Pr:=Rt a (Rt a b)
def jA (s:List Pr):Int:=s.foldl (fun n r=>n+r.2-r.1+1) 0
theorem lN:∀(l:List Pr) (r:Pr),r.1<=r.2->Cn l->(∀y∈l,r.2+1<y.1)->gQ r true l=l
 |[],_,_,_,_=>rfl
 |y::l,r,hr,hl,h=>by
  have h1:=h y (by simp);obtain⟨h2,_,h4⟩:=bE.1 hl;rw[gQ,if_neg (by omega),if_pos h1,if_pos rfl,lN l r hr h4 fun z hz=>h z (by simp[hz])]
theorem rM:∀(l:List Pr) (r:Pr) (z:Pr),r.1<=r.2->Cn l->z∈gQ r false l->r.1<=z.1∨∃y∈l,y.1<=z.1
 |[],r,z,_,_,hz=>by
  simp[gQ]at hz;rw[hz];exact Or.inl (Int.le_refl _)
 |y::l,r,z,hr,hl,hz=>by
  obtain⟨h2,h3,h4⟩:=bE.1 hl;rw[gQ]at hz;split at hz
  ·rcases List.mem_cons.1 hz with rfl|hz
   ·exact Or.inr ⟨z,by simp,Int.le_refl _⟩
   ·rcases rM l r z hr h4 hz with h| ⟨s,hs,h⟩
    ·exact Or.inl h
    ·exact Or.inr ⟨s,by simp[hs],h⟩
  ·split at hz
   ·rw[if_neg (by simp),lN l r hr h4 fun s hs=>by have:=h3 s hs;omega]at hz;rcases List.mem_cons.1 hz with rfl|hz
    ·exact Or.inl (Int.le_refl _)
    ·exact Or.inr ⟨z,hz,Int.le_refl _⟩
   ·rcases rM l _ z (by simp only;omega) h4 hz with h| ⟨s,hs,h⟩
    ·simp only at h;rcases Int.le_total r.1 y.1 with c|c
     ·exact Or.inl (by omega)
     ·exact Or.inr ⟨y,by simp,by omega⟩
    ·exact Or.inr ⟨s,by simp[hs],h⟩
theorem rN:∀(l:List Pr) (r:Pr),0<=r.1->r.1<=r.2->r.2<=4294967295->Cn l->Cn (gQ r false l)∧∀n,dm (gQ r false l) n↔dm (r::l) n
 |[],r,h0,hr,h1,_=>by
  refine⟨?_,fun n=>Iff.rfl⟩;show Cn [r];exact bE.2 ⟨⟨h0,hr,h1⟩,fun _ h=>by simp at h,Cn.nil⟩
 |y::l,r,h0,hr,h1,hl=>by
  obtain⟨h2,h3,h4⟩:=bE.1 hl;rw[gQ];split
  ·obtain⟨c1,c2⟩:=rN l r h0 hr h1 h4;refine⟨bE.2 ⟨h2,fun s hs=>?_,c1⟩,fun n=>?_⟩
   ·rcases rM l r s hr h4 hs with h| ⟨t,ht,h⟩
    ·omega
    ·have:=h3 t ht;omega
   ·rw[aT,c2 n,aT,aT,aT];constructor
    ·rintro(h|h|h)
     ·exact Or.inr (Or.inl h)
     ·exact Or.inl h
     ·exact Or.inr (Or.inr h)
    ·rintro(h|h|h)
     ·exact Or.inr (Or.inl h)
     ·exact Or.inl h
     ·exact Or.inr (Or.inr h)
  ·split
   ·rw[if_neg (by simp),lN l r hr h4 fun s hs=>by have:=h3 s hs;omega];refine⟨bE.2 ⟨⟨h0,hr,h1⟩,fun s hs=>?_,hl⟩,fun n=>Iff.rfl⟩;rcases List.mem_cons.1 hs with rfl|hs
    ·assumption
    ·have:=h3 s hs;omega
   ·obtain⟨c1,c2⟩:=rN l (min r.1 y.1,max r.2 y.2) (by simp only;omega) (by simp only;omega) (by simp only;omega) h4;refine⟨c1,fun n=>?_⟩;rw[c2 n,aT,aT,aT];simp only;constructor
    ·rintro(h|h)
     ·by_cases k:r.1<=n∧n<=r.2
      ·exact Or.inl ⟨h.1,h.2.1,k.1,k.2⟩
      ·exact Or.inr (Or.inl (by omega))
     ·exact Or.inr (Or.inr h)
    ·rintro(h|h|h)
     ·exact Or.inl (by omega)
     ·exact Or.inl (by omega)
     ·exact Or.inr h
theorem fU:∀(l:List Pr) (r:Pr) (d:Bool),(gQ r d l).length<=l.length+(if d then 0 else 1)
 |[],r,d=>by cases d<;>simp[gQ]
 |y::l,r,d=>by
  rw[gQ];split
  ·have:=fU l r d;simp only[List.length_cons];omega
  ·split
   ·cases d with
    |true=>have:=fU l r true;simp at*;omega
    |false=>have:=fU l r true;simp at*;omega
   ·have:=fU l (min r.1 y.1,max r.2 y.2) d;simp only[List.length_cons];omega
theorem H9 (x:Pr)(l:List Pr)(n:Int):dm (cH x::l) n↔dm (x::l) n:=by
 rw[aT,aT];simp only[cH];constructor
 ·rintro(h|h)
  ·exact Or.inl (by omega)
  ·exact Or.inr h
 ·rintro(h|h)
  ·exact Or.inl (by omega)
  ·exact Or.inr h
theorem wL (l:List Pr)(x:Pr)(h:Cn l):Cn (jy l x)∧∀n,dm (jy l x) n↔dm (x::l) n:=by
 unfold jy;by_cases c:(cH x).1<=(cH x).2
 ·rw[if_pos c];obtain⟨c1,c2⟩:=rN l (cH x) (by simp only[cH];omega) c (by simp only[cH];omega) h;exact⟨c1,fun n=>by rw[c2 n,H9]⟩
 ·rw[if_neg c];refine⟨h,fun n=>?_⟩;rw[aT];constructor
  ·exact Or.inr
  ·rintro(k|k)
   ·simp only[cH]at c;omega
   ·exact k
theorem jW (l:List Pr)(x:Pr):(jy l x).length<=l.length+1:=by
 unfold jy;split
 ·exact fU l _ false
 ·omega
theorem iB:∀(l m:List Pr),Cn m->Cn (l.foldl jy m)∧(∀n,dm (l.foldl jy m) n↔dm l n∨dm m n)∧(l.foldl jy m).length<=m.length+l.length
 |[],m,h=>⟨h,fun n=>by simp[dz],by simp⟩
 |x::l,m,h=>by
  obtain⟨c1,c2⟩:=wL m x h;obtain⟨d1,d2,d3⟩:=iB l (jy m x) c1;refine⟨d1,fun n=>?_,?_⟩
  ·rw[List.foldl_cons,d2 n,c2 n,aT,aT];constructor
   ·rintro(k|k|k)
    ·exact Or.inl (Or.inr k)
    ·exact Or.inl (Or.inl k)
    ·exact Or.inr k
   ·rintro((k|k)|k)
    ·exact Or.inr (Or.inl k)
    ·exact Or.inl k
    ·exact Or.inr (Or.inr k)
  ·have:=jW m x;rw[List.foldl_cons,List.length_cons];omega
theorem jX (l:List Pr):Cn (pE l):=(iB l [] Cn.nil).1
theorem lO (l:List Pr)(n:Int):dm (pE l) n↔dm l n:=by
 rw[pE,(iB l [] Cn.nil).2.1 n];simp[dz]
theorem rO (l:List Pr):(pE l).length<=l.length:=by
 have:=(iB l [] Cn.nil).2.2;rw[pE];simpa using this
theorem Ia {s l:List Pr}(h:Cn s)(k:∀n,dm s n↔dm l n):s=pE l:=rL _ _ h (jX l) fun n=>by rw[k n,lO]
theorem uZ {s:List Pr}(h:Cn s):pE s=s:=(Ia h fun _=>Iff.rfl).symm
theorem yQ:∀(l m:List Pr) (r:Pr),0<=r.1->r.2<=4294967295->r.1<=r.2->Cn m->(∀y∈l,0<=y.1∧y.1<=y.2∧y.2<=4294967295)->
    Cn (l.foldl (fun nx y=>jy (jy nx (y.1,min y.2 (r.1-1))) (max y.1 (r.2+1),y.2)) m)∧(∀n,dm (l.foldl (fun nx y=>jy (jy nx (y.1,min y.2 (r.1-1))) (max y.1 (r.2+1),y.2)) m) n↔(dm l n∧¬(r.1<=n∧n<=r.2))∨dm m n)∧
    (l.foldl (fun nx y=>jy (jy nx (y.1,min y.2 (r.1-1))) (max y.1 (r.2+1),y.2)) m).length<=m.length+2*l.length
  | [],m,_,_,_,_,hm,_=>⟨hm,fun n=>by simp[dz],by simp⟩
  | y::l,m,r,h0,h1,h2,hm,hy=>by
    obtain⟨c1,c2⟩:=wL m (y.1,min y.2 (r.1-1)) hm;obtain⟨d1,d2⟩:=wL _ (max y.1 (r.2+1),y.2) c1;obtain⟨e1,e2,e3⟩:=yQ l _ r h0 h1 h2 d1 fun z hz=>hy z (by simp[hz]);refine⟨e1,fun n=>?_,?_⟩
    · rw[List.foldl_cons,e2 n,d2 n,aT,c2 n,aT,aT];simp only;constructor
      · rintro(⟨k1,k2⟩|k|k|k)
        · exact Or.inl ⟨Or.inr k1,k2⟩
        · exact Or.inl ⟨Or.inl (by omega),by omega⟩
        · exact Or.inl ⟨Or.inl (by omega),by omega⟩
        · exact Or.inr k
      · rintro(⟨k1|k1,k2⟩|k)
        · by_cases c:n<r.1
          · exact Or.inr (Or.inr (Or.inl (by omega)))
          · exact Or.inr (Or.inl (by omega))
        · exact Or.inl ⟨k1,k2⟩
        · exact Or.inr (Or.inr (Or.inr k))
    · have a:=jW m (y.1,min y.2 (r.1-1));have b:=jW (jy m (y.1,min y.2 (r.1-1))) (max y.1 (r.2+1),y.2);rw[List.foldl_cons,List.length_cons];omega
theorem MD (out:List Pr)(x:Pr)(h:Cn out):Cn (Fe out x)∧(∀n,dm (Fe out x) n↔dm out n∧¬dm [x] n):=by
 unfold Fe Vr;by_cases c:(cH x).1<=(cH x).2
 ·rw[if_pos c];obtain⟨c1,c2,_⟩:=yQ out [] (cH x) (by simp only[cH];omega) (by simp only[cH];omega) c Cn.nil h.1;refine⟨c1,fun n=>?_⟩;rw[c2 n,eW];constructor
  ·rintro(⟨k1,k2⟩|k)
   ·refine⟨k1,fun k3=>k2 ?_⟩;simp only[cH];omega
   ·exact absurd k (dz _)
  ·rintro⟨k1,k2⟩;refine Or.inl ⟨k1,fun k3=>k2 ?_⟩;simp only[cH]at k3;have:=k1.1;have:=k1.2.1;omega
 ·rw[if_neg c];refine⟨h,fun n=>⟨fun k=>⟨k,fun k2=>?_⟩,fun k=>k.1⟩⟩;rw[eW]at k2;simp only[cH]at c;omega
theorem wM:∀(b m:List Pr),Cn m->Cn (b.foldl Fe m)∧∀n,dm (b.foldl Fe m) n↔dm m n∧¬dm b n
 |[],m,h=>⟨h,fun n=>by simp[dz]⟩
 |x::b,m,h=>by
  obtain⟨c1,c2⟩:=MD m x h;obtain⟨d1,d2⟩:=wM b _ c1;refine⟨d1,fun n=>?_⟩;rw[List.foldl_cons,d2 n,c2 n,eW,aT];constructor
  ·rintro⟨⟨k1,k2⟩,k3⟩;exact⟨k1,fun k=>k.elim k2 k3⟩
  ·rintro⟨k1,k2⟩;exact⟨⟨k1,fun k=>k2 (Or.inl k)⟩,fun k=>k2 (Or.inr k)⟩
theorem Ib (a b:List Pr):Cn (Rt a b):=(wM b _ (jX a)).1
theorem A9 (a b:List Pr)(n:Int):dm (Rt a b) n↔dm a n∧¬dm b n:=by rw[Rt,(wM b _ (jX a)).2 n,lO]
theorem oz (a b:List Pr):Cn (uY a b):=Ib _ _
theorem oC (a b:List Pr)(n:Int):dm (uY a b) n↔dm a n∧dm b n:=by
 rw[uY,A9,A9];constructor
 ·rintro⟨h1,h2⟩;refine⟨h1,?_⟩;by_cases c:dm b n
  ·exact c
  ·exact absurd ⟨h1,c⟩ h2
 ·rintro⟨h1,h2⟩;exact⟨h1,fun h=>h.2 h2⟩
theorem Ic (a b:List Pr):Cn (Di a b):=jX _
theorem wN (a b:List Pr)(n:Int):dm (Di a b) n↔dm a n∨dm b n:=by rw[Di,lO,eL]
theorem Ru {s a b:List Pr}(h:Cn s)(k:∀n,dm s n↔dm a n∧¬dm b n):s=Rt a b:=rL _ _ h (Ib a b) fun n=>by rw[k n,A9]
theorem Ie {s a b:List Pr}(h:Cn s)(k:∀n,dm s n↔dm a n∧dm b n):s=uY a b:=rL _ _ h (oz a b) fun n=>by rw[k n,oC]
end
section
def jB (l:List Pr):List Pr:=(l.map cH).filter fun r=>decide (r.1<=r.2)
theorem ME (l:List Pr):∀r∈jB l,0<=r.1∧r.1<=r.2∧r.2<=4294967295:=fun r hr=>by
 obtain⟨h1,h2⟩:=List.mem_filter.1 hr;obtain⟨x,_,rfl⟩:=List.mem_map.1 h1;rw[decide_eq_true_eq]at h2;simp only[cH]at*;omega
theorem MF (l:List Pr)(n:Int):dm (jB l) n↔dm l n:=by
 constructor
 ·rintro⟨h1,h2,r,hr,h3,h4⟩;obtain⟨hm,_⟩:=List.mem_filter.1 hr;obtain⟨x,hx,rfl⟩:=List.mem_map.1 hm;simp only[cH]at h3 h4;exact⟨h1,h2,x,hx,by omega,by omega⟩
 ·rintro⟨h1,h2,r,hr,h3,h4⟩;refine⟨h1,h2,cH r,List.mem_filter.2 ⟨List.mem_map.2 ⟨r,hr,rfl⟩,?_⟩,?_,?_⟩
  ·rw[decide_eq_true_eq];simp only[cH];omega
  ·simp only[cH];omega
  ·simp only[cH];omega
theorem jY (l:List Pr):(jB l).length<=l.length:=by
 have:=List.length_filter_le (fun r=>decide (r.1<=r.2)) (l.map cH);rw[List.length_map]at this;exact this
theorem uA (l:List Pr)(x:Pr)(h:(cH x).1<=(cH x).2):jB (l++[x])=jB l++[cH x]:=by
 unfold jB;rw[List.map_append,List.filter_append];simp[h]
theorem wO (l:List Pr)(x:Pr)(h:¬(cH x).1<=(cH x).2):jB (l++[x])=jB l:=by
 unfold jB;rw[List.map_append,List.filter_append];simp[h]
theorem Ig {l m:List Pr}(h:∀x,x∈l↔x∈m)(n:Int):dm l n↔dm m n:=by
 constructor
 ·rintro⟨h1,h2,r,hr,h3⟩;exact⟨h1,h2,r,(h r).1 hr,h3⟩
 ·rintro⟨h1,h2,r,hr,h3⟩;exact⟨h1,h2,r,(h r).2 hr,h3⟩
def Qj (t:List Pr):Prop:=(∀r∈t,0<=r.1∧r.1<=r.2∧r.2<=4294967295)∧t.Pairwise fun r s=>r.1<=s.1
structure jZ (done rest set:List Pr):Prop where
 cn:Cn set
 same:∀n,dm set n↔dm done n
 le:∀r∈set,∀x∈rest,r.1<=x.1
 len:set.length<=done.length
theorem jZ.start (t:List Pr):jZ [] t []:=⟨Cn.nil,fun _=>Iff.rfl,fun _ h=>by simp at h,Nat.le_refl _⟩
theorem jZ.join {done rest pre:List Pr}{a b:Int}{x:Pr}(h:jZ done (x::rest) (pre++[(a,b)]))(ht:Qj (x::rest))(h2:x.1<=b+1):jZ (done++[x]) rest (pre++[(a,max b x.2)]):=by
 obtain⟨c1,c2,c3⟩:=kM.1 h.cn;simp only at c2 c3;have hx:=ht.1 x (by simp);have hax:a<=x.1:=h.le (a,b) (by simp) x (by simp);refine⟨kM.2 ⟨c1,c2,by simp only;omega⟩,fun n=>?_,fun r hr y hy=>?_,?_⟩
 ·rw[eL done,<-h.same n,eL,eL,eW,eW,eW];simp only;constructor
  ·rintro(k|k)
   ·exact Or.inl (Or.inl k)
   ·by_cases c:n<=b
    ·exact Or.inl (Or.inr (by omega))
    ·exact Or.inr (by omega)
  ·rintro((k|k)|k)
   ·exact Or.inl k
   ·exact Or.inr (by omega)
   ·exact Or.inr (by omega)
 ·rcases List.mem_append.1 hr with hr|hr
  ·exact h.le r (by simp[hr]) y (by simp[hy])
  ·rw[List.mem_singleton.1 hr];exact h.le (a,b) (by simp) y (by simp[hy])
 ·have:=h.len;simp only[List.length_append,List.length_cons,List.length_nil]at*;omega
theorem jZ.add {done rest set:List Pr}{x:Pr}(h:jZ done (x::rest) set)(ht:Qj (x::rest))(h2:∀r∈set,r.2+1<x.1):jZ (done++[x]) rest (set++[x]):=by
 refine⟨kM.2 ⟨h.cn,h2,ht.1 x (by simp)⟩,fun n=>?_,fun r hr y hy=>?_,?_⟩
 ·rw[eL,eL,h.same n]
 ·rcases List.mem_append.1 hr with hr|hr
  ·exact h.le r hr y (by simp[hy])
  ·rw[List.mem_singleton.1 hr];exact(List.pairwise_cons.1 ht.2).1 y hy
 ·have:=h.len;simp only[List.length_append,List.length_cons,List.length_nil]at*;omega
theorem Cn.MG {pre:List Pr}{r:Pr}(h:Cn (pre++[r])){m:Int}(hm:r.2+1<m):∀s∈pre++[r],s.2+1<m:=fun s hs=>by
 obtain⟨_,c2,c3⟩:=kM.1 h;rcases List.mem_append.1 hs with hs|hs
 ·have:=c2 s hs;omega
 ·rw[List.mem_singleton.1 hs];exact hm
def mr (x y:Pr):List Pr:=if max x.1 y.1<=min x.2 y.2 then [(max x.1 y.1,min x.2 y.2)]else []
structure j4 (a b a' b' both:List Pr):Prop where
 ca:Cn a'
 cb:Cn b'
 cn:Cn both
 same:∀n,(dm a n∧dm b n)↔dm both n∨(dm a' n∧dm b' n)
 lt:∀r∈both,∀n,dm a' n->dm b' n->r.2+1<n
 len:both.length+a'.length+b'.length<=a.length+b.length
theorem j4.start {a b:List Pr}(ha:Cn a)(hb:Cn b):j4 a b a b []:=⟨ha,hb,Cn.nil,fun n=>by simp[dz],fun _ h=>by simp at h,by simp⟩
theorem Ih (x y:Pr)(n:Int):dm (mr x y) n↔0<=n∧n<=4294967295∧x.1<=n∧n<=x.2∧y.1<=n∧n<=y.2:=by
 unfold mr;split
 ·rw[eW];simp only;omega
 ·constructor
  ·intro h;exact absurd h (dz n)
  ·intro h;omega
theorem Qk {both:List Pr}{x y:Pr}(h:Cn both)(hx:0<=x.1∧x.1<=x.2∧x.2<=4294967295)(hy:0<=y.1∧y.1<=y.2∧y.2<=4294967295)(hlt:∀r∈both,∀n,x.1<=n->n<=x.2->y.1<=n->n<=y.2->r.2+1<n):Cn (both++mr x y):=by
 unfold mr;split
 ·refine kM.2 ⟨h,fun s hs=>?_,by simp only;omega⟩;exact hlt s hs (max x.1 y.1) (by omega) (by omega) (by omega) (by omega)
 ·rw[List.append_nil];exact h
theorem Ii {x y r:Pr}(h:r∈mr x y):r.2=min x.2 y.2:=by
 unfold mr at h;split at h
 ·rw[List.mem_singleton.1 h]
 ·simp at h
theorem vd (x y:Pr):(mr x y).length<=1:=by unfold mr;split<;>simp
theorem j4.left {a b a' b' both:List Pr}{x y:Pr}(h:j4 a b (x::a') (y::b') both)(hl:x.2<y.2):j4 a b a' (y::b') (both++mr x y):=by
 obtain⟨a1,a2,a3⟩:=bE.1 h.ca;obtain⟨b1,b2,b3⟩:=bE.1 h.cb;refine⟨a3,h.cb,Qk h.cn a1 b1 fun r hr n k1 k2 k3 k4=>h.lt r hr n (h.ca.dT k1 k2) (h.cb.dT k3 k4),fun n=>?_,fun r hr n k1 k2=>?_,?_⟩
 ·rw[h.same n,eL,Ih,aT x a' n,aT y b' n];constructor
  ·rintro(k| ⟨k1|k1,k2|k2⟩)
   ·exact Or.inl (Or.inl k)
   ·exact Or.inl (Or.inr (by omega))
   ·have:=h.cb.fw k2;omega
   ·exact Or.inr ⟨k1,Or.inl k2⟩
   ·exact Or.inr ⟨k1,Or.inr k2⟩
  ·rintro((k|k)| ⟨k1,k2⟩)
   ·exact Or.inl k
   ·exact Or.inr ⟨Or.inl (by omega),Or.inl (by omega)⟩
   ·exact Or.inr ⟨Or.inr k1,k2⟩
 ·rcases List.mem_append.1 hr with hr|hr
  ·exact h.lt r hr n ((aT x a' n).2 (Or.inr k1)) k2
  ·have e:=Ii hr;have:=h.ca.fw k1;omega
 ·have:=h.len;have:=vd x y;simp only[List.length_append,List.length_cons]at*;omega
theorem j4.right {a b a' b' both:List Pr}{x y:Pr}(h:j4 a b (x::a') (y::b') both)(hl:¬x.2<y.2):j4 a b (x::a') b' (both++mr x y):=by
 obtain⟨a1,a2,a3⟩:=bE.1 h.ca;obtain⟨b1,b2,b3⟩:=bE.1 h.cb;refine⟨h.ca,b3,Qk h.cn a1 b1 fun r hr n k1 k2 k3 k4=>h.lt r hr n (h.ca.dT k1 k2) (h.cb.dT k3 k4),fun n=>?_,fun r hr n k1 k2=>?_,?_⟩
 ·rw[h.same n,eL,Ih,aT x a' n,aT y b' n];constructor
  ·rintro(k| ⟨k1|k1,k2|k2⟩)
   ·exact Or.inl (Or.inl k)
   ·exact Or.inl (Or.inr (by omega))
   ·exact Or.inr ⟨Or.inl k1,k2⟩
   ·have:=h.ca.fw k1;omega
   ·exact Or.inr ⟨Or.inr k1,k2⟩
  ·rintro((k|k)| ⟨k1,k2⟩)
   ·exact Or.inl k
   ·exact Or.inr ⟨Or.inl (by omega),Or.inl (by omega)⟩
   ·exact Or.inr ⟨k1,Or.inr k2⟩
 ·rcases List.mem_append.1 hr with hr|hr
  ·exact h.lt r hr n k1 ((aT y b' n).2 (Or.inr k2))
  ·have e:=Ii hr;have:=h.cb.fw k2;omega
 ·have:=h.len;have:=vd x y;simp only[List.length_append,List.length_cons]at*;omega
theorem j4.fin {a b a' b' both:List Pr}(h:j4 a b a' b' both)(he:a'=[]∨b'=[]):both=uY a b∧both.length<=a.length+b.length:=by
 refine⟨Ie h.cn fun n=>?_,by have:=h.len;omega⟩;rw[h.same n];constructor
 ·exact Or.inl
 ·rintro(k| ⟨k1,k2⟩)
  ·exact k
  ·rcases he with rfl|rfl
   ·exact absurd k1 (dz n)
   ·exact absurd k2 (dz n)
theorem Rv (a b:List Pr):uY (pE a) (pE b)=uY a b:=Ie (oz _ _) fun n=>by rw[oC,lO,lO]
theorem Ij (s:List Pr):∀n:Int,s.foldl (fun n r=>n+r.2-r.1+1) n=n+jA s:=by
 unfold jA
 induction s with
 |nil=>intro n;simp
 |cons r s ih=>intro n;rw[List.foldl_cons,List.foldl_cons,ih,ih (0+r.2-r.1+1)];omega
theorem qD:jA []=0:=rfl
theorem mU (r:Pr)(s:List Pr):jA (r::s)=(r.2-r.1+1)+jA s:=by
 rw[jA,List.foldl_cons,Ij];omega
theorem vg {α:Type}(p q:α->Bool)(l:List α):l.countP (fun x=>p x||q x)+l.countP (fun x=>p x&&q x)=l.countP p+l.countP q:=by
 induction l with
 |nil=>simp
 |cons x l ih=>
  simp only[List.countP_cons];cases p x<;>cases q x<;>simp at* <;>omega
theorem j5 (a b:Nat)(hab:a<=b):∀B:Nat,(List.range B).countP (fun k=>decide (a<=k∧k<=b))=min (b+1) B-min a B
 |0=>by simp
 |B+1=>by
  rw[List.range_succ,List.countP_append,j5 a b hab B];by_cases c:a<=B∧B<=b
  ·simp[c];omega
  ·simp[c];omega
theorem rP (B:Nat)(hB:(B:Int)=4294967296):∀s:List Pr,Cn s->jA s=((List.range B).countP (fun k:Nat=>hasB s (k:Int)):Nat)
 |[],_=>by simp[qD,hasB]
 |r::s,h=>by
  obtain⟨h1,h2,h3⟩:=bE.1 h;have ih:=rP B hB s h3;have e0:=vg (fun k:Nat=>decide (r.1.toNat<=k∧k<=r.2.toNat)) (fun k:Nat=>hasB s (k:Int)) (List.range B);have e1:=j5 r.1.toNat r.2.toNat (by omega) B;have e2:(List.range B).countP (fun k:Nat=>decide (r.1.toNat<=k∧k<=r.2.toNat)&&hasB s (k:Int))=0:=by
   rw[List.countP_eq_zero];intro k _ hk;simp only[Bool.and_eq_true,decide_eq_true_eq,fg]at hk;have:=h.fw hk.2;omega
  have e3:(List.range B).countP (fun k:Nat=>hasB (r::s) (k:Int))=(List.range B).countP (fun k:Nat=>decide (r.1.toNat<=k∧k<=r.2.toNat)||hasB s (k:Int)):=by
   apply List.countP_congr;intro k hk;have hkB:k<B:=List.mem_range.1 hk;simp only[Bool.or_eq_true,decide_eq_true_eq,fg];rw[aT];constructor
   ·rintro(k1|k1)
    ·exact Or.inl (by omega)
    ·exact Or.inr k1
   ·rintro(k1|k1)
    ·exact Or.inl (by omega)
    ·exact Or.inr k1
  rw[mU,ih,e3];omega
theorem Ff (a b:List Pr):jA (Di a b)+jA (uY a b)=jA (pE a)+jA (pE b):=by
 obtain⟨B,hB⟩:∃B:Nat,(B:Int)=4294967296:=⟨4294967296,rfl⟩;rw[rP B hB _ (Ic a b),rP B hB _ (oz a b),rP B hB _ (jX a),rP B hB _ (jX b)];have e:=vg (fun k:Nat=>hasB a (k:Int)) (fun k:Nat=>hasB b (k:Int)) (List.range B);have c1:(fun k:Nat=>hasB (Di a b) (k:Int))=fun k:Nat=>hasB a (k:Int)||hasB b (k:Int):=by
  funext k;exact qC (by rw[wN,Bool.or_eq_true,fg,fg])
 have c2:(fun k:Nat=>hasB (uY a b) (k:Int))=fun k:Nat=>hasB a (k:Int)&&hasB b (k:Int):=by
  funext k;exact qC (by rw[oC,Bool.and_eq_true,fg,fg])
 have c3:(fun k:Nat=>hasB (pE a) (k:Int))=fun k:Nat=>hasB a (k:Int):=by
  funext k;exact qC (by rw[lO,fg])
 have c4:(fun k:Nat=>hasB (pE b) (k:Int))=fun k:Nat=>hasB b (k:Int):=by
  funext k;exact qC (by rw[lO,fg])
 rw[c1,c2,c3,c4];omega
def Rx:List Pr->Int
 |[]=>0
 |r::_=>r.1
def Ry (s:List Pr):Bool:=!s.isEmpty
def gL:List Pr->List Pr
 |[]=>[]
 |r::l=>if r.1<r.2 then(r.1+1,r.2)::l else l
theorem gy (r:Pr)(l:List Pr):gL (r::l)=if r.1<r.2 then(r.1+1,r.2)::l else l:=rfl
theorem yR {r:Pr}{l:List Pr}(h:Cn (r::l)):Rt (r::l) [(r.1,r.1)]=gL (r::l)∧Cn (gL (r::l))∧jA (gL (r::l))=jA (r::l)-1∧(gL (r::l)).length<=(r::l).length∧∀n,dm (gL (r::l)) n↔dm (r::l) n∧r.1<n:=by
 obtain⟨h1,h2,h3⟩:=bE.1 h;have hc:Cn (gL (r::l)):=by
  rw[gy];split
  ·exact bE.2 ⟨by simp only;omega,h2,h3⟩
  ·exact h3
 have hi:∀n,dm (gL (r::l)) n↔dm (r::l) n∧r.1<n:=fun n=>by
  rw[gy];split
  ·rw[aT,aT];simp only;constructor
   ·rintro(k|k)
    ·exact⟨Or.inl (by omega),by omega⟩
    ·have:=h.fw k;exact⟨Or.inr k,by omega⟩
   ·rintro⟨k|k,k2⟩
    ·exact Or.inl (by omega)
    ·exact Or.inr k
  ·rw[aT];constructor
   ·intro k;have:=h.fw k;exact⟨Or.inr k,by omega⟩
   ·rintro⟨k|k,k2⟩
    ·omega
    ·exact k
 refine⟨(Ru hc fun n=>?_).symm,hc,?_,?_,hi⟩
 ·rw[hi n,eW];constructor
  ·rintro⟨k1,k2⟩;exact⟨k1,by simp only;omega⟩
  ·rintro⟨k1,k2⟩;have:=h.wK k1;have:=k1.1;have:=k1.2.1;simp only at k2;exact⟨k1,by omega⟩
 ·rw[gy];split
  ·rw[mU,mU];simp only;omega
  ·rw[mU];omega
 ·rw[gy];split<;>simp
end
section
def ax (x:Pr):List Value:=[.int .i64 x.1,.int .i64 x.2]
def GR (w w':World):Prop:=∃q os',w'=grow (w.drewN q) os'
theorem GR.refl (w:World):GR w w:=⟨0,#[],by rw[grow_empty];rfl⟩
theorem GR.drew {w w':World}(h:GR w w'):GR w w'.drew:=by
 obtain⟨q,os,rfl⟩:=h;exact⟨q+1,os,rfl⟩
theorem GR.alloc {w w':World}(h:GR w w')(o:Obj):GR w (w'.alloc o):=by
 obtain⟨q,os,rfl⟩:=h;exact⟨q,os++#[o],by rw[alloc_eq_grow,grow_grow]⟩
theorem GR.below {w w':World}(h:GR w w'):Below w.heap.size w w':=by
 obtain⟨q,os,rfl⟩:=h;exact⟨rfl,rfl,rfl,by rw[size_grow];exact Nat.le_add_right _ _,fun k hk=>heap_grow_old _ _ (by simpa using hk)⟩
section
variable {α:Type}[Inhabited α]
def cx (enc:α->List Value)(k:Nat)(w:World)(b off:Nat)(l:List α):Prop:=∀t,t<l.length*k->w.cell? ⟨b,off+t,none⟩=some (flatK enc k l.toArray)[t]!
def Row (enc:α->List Value)(k:Nat)(w:World)(v:Value)(l:List α):Prop:=
 ∃ao cap,v=.slice ao l.length cap∧l.length<=cap∧(ao=none->cap=0)∧(l≠[]->∃b off,ao=some ⟨b,off,none⟩∧b<w.heap.size∧cx enc k w b off l)
def Own (enc:α->List Value)(k base:Nat)(w:World)(v:Value)(l:List α):Prop:=
 ∃ao cap,v=.slice ao l.length cap∧l.length<=cap∧(ao=none->cap=0)∧(l≠[]->∃b off,ao=some ⟨b,off,none⟩∧base<=b∧b<w.heap.size∧HoldsK enc k w b off l.toArray)
variable {enc:α->List Value}{k base:Nat}{w w':World}{v:Value}{l:List α}
theorem rQ {b off:Nat}(h:HoldsK enc k w b off l.toArray):cx enc k w b off l:=fun t ht=>(h t (by simpa using ht)).1
theorem Own.row (h:Own enc k base w v l):Row enc k w v l:=by
 obtain⟨ao,cap,e,h1,h2,h3⟩:=h;refine⟨ao,cap,e,h1,h2,fun hne=>?_⟩;obtain⟨b,off,e2,_,hb,hH⟩:=h3 hne;exact⟨b,off,e2,hb,rQ hH⟩
theorem Row.below (h:Row enc k w v l)(hb:Below w.heap.size w w'):Row enc k w' v l:=by
 obtain⟨ao,cap,e,h1,h2,h3⟩:=h;refine⟨ao,cap,e,h1,h2,fun hne=>?_⟩;obtain⟨b,off,e2,hlt,hH⟩:=h3 hne;exact⟨b,off,e2,Nat.lt_of_lt_of_le hlt hb.size,fun t ht=>(hb.cell (p:=⟨b,off+t,none⟩) hlt).trans (hH t ht)⟩
theorem Own.mono {base':Nat}(h:Own enc k base w v l)(hb:base'<=base):Own enc k base' w v l:=by
 obtain⟨ao,cap,e,h1,h2,h3⟩:=h;refine⟨ao,cap,e,h1,h2,fun hne=>?_⟩;obtain⟨b,off,e2,G6,r⟩:=h3 hne;exact⟨b,off,e2,Nat.le_trans hb G6,r⟩
theorem Own.nil:Own enc k base w (.slice none 0 0) ([]:List α):=⟨none,0,rfl,Nat.le_refl _,fun _=>rfl,fun h=>absurd rfl h⟩
theorem uB {e:TypeId}{g n:Nat}{cur:Array Value}(hb:w.heap[g]? =some (.cells cur e (0,0)))(hn:l.length=n)(hs:n*k<=cur.size)(ht:cur.toList.take (n*k)=(flatK enc k l.toArray).toList):HoldsK enc k w g 0 l.toArray:=by
 intro t YM;have ht':t<n*k:=by rw[<-hn];simpa using YM
 refine⟨?_,by simp[World.frozen?,hb]⟩;have h1:(cur.toList.take (n*k))[t]? =(flatK enc k l.toArray).toList[t]? :=by rw[ht]
 rw[List.getElem?_take_of_lt ht',List.getElem?_eq_getElem (by simpa using(by omega:t<cur.size)),List.getElem?_eq_getElem (by rw[Array.length_toList];exact YM)]at h1;simp only[World.cell?,hb,Nat.zero_add];rw[getElem!_pos _ t YM];have h2:=Option.some.inj h1;simp only[Array.getElem_toList]at h2;rw[Array.getElem?_eq_getElem (by omega),h2];rfl
theorem bI {e:TypeId}{n:Nat}(hk:0<k)(h:w.ownsRow base e k v n (flatK enc k l.toArray).toList):Own enc k base w v l:=by
 obtain⟨h0,h1⟩:=h;have hn:l.length=n:=by
  have:l.length*k=n*k:=by simpa using h0
  exact Nat.eq_of_mul_eq_mul_right hk this
 rcases h1 with⟨rfl,rfl⟩| ⟨g,cap,cur,rfl,hb,hh,hc,hm,hs,ht⟩
 ·obtain rfl:l=[]:=List.length_eq_zero_iff.1 hn;exact Own.nil
 ·subst hn;refine⟨some ⟨g,0,none⟩,cap,rfl,hc,(fun h=>by cases h),fun hne=>⟨g,0,rfl,hb,(Array.getElem?_eq_some_iff.1 hh).1,uB hh rfl (by rw[hs];exact Nat.mul_le_mul_right k hc) ht⟩⟩
theorem dt (h1:∀x,∀v∈enc x,v.oneCell'=true)(hk:∀x,(enc x).length=k):∀u∈(flatK enc k l.toArray).toList,u.oneCell'=true:=fun u hu=>by
 obtain⟨t,ht,rfl⟩:=List.getElem_of_mem hu;have ht':t<l.length*k:=by simpa using ht
 have hk0:0<k:=by
  rcases Nat.eq_zero_or_pos k with h|h
  ·subst h;omega
  ·exact h
 have e:=get_flatK enc k l.toArray t (by simpa using ht');rw[getElem!_pos _ t (by simpa using ht')]at e;rw[Array.getElem_toList,e];refine h1 l.toArray[t/k]! _ ?_;rw[getElem!_pos (enc l.toArray[t/k]!) (t%k) (by rw[hk];exact Nat.mod_lt _ hk0)];exact List.getElem_mem _
end
theorem cD (x:Pr):(ax x).length=2:=rfl
theorem fh (x:Pr):∀v∈ax x,v.oneCell'=true:=fun v hv=>by simp[ax]at hv;rcases hv with rfl|rfl<;>rfl
theorem fV:(Tryz.prog.info? 112).map (fun i=>(i.zero,i.size,i.bytes))=some (some (.agg #[.int .i64 0,.int .i64 0]),2,16):=by kernel_rfl
section
variable {α:Type}[Inhabited α]
theorem vh (d:Array α)(i:Nat):d[i]! =d.toList[i]! :=by
 by_cases h:i<d.size
 ·rw[getElem!_pos d i h,getElem!_pos d.toList i (by simpa using h)];simp
 ·rw[getElem!_neg d i h,getElem!_neg d.toList i (by simpa using h)]
theorem uC {l l':List α}(hs:l.length=l'.length)(h:∀i,i<l.length->l[i]! =l'[i]!):l=l':=by
 apply List.ext_getElem hs;intro i h1 h2;have:=h i h1
 rwa [getElem!_pos l i h1,getElem!_pos l' i h2]at this
theorem Ik (l r:List α)(i:Nat)(h:i<l.length):(l++r)[i]! =l[i]! :=by
 rw[getElem!_pos l i h,getElem!_pos (l++r) i (by simp;omega)];exact List.getElem_append_left h
theorem Fg (l r:List α)(i:Nat):(l++r)[l.length+i]! =r[i]! :=by
 by_cases h:i<r.length
 ·rw[getElem!_pos r i h,getElem!_pos (l++r) _ (by simp;omega)];simp
 ·rw[getElem!_neg r i h,getElem!_neg (l++r) _ (by simp;omega)]
theorem cA {W:World}{base:Nat}{e:TypeId}{k:Nat}{v:Value}{n:Nat}{xs:List Value}(h:W.ownsRow base e k v n xs)(m:Nat)(os:Array Obj):(grow (W.drewN m) os).ownsRow base e k v n xs:=by
 obtain⟨h1,h2⟩:=h;refine⟨h1,?_⟩;rcases h2 with h2| ⟨g,cap,cur,hv,hg,hh,r⟩
 ·exact Or.inl h2
 ·exact Or.inr ⟨g,cap,cur,hv,hg,by rw[heap_grow_old _ _ (by exact(Array.getElem?_eq_some_iff.1 hh).1)];exact hh,r⟩
theorem cE (enc:α->List Value)(k:Nat)(hk:∀x,(enc x).length=k)(l:List α)(x:α):(flatK enc k (l++[x]).toArray).toList=(flatK enc k l.toArray).toList++enc x:=by
 apply uC
 ·simp[hk,Nat.add_mul]
 ·intro t ht;have ht':t< (l.length+1)*k:=by simpa using ht
  have hk0:0<k:=by
   rcases Nat.eq_zero_or_pos k with h|h
   ·subst h;omega
   ·exact h
  rw[<-vh (flatK enc k (l++[x]).toArray) t,get_flatK _ _ _ _ (by simpa using ht')];by_cases c:t<l.length*k
  ·rw[Ik _ _ _ (by simpa using c),<-vh (flatK enc k l.toArray) t,get_flatK _ _ _ _ (by simpa using c)];have:t/k<l.length:=(Nat.div_lt_iff_lt_mul hk0).2 c
   congr 2
   rw[getElem!_pos _ _ (by simp;omega),getElem!_pos _ _ (by simpa using this)];simp[this]
  ·obtain⟨s,rfl⟩:∃s,t=(flatK enc k l.toArray).toList.length+s:=⟨t-l.length*k,by simp;omega⟩;rw[Fg];have hs:s<k:=by
    rw[Nat.add_mul,Nat.one_mul]at ht';simp at ht';omega
   have e1:((flatK enc k l.toArray).toList.length+s)/k=l.length:=by
    rw[Array.length_toList,size_flatK,List.size_toArray,Nat.mul_comm,Nat.mul_add_div hk0,Nat.div_eq_of_lt hs,Nat.add_zero]
   have e2:((flatK enc k l.toArray).toList.length+s)%k=s:=by
    rw[Array.length_toList,size_flatK,List.size_toArray,Nat.mul_comm,Nat.mul_add_mod,Nat.mod_eq_of_lt hs]
   rw[e1,e2,getElem!_pos (l++[x]).toArray l.length (by simp)];simp
end
theorem fJ {W:World}{base:Nat}{e:TypeId}{k:Nat}{v:Value}{n:Nat}{xs:List Value}(h:W.ownsRow base e k v n xs):v.ownBlock=none∨∃r,v.ownBlock=some r∧base<=r:=by
 rcases h.2 with⟨rfl,_⟩| ⟨g,cap,cur,rfl,hg,_⟩
 ·exact Or.inl rfl
 ·exact Or.inr ⟨g,rfl,hg⟩
theorem cW {w wr:World}{ao:Option Addr}{l:List Pr}(h3:l≠[]->∃b off,ao=some ⟨b,off,none⟩∧b<w.heap.size∧cx ax 2 w b off l)(i:Nat)(hi:i<l.length)(hb:Below w.heap.size w wr):
  ∃b off,ao=some ⟨b,off,none⟩∧b<w.heap.size∧wr.cell? ⟨b,off+i*2,none⟩=some (.int .i64 l[i]!.1)∧wr.cell? ⟨b,off+i*2+1,none⟩=some (.int .i64 l[i]!.2):=by
 obtain⟨b,off,e,hlt,hc⟩:=h3 (by intro h;rw[h]at hi;simp at hi);refine⟨b,off,e,hlt,?_,?_⟩
 ·rw[hb.cell (p:=⟨b,off+i*2,none⟩) hlt,hc (i*2) (by omega),get_flatK _ _ _ _ (by simp;omega),show i*2/2=i by omega,show i*2%2=0 by omega];simp[ax]
 ·rw[Nat.add_assoc,hb.cell (p:=⟨b,off+(i*2+1),none⟩) hlt,hc (i*2+1) (by omega),get_flatK _ _ _ _ (by simp;omega),show(i*2+1)/2=i by omega,show(i*2+1)%2=1 by omega];simp[ax]
theorem bU {α:Type}[Inhabited α]{l:List α}{i:Nat}(h:i<l.length):l.take (i+1)=l.take i++[l[i]!]:=by
 rw[List.take_add_one,List.getElem?_eq_getElem h,getElem!_pos l i h];rfl
theorem j6 {α:Type}[Inhabited α]{l:List α}{i:Nat}(h:i<l.length):l[i]! ∈l:=by
 rw[getElem!_pos l i h];exact List.getElem_mem h
theorem oD {α:Type}[Inhabited α]{l:List α}{i:Nat}(h:i<l.length):l.drop i=l[i]! ::l.drop (i+1):=by
 rw[List.drop_eq_getElem_cons h,getElem!_pos l i h]
theorem below_grown {B:Nat}{w W:World}(h:Below B w W)(hB:B<=W.heap.size)(n:Nat)(os:Array Obj):Below B w (grow (W.drewN n) os):=h.trans ((GR.below (w:=W) ⟨n,os,rfl⟩).mono hB)
abbrev bp (base:Nat)(W:World)(v:Value)(l:List Pr):Prop:=W.ownsRow base 112 2 v l.length (flatK ax 2 l.toArray).toList
theorem bp.empty (base:Nat)(W:World):bp base W (.slice none 0 0) []:=by unfold bp;simpa[flatK]using World.ownsRow_nil W base 112 2
theorem bp.own {base:Nat}{W:World}{v:Value}{l:List Pr}(h:bp base W v l):Own ax 2 base W v l:=bI (by decide) h
theorem bp.step {base:Nat}{W w1:World}{v v':Value}{l:List Pr}{x:Pr}(hbase:base<=W.heap.size)(h:bp base W v l)(hgrow:W.grownBy w1 v.ownBlock)(hown:w1.ownsRow base 112 2 v' (l.length+1) ((flatK ax 2 l.toArray).toList++ax x)):
  bp base w1 v' (l++[x])∧∀w0,Below base w0 W->Below base w0 w1:=by
 refine⟨?_,fun w0 hb=>hb.grown hgrow hbase fun k hk=>?_⟩
 ·show w1.ownsRow base 112 2 v' (l++[x]).length (flatK ax 2 (l++[x]).toArray).toList;rw[List.length_append,List.length_singleton,cE ax 2 cD];exact hown
 ·rcases fJ h with hr| ⟨r,hr,hle⟩
  ·rw[hr]at hk;cases hk
  ·rw[hr]at hk;cases hk;exact hle
theorem cj {α:Type}[Inhabited α](enc:α->List Value)(k:Nat)(hk:∀x,(enc x).length=k):∀(m l:List α),(flatK enc k (l++m).toArray).toList=(flatK enc k l.toArray).toList++(flatK enc k m.toArray).toList
 |[],l=>by simp[flatK]
 |x::m,l=>by
  have e1:l++x::m=(l++[x])++m:=by simp
  have e2:(flatK enc k (x::m).toArray).toList=enc x++(flatK enc k m.toArray).toList:=by
   have h:=cj enc k hk m [x];have h2:=cE enc k hk [] x;rw[List.nil_append]at h2;rw[h2]at h;simpa[flatK]using h
  rw[e1,cj enc k hk m (l++[x]),cE enc k hk,e2,List.append_assoc]
theorem yS {ops:Array Oper}{rest:List Oper}{o:Oper}{a:Act}{Q:Exit->Act->World->Prop}{w:World}(hgd:o.guard=.none)(s x:Operand)
    (ho:o.op=.call {callee:=.builtin .append,args:=#[s,x],argTypes:=#[108,108]})(base:Nat)(v:Value)(l:List Pr)(hs:a.eval s=v)(hown:bp base w v l)
    (u:Value)(m:List Pr)(hx:a.eval x=u)(hu:Row ax 2 w u m)(hl:l.length+m.length<1000000)(hbase:base<=w.heap.size)(lm:List Pr)(hlm:l++m=lm)
    (h:∀ao n c w',bp base w' (.slice ao n c) lm->(∀w0,Below base w0 w->Below base w0 w')->wpList Tryz.prog ops Q rest (a.put o.dst (.slice ao n c)) w'):wpList Tryz.prog ops Q (o::rest) a w:=by
  subst hlm;obtain⟨i0,hi,hz0,hz1,hz2⟩:=info_parts fV;obtain⟨ao,cap,rfl,h1,h2,h3⟩:=hu;obtain⟨av,nv,cv,rfl⟩:∃ao n c,v=.slice ao n c:=by
    rcases hown.2 with⟨h,_⟩| ⟨g,cap,cur,h,_⟩
    · exact⟨_,_,_,h⟩
    · exact⟨_,_,_,h⟩
  cases ao with
  | none=>
    have hm:m=[]:=by
      rcases List.eq_nil_or_concat m with e| ⟨m',y,e⟩
      · exact e
      · obtain⟨b,off,e2,_⟩:=h3 (by rw[e];simp);cases e2
    subst hm;rw[h2 rfl]at hx;refine wpList_append_own_none hgd s x 108 ho base 112 i0 2 Tryz.underlying108 hi _ _ _ hs hown hx ?_;exact h _ _ _ _ (by rw[List.append_nil];exact hown) (fun _ hb=>hb)
  | some ad=>
    refine wpList_append_own w hgd s x 108 ho base 112 i0 _ 2 16 Tryz.underlying108 hi hz0 hz1 hz2 rfl (by decide) _ _ _ hs hown ad m.length cap (flatK ax 2 m.toArray).toList hx (by simp) ?_ (dt fh cD) (by unfold maxLen;omega) (by omega) hbase ?_
    · intro j u hj;obtain⟨hj1,hj2⟩:=List.getElem?_eq_some_iff.1 hj;have lQ:j<m.length*2:=by simpa using hj1
      obtain⟨b,off,e2,_,hc⟩:=h3 (by intro e;rw[e]at lQ;simp at lQ);cases e2;rw[Go.WideShapes.add_plain,hc j lQ,getElem!_pos _ j (by simpa using lQ),<-hj2];simp
    · intro v' w' g1 g2 _;obtain⟨cT,n',c',rfl⟩:∃ao n c,v'=.slice ao n c:=by
        rcases g1.2 with⟨h,_⟩| ⟨g,cap,cur,h,_⟩
        · exact⟨_,_,_,h⟩
        · exact⟨_,_,_,h⟩
      refine h _ _ _ _ ?_ (fun w0 hb=>hb.grown g2 hbase fun k hk=>?_)
      · show w'.ownsRow base 112 2 _ (l++m).length (flatK ax 2 (l++m).toArray).toList;rw[List.length_append,cj ax 2 cD];exact g1
      · rcases fJ hown with hr| ⟨r,hr,hle⟩
        · rw[hr]at hk;cases hk
        · rw[hr]at hk;cases hk;exact hle
theorem ownsRow_below {W W':World}{base:Nat}{e:TypeId}{k:Nat}{v:Value}{n:Nat}{xs:List Value}(h:W.ownsRow base e k v n xs)(hb:Below W.heap.size W W'):W'.ownsRow base e k v n xs:=by
 obtain⟨h1,h2⟩:=h;refine⟨h1,?_⟩;rcases h2 with h2| ⟨g,cap,cur,hv,hg,hh,r⟩
 ·exact Or.inl h2
 ·exact Or.inr ⟨g,cap,cur,hv,hg,by rw[hb.block g (Array.getElem?_eq_some_iff.1 hh).1];exact hh,r⟩
def Ba (lo:Nat)(w:World)(v:Value)(l:List Pr):Prop:=
 ∃ao cap,v=.slice ao l.length cap∧l.length<=cap∧(ao=none->cap=0)∧(l≠[]->∃b off,ao=some ⟨b,off,none⟩∧b≠lo∧b<w.heap.size∧cx ax 2 w b off l)
theorem yT {lo:Nat}{w:World}{v:Value}{x:Pr}{l:List Pr}(h:Ba lo w v (x::l)):
  ∃b off cap,v=.slice (some ⟨b,off,none⟩) (l.length+1) cap∧l.length+1<=cap∧b≠lo∧b<w.heap.size∧w.cell? ⟨b,off,none⟩=some (.int .i64 x.1)∧w.cell? ⟨b,off+1,none⟩=some (.int .i64 x.2)∧
   ∀ao,(l≠[]->ao=some ⟨b,off+2,none⟩)->(ao=none->cap-1=0)->Ba lo w (.slice ao l.length (cap-1)) l:=by
 obtain⟨ao,cap,rfl,h1,h2,h3⟩:=h;obtain⟨b,off,rfl,hlo,hb,hc⟩:=h3 (by simp);have hlen:(x::l).length=l.length+1:=rfl;have c0:=hc 0 (by rw[hlen];omega);have c1:=hc 1 (by rw[hlen];omega);rw[get_flatK _ _ _ _ (by simp)]at c0;rw[get_flatK _ _ _ _ (by simp;omega)]at c1;refine⟨b,off,cap,rfl,h1,hlo,hb,by simpa[ax]using c0,by simpa[ax]using c1,fun ao ha hn=>⟨ao,cap-1,rfl,by rw[hlen]at h1;omega,hn,fun hne=>⟨b,off+2,ha hne,hlo,hb,fun t ht=>?_⟩⟩⟩;have ct:=hc (t+2) (by rw[hlen];omega);rw[get_flatK _ _ _ _ (by simp;omega)]at ct;rw[get_flatK _ _ _ _ (by simpa using ht),show off+2+t=off+(t+2) by omega,ct];have e1:(t+2)/2=t/2+1:=by omega
 have e2:(t+2)%2=t%2:=by omega
 rw[e1,e2]
 congr 3
 have ht2:t/2<l.length:=by omega
 rw[getElem!_pos _ _ (by simp;omega),getElem!_pos _ _ (by simpa using ht2)];simp
theorem kN {α:Type}[Inhabited α]{enc:α->List Value}{k:Nat}{w:World}{b n:Nat}{T:TypeId}{fr:Nat×Nat}{cs:Array Value}{l:List α}(hb:w.heap[b]? =some (.cells cs T fr))(hcs:cs=flatK enc k l.toArray)(hn:l.length=n):Row enc k w (.slice (some ⟨b,0,none⟩) n n) l:=by
 subst hn;refine⟨_,_,rfl,Nat.le_refl _,(fun h=>by cases h),fun _=>⟨b,0,rfl,(Array.getElem?_eq_some_iff.1 hb).1,fun t ht=>?_⟩⟩;simp only[World.cell?,hb,Nat.zero_add,hcs];have ht':t< (flatK enc k l.toArray).size:=by simpa using ht
 rw[Array.getElem?_eq_getElem ht',getElem!_pos _ t ht'];rfl
end
section
theorem bC {fn:Func}{p:Tmp}{ty:TypeId}(h:fn.results=#[.cell p ty])(tmps:Array Value)(P:Program)(w:World):
  (results fn tmps).run P w=((asAddr (tmps.getD p undef)).run P w).andThen fun a w₁=>(loadVar ty a).run P w₁:=by
 simp only[results,h];simp[Sem.run_bind,Result.andThen]
theorem rR (x:Pr):#[Value.int .i64 x.1,Value.int .i64 x.2]=flatK ax 2 [x].toArray:=by
 apply Array.ext';have:=cE ax 2 cD [] x;rw[List.nil_append]at this;rw[this];simp[flatK,ax]
theorem Il (x:Pr)(w:World):Calls Tryz.prog 136 #[.agg #[.int .i64 x.1,.int .i64 x.2]] w fun e w'=>e=.returned (.agg #[.int .i64 (cH x).1,.int .i64 (cH x).2])∧GR w w':=by
  go_enter Tryz.func136,Tryz.ntmps136;go_wp2
  (try simp only[Exit.inBlock,Exit.then])
  refine bodyPost_ret (v:=.agg #[.int .i64 (max x.1 0),.int .i64 (min x.2 4294967295)]) ?_ rfl ⟨rfl,?_⟩
  · rw[bC rfl];go_simp
  · exact((GR.refl w).alloc _).alloc _
theorem rS (x y:Pr)(W:World):Calls Tryz.prog 138 #[.agg #[.int .i64 x.1,.int .i64 x.2],.agg #[.int .i64 y.1,.int .i64 y.2]] W fun e w'=>e=.returned (.int .i64 (Lib.compareInt x.1 y.1))∧∃q os',w'=grow (W.drewN q) os':=by
 have hcon:=fun W'=>AnyG.cmp_Compare_int Tryz.Rk x.1 y.1 W';change ∀W',Calls Tryz.prog 139 _ _ _ at hcon;generalize Lib.compareInt x.1 y.1=r at hcon⊢;go_enter Tryz.func138,Tryz.ntmps138
 go_wp2_with (go_at_call 139;refine(hcon _).mono ?_;rintro e w' ⟨rfl,rfl⟩)
 go_ret;exact⟨rfl,0,_,by rw[alloc_eq_grow,alloc_eq_grow,grow_grow];rfl⟩
theorem Bb (n:Int)(w:World):Calls Tryz.prog 160 #[.int .i64 n] w fun e w'=>∃v,e=.returned v∧Row ax 2 w' v [(n,n)]∧Below w.heap.size w w':=by
 go_enter Tryz.func160,Tryz.ntmps160;go_wp2;go_ret;refine⟨_,rfl,kN (cs:=#[.int .i64 n,.int .i64 n]) (heap_alloc_new _ _) (rR (n,n)) rfl,?_⟩;exact(Below.refl _ w).alloc (Nat.le_refl _) _
theorem Im (x:Pr)(n:Int)(b:Nat)(W:World)(hb:W.cell? ⟨b,0,none⟩=some (.int .i64 n)):Calls Tryz.prog 204 #[.agg #[.int .i64 x.1,.int .i64 x.2],.pointer (some ⟨b,0,none⟩)] W fun e w'=>e=.returned (.bool (Rs n x))∧Below W.heap.size W w':=by
 have hb2:(W.alloc (.cells #[.int .i64 x.1,.int .i64 x.2] 112)).cell? ⟨b,0,none⟩=some (.int .i64 n):=Lib.cell?_alloc_some _ hb;clear hb;unfold Rs;by_cases h1:x.1<=n
 ·by_cases h2:n<=x.2
  ·go_enter Tryz.func204,Tryz.ntmps204;go_wp2;go_ret;exact⟨by simp[h1,h2],(Below.refl _ W).alloc (Nat.le_refl _) _⟩
  ·go_enter Tryz.func204,Tryz.ntmps204;go_wp2;go_ret;exact⟨by simp[h2],(Below.refl _ W).alloc (Nat.le_refl _) _⟩
 ·go_enter Tryz.func204,Tryz.ntmps204;go_wp2;go_ret;exact⟨by rw[decide_eq_false (by omega:¬x.1<=n)];simp,(Below.refl _ W).alloc (Nat.le_refl _) _⟩
theorem yU (ao:Option Addr)(cap:Nat)(f:Value)(w:World):Calls Tryz.prog 227 #[.slice ao 0 cap,f] w fun e w'=>e=.returned (.int .i64 (-1))∧w'=w:=by
 go_enter Tryz.func227,Tryz.ntmps227;go_wp2;refine wp_loop_rounds 1 ?_;rw[rounds_succ];go_wp2;go_ret;exact⟨rfl,rfl⟩
theorem rT (ao:Option Addr)(cap:Nat)(f:Value)(w:World):Calls Tryz.prog 203 #[.slice ao 0 cap,f] w fun e w'=>e=.returned (.bool false)∧w'=w:=by
 have C:Hid _:=yU ao cap f w;go_enter Tryz.func203,Tryz.ntmps203
 go_wp2_with (go_at_call 227;refine Calls.mono C.out ?_;rintro e w' ⟨rfl,rfl⟩)
 go_ret;exact⟨rfl,rfl⟩
theorem wP (v:Value)(l:List Pr)(n:Int)(b:Nat)(w:World)(h:Row ax 2 w v l)(hl:l.length<=1000000)(hb:w.cell? ⟨b,0,none⟩=some (.int .i64 n))(hlt:b<w.heap.size):
  Calls Tryz.prog 203 #[v,.func (.func 204) #[] #[.pointer (some ⟨b,0,none⟩)]] w fun e w'=>e=.returned (.bool (l.any (Rs n)))∧Below w.heap.size w w':=by
 obtain⟨ao,cap,rfl,h1,h2,h3⟩:=h;by_cases hne:l=[]
 ·subst hne;refine(rT ao cap _ w).mono ?_;rintro e w' ⟨rfl,rfl⟩;exact⟨rfl,Below.refl _ _⟩
 ·obtain⟨b',off,rfl,hb',hc⟩:=h3 hne;have C:=AnyQ.slices_ContainsFunc Tryz.yH 2 Tryz.isAgg112 Tryz.sizeOf112 ax cD (Rs n) 204 #[.pointer (some ⟨b,0,none⟩)] (enters_of Tryz.func204 (by kernel_rfl) rfl) b' off l.length cap l w
   (fun W x hB=>(Im x n b W ((hB.cell (p:=⟨b,0,none⟩) hlt).trans hb)).mono fun e w' ⟨he,hb2⟩=>⟨he,hB.trans (hb2.mono hB.size)⟩) (Nat.le_refl _) (by omega) hb' (fun j hj i u hi=>?_)
  ·rw[List.take_length]at C;exact C
  ·have hi2:i<2:=by
    have:=(List.getElem?_eq_some_iff.1 hi).1
    rwa [cD]at this
   rw[Nat.add_assoc,hc (j*2+i) (by omega),get_flatK _ _ _ _ (by simp;omega)];have e1:(j*2+i)/2=j:=by omega
   have e2:(j*2+i)%2=i:=by omega
   rw[e1,e2];have e3:l.toArray[j]! =l[j]! :=by simp
   rw[e3];have:=List.getElem?_eq_some_iff.1 hi;rw[getElem!_pos _ i this.1,this.2]
theorem Rz (l:List Pr)(n:Int)(h0:0<=n)(h1:n<=4294967295):l.any (Rs n)=hasB l n:=by
 unfold hasB;rw[decide_eq_true h0,decide_eq_true h1];rfl
theorem MH (v:Value)(l:List Pr)(n:Int)(w:World)(h:Row ax 2 w v l)(hl:l.length<=1000000):
  Calls Tryz.prog 170 #[v,.int .i64 n] w fun e w'=>e=.returned (.bool (hasB l n))∧Below w.heap.size w w':=by
 have B:Hid (Below w.heap.size w (w.alloc (.cells #[.int .i64 n] 3))):=(Below.refl _ w).alloc (Nat.le_refl _) _;have C:Hid _:=wP v l n w.heap.size (w.alloc (.cells #[.int .i64 n] 3)) (h.below B.out) hl (by simp) (by simp);by_cases h0:0<=n
 ·by_cases h1:n<=4294967295
  ·rw[Rz l n h0 h1]at C;obtain⟨f,hf⟩:∃f,hasB l n=f:=⟨_,rfl⟩;rw[hf]at C⊢;have hz:(w.alloc (.cells #[.int .i64 n] 3)).heap.size=w.heap.size+1:=by simp
   clear h hf;go_enter Tryz.func170,Tryz.ntmps170
   go_wp2_with (go_at_call 203;refine Calls.mono C.out ?_;rintro e w' ⟨rfl,hb⟩)
   all_goals
    go_ret;exact⟨rfl,B.out.trans (hb.mono (by omega))⟩
  ·have e:hasB l n=false:=jx fun k=>h1 k.2.1;rw[e];clear h C e;go_enter Tryz.func170,Tryz.ntmps170;go_wp2;go_ret;exact⟨rfl,B.out⟩
 ·have e:hasB l n=false:=jx fun k=>h0 k.1;rw[e];clear h C e;go_enter Tryz.func170,Tryz.ntmps170;go_wp2;go_ret;exact⟨rfl,B.out⟩
end
section
section
variable {w w':World}{q i k:Nat}{cs:Array Value}{t:TypeId}
def Cl (w:World)(q:Nat)(cs:Array Value)(t:TypeId):Prop:=w.heap[q]? =some (.cells cs t (0,0))
theorem Cl.lt (h:Cl w q cs t):q<w.heap.size:=(Array.getElem?_eq_some_iff.1 h).1
theorem Cl.cell (h:Cl w q cs t)(i:Nat):w.cell? ⟨q,i,none⟩=cs[i]? :=by unfold Cl at h;simp[World.cell?,h]
theorem Cl.frozen (h:Cl w q cs t)(i:Nat):w.frozen? ⟨q,i,none⟩=false:=by unfold Cl at h;simp[World.frozen?,h]
theorem Cl.set (h:Cl w q cs t)(i:Nat)(v:Value):Cl (w.setCell ⟨q,i,none⟩ v) q (cs.setIfInBounds i v) t:=by
 unfold Cl at h⊢;simp[World.setCell,Array.getElem?_modify,h]
theorem Cl.new (w:World)(cs:Array Value)(t:TypeId):Cl (w.alloc (.cells cs t)) w.heap.size cs t:=by
 show(w.heap.push _)[w.heap.size]? =_;simp
theorem Cl.below {B:Nat}(h:Cl w q cs t)(b:Below B w w')(hq:q<B):Cl w' q cs t:=(b.block q hq).trans h
theorem Cl.on (h:Cl w q cs t)(b:Below w.heap.size w w'):Cl w' q cs t:=h.below b h.lt
theorem Cl.alloc (h:Cl w q cs t)(o:Obj):Cl (w.alloc o) q cs t:=h.on ((Below.refl _ _).alloc (Nat.le_refl _) _)
theorem Cl.two {a b:Value}(h:Cl w q #[a,b] t):w.cell? ⟨q,0,none⟩=some a∧w.cell? ⟨q,1,none⟩=some b:=⟨h.cell 0,h.cell 1⟩
theorem Cl.set2 {x y:Value}(h:Cl w q #[x,y] t)(a b:Value):Cl ((w.setCell ⟨q,0,none⟩ a).setCell ⟨q,1,none⟩ b) q #[a,b] t:=(h.set 0 a).set 1 b
end
end
section
theorem bp.other {base:Nat}{W:World}{v:Value}{l:List Pr}(h:bp base W v l){j:Nat}(hj:W.heap.size<=j):v.ownBlock≠some j:=by
 rcases h.2 with⟨rfl,_⟩| ⟨g,cap,cur,rfl,hg,hh,_⟩
 ·simp[Value.ownBlock]
 ·have:=(Array.getElem?_eq_some_iff.1 hh).1;simp only[Value.ownBlock,ne_eq,Option.some.injEq];omega
theorem qE {ops:Array Oper}{rest:List Oper}{o:Oper}{a:Act}{Q:Exit->Act->World->Prop}{w:World}(hgd:o.guard=.none)(s x:Operand)
  (ho:o.op=.call {callee:=.builtin .append,args:=#[s,x],argTypes:=#[108,108]})(base:Nat)(v:Value)(l:List Pr)(hs:a.eval s=v)(hown:bp base w v l)
  (b off c:Nat)(hx:a.eval x=.slice (some ⟨b,off,.none⟩) 1 c)(y:Pr)(c0:w.cell? ⟨b,off,.none⟩=some (.int .i64 y.1))(c1:w.cell? ⟨b,off+1,.none⟩=some (.int .i64 y.2))(hl:l.length<1000000)(hbase:base<=w.heap.size)
  (h:∀ao n c w',bp base w' (.slice ao n c) (l++[y])->(∀w0,Below base w0 w->Below base w0 w')->(∀j,j<w.heap.size->v.ownBlock≠some j->w'.heap[j]? =w.heap[j]?)->wpList Tryz.prog ops Q rest (a.put o.dst (.slice ao n c)) w'):wpList Tryz.prog ops Q (o::rest) a w:=by
 obtain⟨i0,hi,hz0,hz1,hz2⟩:=info_parts fV;refine wpList_append_own w hgd s x 108 ho base 112 i0 _ 2 16 Tryz.underlying108 hi hz0 hz1 hz2 rfl (by decide) v _ _ hs hown ⟨b,off,.none⟩ 1 c (ax y) hx rfl ?_ (fh y) (by unfold maxLen;omega) (by omega) hbase ?_
 ·intro j u hj;simp only[ax]at hj
  match j,hj with
  |0,hj=>simp at hj;subst hj;simpa[Addr.add]using c0
  |1,hj=>simp at hj;subst hj;simpa[Addr.add]using c1
 ·intro v' w' h1 h2 _;obtain⟨s1,s2⟩:=bp.step hbase hown h2 h1;obtain⟨cT,n',c',rfl⟩:∃ao n c,v'=.slice ao n c:=by
   rcases h1.2 with⟨h,_⟩| ⟨g,cap,cur,h,_⟩
   ·exact⟨_,_,_,h⟩
   ·exact⟨_,_,_,h⟩
  exact h _ _ _ _ s1 s2 fun j hj hne=>h2.block j hj fun e=>hne e.symm
theorem U0 {z:Int}(h0:-4294967296<=z)(h1:z<=17179869184):wrap64 z=z:=by unfold wrap64;omega
end
section
end
end
end Go.Proofs.YtcenfooehjcddaaGreatDoor
