/- Walks of the package cowtree and of what it stands on: lemmas, made short. -/
import Derived.Shelf.Strings.OnBuilder
import Derived.Shelf.Strings.Repeat
import Derived.Ground.NamesProg
import Derived.Shelf.SlGeneric
import Derived.Shelf.SlicesG.Cmp
import Derived.Shelf.SlicesQ.IndexFunc
import Derived.Shelf.Spec.SlicesGrow
import Derived.Ground.SlgcProg
import Derived.Ground.SlgfProg
import Derived.Ground.Names8Prog
import Derived.Shelf.Small.Strs
import Derived.Shelf.SlicesE.Clone
import Derived.Ground.SlgnProg
import Derived.Test.YtceoeaemenhbhaaGreatDoorProg
import Derived.Test.YtceoeaemenhbhaaGreatDoorRows
import Derived.WalkKit
import Derived.WalkSpells
import Derived.WalkLawsBesides
import Derived.Laws.BitsAllLaws
import Derived.Test.YtceoeaemenhbhaaGreatDoorChecked
import Derived.Below
import Derived.LoopTactic
import Derived.Lib.LaidTab
import Derived.LaidMore
import Derived.MakeChecks
import Derived.OwnWalk
import Derived.Deep.QuietTactic
import Derived.Laws.OwnMore
import Derived.Laws.LoneSync
import Derived.ChangeMaps4
import Derived.Maps.Keyed
import Derived.BigRegion
import Derived.Maps.AppendAt
import Derived.Deep.RegionLaw
import Derived.Deep.LoopGhost
import Derived.BigQuiet
import Derived.Deep.RegionHeld3
import Derived.Maps.OwnIn
import Derived.Maps.OwnSet
import Derived.Lib.SlKeysI
set_option maxHeartbeats 16000000
set_option maxRecDepth 100000
set_option linter.unusedVariables false
set_option linter.unusedSimpArgs false
section
namespace Go.Proofs
open Go.Shelf
def Tryz.nU:Go.Shelf.Ren:=⟨fun|156=>145|165=>92|166=>93|169=>95|240=>134|241=>135|276=>165|277=>166|n=>n,fun|31=>66|9=>9|3=>3|4=>4|0=>0|20=>20|72=>167|76=>171|70=>164|37=>165|75=>170|127=>211|164=>234|5=>5|80=>173|n=>n,fun|n=>n⟩
theorem Tryz.AL:Go.Proofs.Lays.n156 Tryz.prog Tryz.nU:={
 mixed:=by kernel_rfl
 f156:=Tryz.func145.trans (congrArg some (by kernel_rfl))
 f165:=Tryz.func92.trans (congrArg some (by kernel_rfl))
 f166:=Tryz.func93.trans (congrArg some (by kernel_rfl))
 f169:=Tryz.func95.trans (congrArg some (by kernel_rfl))
 f240:=Tryz.func134.trans (congrArg some (by kernel_rfl))
 f241:=Tryz.func135.trans (congrArg some (by kernel_rfl))
 f276:=Tryz.func165.trans (congrArg some (by kernel_rfl))
 f277:=Tryz.func166.trans (congrArg some (by kernel_rfl))
 t0:=Tryz.underlying0
 a0:=Tryz.isAgg0
 z0:=Tryz.sizeOf0
 v0:=Tryz.zeroValue0
 t3:=Tryz.underlying3
 a3:=Tryz.isAgg3
 z3:=Tryz.sizeOf3
 v3:=Tryz.zeroValue3
 t4:=Tryz.underlying4
 a4:=Tryz.isAgg4
 z4:=Tryz.sizeOf4
 v4:=Tryz.zeroValue4
 t9:=Tryz.underlying9
 a9:=Tryz.isAgg9
 z9:=Tryz.sizeOf9
 v9:=Tryz.zeroValue9
 t20:=Tryz.underlying20
 a20:=Tryz.isAgg20
 z20:=Tryz.sizeOf20
 v20:=Tryz.zeroValue20
 t31:=Tryz.underlying66
 a31:=Tryz.isAgg66
 z31:=Tryz.sizeOf66
 v31:=Tryz.zeroValue66
 t37:=Tryz.underlying165
 a37:=Tryz.isAgg165
 z37:=Tryz.sizeOf165
 v37:=Tryz.zeroValue165
 t70:=Tryz.underlying164
 a70:=Tryz.isAgg164
 z70:=Tryz.sizeOf164
 v70:=Tryz.zeroValue164
 t72:=Tryz.underlying167
 a72:=Tryz.isAgg167
 z72:=Tryz.sizeOf167
 v72:=Tryz.zeroValue167
 t75:=Tryz.underlying170
 a75:=Tryz.isAgg170
 z75:=Tryz.sizeOf170
 v75:=Tryz.zeroValue170
 t76:=Tryz.underlying171
 a76:=Tryz.isAgg171
 z76:=Tryz.sizeOf171
 v76:=Tryz.zeroValue171
 t127:=Tryz.underlying211
 a127:=Tryz.isAgg211
 z127:=Tryz.sizeOf211
 v127:=Tryz.zeroValue211
 t164:=Tryz.underlying234
 a164:=Tryz.isAgg234
 z164:=Tryz.sizeOf234
 v164:=Tryz.zeroValue234}
theorem Tryz.gW:Builder.Extra Tryz.prog Tryz.nU:={
 sizeBuilder:=by kernel_rfl
 liesBuilder:=by kernel_rfl
 t5:=Tryz.underlying5
 a5:=Tryz.isAgg5
 z5:=Tryz.sizeOf5
 v5:=Tryz.zeroValue5
 infoByte:=by kernel_rfl
 cellsByte:=by kernel_rfl
 sizeByte:=by kernel_rfl
 neB5:=by decide}
open Go.RowKit in
theorem Tryz.strings_Join_none (a:Option Addr)(c:Nat)(sep:ByteArray)(w:World):
 Calls Tryz.prog 145 #[.slice a 0 c,.string sep] w fun e w'=>e=.returned (.string ⟨#[]⟩)∧w'=w:=Any.strings_Join_none Tryz.AL Tryz.gW a c sep w
open Go.RowKit in
theorem Tryz.strings_Join (bk o c:Nat)(xs:List ByteArray)(sep:ByteArray)(w:World)(hcells:∀(j:Nat) x,xs[j]? =some x->w.cell? ⟨bk,o+j,none⟩=some (.string x))(hbk:bk<w.heap.size)(hN:xs.length<=140737488355328)(hcap:xs.length<=c)(hlen:(Lib.join (xs.map (·.data.toList)) sep.data.toList).length<=140737488355328):
 Calls Tryz.prog 145 #[.slice (some ⟨bk,o,none⟩) xs.length c,.string sep] w fun e w'=>e=.returned (.string ⟨(Lib.join (xs.map (·.data.toList)) sep.data.toList).toArray⟩)∧Below w.heap.size w w':=Any.strings_Join Tryz.AL Tryz.gW bk o c xs sep w hcells hbk hN hcap hlen
def Tryz.nV:Go.Shelf.Ren:=⟨fun|105=>55|212=>90|99=>91|165=>92|166=>93|170=>94|169=>95|263=>131|264=>132|206=>133|240=>134|241=>135|276=>165|277=>166|n=>n,fun|9=>9|3=>3|4=>4|20=>20|0=>0|46=>161|109=>162|5=>5|72=>167|76=>171|51=>205|146=>206|53=>208|148=>209|70=>164|37=>165|75=>170|127=>211|164=>234|80=>173|n=>n,fun|n=>n⟩
theorem Tryz.JO:Go.Proofs.Lays.n105 Tryz.prog Tryz.nV:={
 mixed:=by kernel_rfl
 f99:=Tryz.func91.trans (congrArg some (by kernel_rfl))
 f105:=Tryz.func55.trans (congrArg some (by kernel_rfl))
 f165:=Tryz.func92.trans (congrArg some (by kernel_rfl))
 f166:=Tryz.func93.trans (congrArg some (by kernel_rfl))
 f169:=Tryz.func95.trans (congrArg some (by kernel_rfl))
 f170:=Tryz.func94.trans (congrArg some (by kernel_rfl))
 f206:=Tryz.func133.trans (congrArg some (by kernel_rfl))
 f212:=Tryz.func90.trans (congrArg some (by kernel_rfl))
 f240:=Tryz.func134.trans (congrArg some (by kernel_rfl))
 f241:=Tryz.func135.trans (congrArg some (by kernel_rfl))
 f263:=Tryz.func131.trans (congrArg some (by kernel_rfl))
 f264:=Tryz.func132.trans (congrArg some (by kernel_rfl))
 f276:=Tryz.func165.trans (congrArg some (by kernel_rfl))
 f277:=Tryz.func166.trans (congrArg some (by kernel_rfl))
 t0:=Tryz.underlying0
 a0:=Tryz.isAgg0
 z0:=Tryz.sizeOf0
 v0:=Tryz.zeroValue0
 t3:=Tryz.underlying3
 a3:=Tryz.isAgg3
 z3:=Tryz.sizeOf3
 v3:=Tryz.zeroValue3
 t4:=Tryz.underlying4
 a4:=Tryz.isAgg4
 z4:=Tryz.sizeOf4
 v4:=Tryz.zeroValue4
 t5:=Tryz.underlying5
 a5:=Tryz.isAgg5
 z5:=Tryz.sizeOf5
 v5:=Tryz.zeroValue5
 t9:=Tryz.underlying9
 a9:=Tryz.isAgg9
 z9:=Tryz.sizeOf9
 v9:=Tryz.zeroValue9
 t20:=Tryz.underlying20
 a20:=Tryz.isAgg20
 z20:=Tryz.sizeOf20
 v20:=Tryz.zeroValue20
 t37:=Tryz.underlying165
 a37:=Tryz.isAgg165
 z37:=Tryz.sizeOf165
 v37:=Tryz.zeroValue165
 t46:=Tryz.underlying161
 a46:=Tryz.isAgg161
 z46:=Tryz.sizeOf161
 v46:=Tryz.zeroValue161
 t51:=Tryz.underlying205
 a51:=Tryz.isAgg205
 z51:=Tryz.sizeOf205
 v51:=Tryz.zeroValue205
 t53:=Tryz.underlying208
 a53:=Tryz.isAgg208
 z53:=Tryz.sizeOf208
 v53:=Tryz.zeroValue208
 t70:=Tryz.underlying164
 a70:=Tryz.isAgg164
 z70:=Tryz.sizeOf164
 v70:=Tryz.zeroValue164
 t72:=Tryz.underlying167
 a72:=Tryz.isAgg167
 z72:=Tryz.sizeOf167
 v72:=Tryz.zeroValue167
 t75:=Tryz.underlying170
 a75:=Tryz.isAgg170
 z75:=Tryz.sizeOf170
 v75:=Tryz.zeroValue170
 t76:=Tryz.underlying171
 a76:=Tryz.isAgg171
 z76:=Tryz.sizeOf171
 v76:=Tryz.zeroValue171
 t109:=Tryz.underlying162
 a109:=Tryz.isAgg162
 z109:=Tryz.sizeOf162
 v109:=Tryz.zeroValue162
 t127:=Tryz.underlying211
 a127:=Tryz.isAgg211
 z127:=Tryz.sizeOf211
 v127:=Tryz.zeroValue211
 t146:=Tryz.underlying206
 a146:=Tryz.isAgg206
 z146:=Tryz.sizeOf206
 v146:=Tryz.zeroValue206
 t148:=Tryz.underlying209
 a148:=Tryz.isAgg209
 z148:=Tryz.sizeOf209
 v148:=Tryz.zeroValue209
 t164:=Tryz.underlying234
 a164:=Tryz.isAgg234
 z164:=Tryz.sizeOf234
 v164:=Tryz.zeroValue234}
theorem Tryz.lG:Builder.Extra Tryz.prog Tryz.nV:={
 sizeBuilder:=by kernel_rfl
 liesBuilder:=by kernel_rfl
 t5:=Tryz.underlying5
 a5:=Tryz.isAgg5
 z5:=Tryz.sizeOf5
 v5:=Tryz.zeroValue5
 infoByte:=by kernel_rfl
 cellsByte:=by kernel_rfl
 sizeByte:=by kernel_rfl
 neB5:=by decide}
open Go.RowKit in
theorem Tryz.strings_Repeat (s:ByteArray)(c:Nat)(w:World)(hc:c<=9223372036854775807)(hlen:s.size*c<=140737488355328):
 Calls Tryz.prog 55 #[.string s,.int .i64 c] w fun e w'=>e=.returned (.string ⟨(Lib.repeatL s.data.toList c).toArray⟩)∧Below w.heap.size w w':=Any.strings_Repeat Tryz.JO Tryz.lG s c w hc hlen
def Tryz.yQ:Go.Shelf.Ren:=⟨fun|5=>141|7=>168|n=>n,fun|22=>3|3=>3|4=>4|n=>n,fun|n=>n⟩
theorem Tryz.OS:Go.Proofs.SlLaysC2.n5 Tryz.prog Tryz.yQ:={
 mixed:=by kernel_rfl
 f5:=⟨Tryz.f141.name,by decide,Tryz.func141.trans (congrArg some (by kernel_rfl))⟩
 f7:=⟨Tryz.f168.name,by decide,Tryz.func168.trans (congrArg some (by kernel_rfl))⟩
 t3:=Tryz.underlying3
 a3:=Tryz.isAgg3
 z3:=Tryz.sizeOf3
 v3:=Tryz.zeroValue3
 t4:=Tryz.underlying4
 a4:=Tryz.isAgg4
 z4:=Tryz.sizeOf4
 v4:=Tryz.zeroValue4
 t22:=Tryz.underlying3
 a22:=Tryz.isAgg3
 z22:=Tryz.sizeOf3
 v22:=Tryz.zeroValue3}
def Tryz.oC:Go.Shelf.Ren:=⟨fun|8=>196|6=>232|n=>n,fun|22=>62|23=>116|25=>265|4=>4|3=>3|0=>0|n=>n,fun|n=>n⟩
theorem Tryz.wC:Go.Proofs.SlLaysH0.n8 Tryz.prog Tryz.oC:={
 mixed:=by kernel_rfl
 f6:=⟨Tryz.f232.name,by decide,Tryz.func232.trans (congrArg some (by kernel_rfl))⟩
 f8:=⟨Tryz.f196.name,by decide,Tryz.func196.trans (congrArg some (by kernel_rfl))⟩
 t0:=Tryz.underlying0
 a0:=Tryz.isAgg0
 z0:=Tryz.sizeOf0
 v0:=Tryz.zeroValue0
 t3:=Tryz.underlying3
 a3:=Tryz.isAgg3
 z3:=Tryz.sizeOf3
 v3:=Tryz.zeroValue3
 t4:=Tryz.underlying4
 a4:=Tryz.isAgg4
 z4:=Tryz.sizeOf4
 v4:=Tryz.zeroValue4
 t22:=Tryz.underlying62
 a22:=Tryz.isAgg62
 z22:=Tryz.sizeOf62
 v22:=Tryz.zeroValue62
 t25:=Tryz.underlying265
 a25:=Tryz.isAgg265
 z25:=Tryz.sizeOf265
 v25:=Tryz.zeroValue265}
def Tryz.fT:Go.Shelf.Ren:=⟨fun|4=>240|n=>n,fun|22=>62|25=>116|3=>3|4=>4|9=>9|20=>20|0=>0|2=>3|n=>n,fun|n=>n⟩
theorem Tryz.AO:Go.Proofs.Lays8.n4 Tryz.prog Tryz.fT:={
 mixed:=by kernel_rfl
 f4:=⟨Tryz.f240.name,by decide,Tryz.func240.trans (congrArg some (by kernel_rfl))⟩
 t0:=Tryz.underlying0
 a0:=Tryz.isAgg0
 z0:=Tryz.sizeOf0
 v0:=Tryz.zeroValue0
 t3:=Tryz.underlying3
 a3:=Tryz.isAgg3
 z3:=Tryz.sizeOf3
 v3:=Tryz.zeroValue3
 t4:=Tryz.underlying4
 a4:=Tryz.isAgg4
 z4:=Tryz.sizeOf4
 v4:=Tryz.zeroValue4
 t9:=Tryz.underlying9
 a9:=Tryz.isAgg9
 z9:=Tryz.sizeOf9
 v9:=Tryz.zeroValue9
 t20:=Tryz.underlying20
 a20:=Tryz.isAgg20
 z20:=Tryz.sizeOf20
 v20:=Tryz.zeroValue20
 t22:=Tryz.underlying62
 a22:=Tryz.isAgg62
 z22:=Tryz.sizeOf62
 v22:=Tryz.zeroValue62}
def Tryz.pS:Go.Shelf.Ren:=⟨fun|41=>82|n=>n,fun|22=>27|23=>45|4=>4|n=>n,fun|n=>n⟩
theorem Tryz.pT:Go.Proofs.SlLaysE0.n41 Tryz.prog Tryz.pS:={
 mixed:=by kernel_rfl
 f41:=⟨Tryz.f82.name,by decide,Tryz.func82.trans (congrArg some (by kernel_rfl))⟩
 t4:=Tryz.underlying4
 a4:=Tryz.isAgg4
 z4:=Tryz.sizeOf4
 v4:=Tryz.zeroValue4
 t22:=Tryz.underlying27
 a22:=Tryz.isAgg27
 z22:=Tryz.sizeOf27
 v22:=Tryz.zeroValue27}
def Tryz.wD:Go.Shelf.Ren:=⟨fun|106=>124|213=>160|265=>195|n=>n,fun|9=>9|3=>3|n=>n,fun|n=>n⟩
theorem Tryz.JP:Go.Proofs.Lays.n106 Tryz.prog Tryz.wD:={
 mixed:=by kernel_rfl
 f106:=Tryz.func124.trans (congrArg some (by kernel_rfl))
 f213:=Tryz.func160.trans (congrArg some (by kernel_rfl))
 f265:=Tryz.func195.trans (congrArg some (by kernel_rfl))
 t3:=Tryz.underlying3
 a3:=Tryz.isAgg3
 z3:=Tryz.sizeOf3
 v3:=Tryz.zeroValue3
 t9:=Tryz.underlying9
 a9:=Tryz.isAgg9
 z9:=Tryz.sizeOf9
 v9:=Tryz.zeroValue9}
end Go.Proofs
end
namespace Go.Proofs.YtceoeaemenhbhaaGreatDoor
section
section
def beNat (l:List UInt8):Nat:=l.foldl (fun a c=>a*256+c.toNat) 0
def beBytes:Nat->Nat->List UInt8
 |0,_=>[]
 |k+1,n=>beBytes k (n/256)++[UInt8.ofNat (n%256)]
theorem iU (l:List UInt8)(c:UInt8):beNat (l++[c])=beNat l*256+c.toNat:=by simp[beNat]
theorem beBytes_length (k:Nat):∀n,(beBytes k n).length=k:=by
 induction k with
 |zero=>intro n;rfl
 |succ k ih=>intro n;simp[beBytes,ih]
theorem AP {α:Type}(l:List α)(k:Nat)(h:l.length=k+1):∃a c,l=a++[c]∧a.length=k:=by
 have hne:l≠[]:=by intro e;subst e;simp at h
 refine⟨l.dropLast,l.getLast hne,(List.dropLast_concat_getLast hne).symm,by simp[h]⟩
theorem uw (k:Nat):∀l:List UInt8,l.length=k->beNat l<256^k:=by
 induction k with
 |zero=>intro l h;rw[List.length_eq_zero_iff.1 h];decide
 |succ k ih=>
  intro l h;obtain⟨a,c,rfl,ha⟩:=AP l k h;have h1:=ih a ha;have h2:c.toNat<256:=UInt8.toNat_lt c;rw[iU,Nat.pow_succ];omega
theorem wE (l:List UInt8):beNat l<256^l.length:=uw _ l rfl
theorem jy (k:Nat):∀n,n<256^k->beNat (beBytes k n)=n:=by
 induction k with
 |zero=>intro n h;simp at h;subst h;rfl
 |succ k ih=>
  intro n h;rw[beBytes,iU,ih (n/256) (by rw[Nat.pow_succ]at h;omega)];have:(UInt8.ofNat (n%256)).toNat=n%256:=by simp
  omega
theorem wF (k:Nat):∀l:List UInt8,l.length=k->beBytes k (beNat l)=l:=by
 induction k with
 |zero=>intro l h;rw[List.length_eq_zero_iff.1 h];rfl
 |succ k ih=>
  intro l h;obtain⟨a,c,rfl,ha⟩:=AP l k h;have h2:c.toNat<256:=UInt8.toNat_lt c;rw[iU,beBytes];have e1:(beNat a*256+c.toNat)/256=beNat a:=by omega
  have e2:(beNat a*256+c.toNat)%256=c.toNat:=by omega
  rw[e1,e2,ih a ha];simp
theorem yR (l:List UInt8)(k:Nat)(h:k<l.length):beNat (l.take (k+1))=beNat (l.take k)*256+(l[k]).toNat:=by
 rw[List.take_succ_eq_append_getElem h,iU]
theorem sI (l:List UInt8)(k:Nat)(h:k<4):beNat (l.take k)<16777216:=by
 have h1:=wE (l.take k);have h2:(l.take k).length<=3:=by simp;omega
 have h3:256^(l.take k).length<=256^3:=Nat.pow_le_pow_right (by omega) h2;have h4:(256:Nat)^3=16777216:=by decide
 omega
end
section
open Go.RowKit
def bQ (n:Int):Bool:=decide (n=1∨n=2∨n=4)
structure Rd (b:Nat)(s:ByteArray)(e:Int)(w:World):Prop where
 blk:w.heap[b]? =some (.cells #[.string s,.int .i64 e] 239 (0,0))
 sz:s.size<=maxLen
structure Only (b:Nat)(w w':World):Prop where
 os:w'.os=w.os
 tape:w'.tape=w.tape
 output:w'.output=w.output
 size:w'.heap.size=w.heap.size
 block:∀k,k≠b->w'.heap[k]? =w.heap[k]?
theorem Only.refl (b:Nat)(w:World):Only b w w:=⟨rfl,rfl,rfl,rfl,fun _ _=>rfl⟩
theorem Only.trans {b:Nat}{u v w:World}(h:Only b u v)(k:Only b v w):Only b u w:=
 ⟨k.os.trans h.os,k.tape.trans h.tape,k.output.trans h.output,k.size.trans h.size,fun i hi=>(k.block i hi).trans (h.block i hi)⟩
theorem Only.setCell (b o:Nat)(w:World)(v:Value):Only b w (w.setCell ⟨b,o,none⟩ v):=
 ⟨rfl,rfl,rfl,by simp[World.setCell],fun k hk=>Below.heap_setCell _ _ _ _ hk⟩
theorem Only.below {B b:Nat}{w w':World}(h:Only b w w')(hB:B<=b):Below B w w':=
 ⟨h.os,h.tape,h.output,Nat.le_of_eq h.size.symm,fun k hk=>h.block k (by omega)⟩
theorem Rd.lt {b:Nat}{s:ByteArray}{e:Int}{w:World}(h:Rd b s e w):b<w.heap.size:=by
 have:=h.blk;rw[Array.getElem?_eq_some_iff]at this;exact this.1
theorem Rd.c0 {b:Nat}{s:ByteArray}{e:Int}{w:World}(h:Rd b s e w):w.cell? ⟨b,0,none⟩=some (.string s):=by simp[World.cell?,h.blk]
theorem Rd.c1 {b:Nat}{s:ByteArray}{e:Int}{w:World}(h:Rd b s e w):w.cell? ⟨b,1,none⟩=some (.int .i64 e):=by simp[World.cell?,h.blk]
theorem Rd.f0 {b:Nat}{s:ByteArray}{e:Int}{w:World}(h:Rd b s e w):w.frozen? ⟨b,0,none⟩=false:=by simp[World.frozen?,h.blk]
theorem Rd.f1 {b:Nat}{s:ByteArray}{e:Int}{w:World}(h:Rd b s e w):w.frozen? ⟨b,1,none⟩=false:=by simp[World.frozen?,h.blk]
theorem Rd.set0 {b:Nat}{s:ByteArray}{e:Int}{w:World}(h:Rd b s e w)(t:ByteArray)(ht:t.size<=maxLen):Rd b t e (w.setCell ⟨b,0,none⟩ (.string t)):=
 ⟨by simp[World.setCell,Array.getElem?_modify,h.blk],ht⟩
theorem Rd.set1 {b:Nat}{s:ByteArray}{e:Int}{w:World}(h:Rd b s e w)(n:Int):Rd b s n (w.setCell ⟨b,1,none⟩ (.int .i64 n)):=
 ⟨by simp[World.setCell,Array.getElem?_modify,h.blk],h.sz⟩
theorem Rd.below {b B:Nat}{s:ByteArray}{e:Int}{w w':World}(h:Rd b s e w)(k:Below B w w')(hb:b<B):Rd b s e w':=⟨(k.block b hb).trans h.blk,h.sz⟩
theorem Rd.made (s:ByteArray)(hs:s.size<=maxLen)(w:World):Rd w.heap.size s 0 (w.alloc (.cells #[.string s,.int .i64 0] 239)):=
 ⟨by show(w.heap.push _)[w.heap.size]? =_;simp,hs⟩
theorem pU {a b:Bool}(h:a=b):Ending.returned (.bool a)=.returned (.bool b):=by rw[h]
theorem jW {k:IntKind}{a b:Int}(h:a=b):Ending.returned (.int k a)=.returned (.int k b):=by rw[h]
theorem df (n:Int)(w:World):
  Calls Tryz.prog 146 #[.int .i64 n] w fun e w'=>e=.returned (.bool (bQ n))∧w=w':=by
 by_cases h1:n=1
 ·subst h1;go_enter Tryz.func146,Tryz.ntmps146;go_wp2;go_ret;exact⟨rfl,rfl⟩
 ·by_cases h2:n=2
  ·subst h2;go_enter Tryz.func146,Tryz.ntmps146;go_wp2;go_ret;exact⟨rfl,rfl⟩
  ·by_cases h4:n=4
   ·subst h4;go_enter Tryz.func146,Tryz.ntmps146;go_wp2;go_ret;exact⟨rfl,rfl⟩
   ·have e1:(n==1)=false:=beq_eq_false_iff_ne.2 h1;have e2:(n==2)=false:=beq_eq_false_iff_ne.2 h2;have e4:(n==4)=false:=beq_eq_false_iff_ne.2 h4;have hs:bQ n=false:=by simp[bQ,h1,h2,h4]
    have HS:Hid (bQ n=false):=hs;clear hs h1 h2 h4;go_enter Tryz.func146,Tryz.ntmps146;go_wp2;go_ret;exact⟨pU HS.out.symm,rfl⟩
theorem jA (b:Nat)(s:ByteArray)(e:Int)(w:World)(h:Rd b s e w):
  Calls Tryz.prog 200 #[.pointer (some ⟨b,0,none⟩)] w fun r w'=>r=.returned (.int .i64 s.size)∧w=w':=by
 have c0:=h.c0;have c1:=h.c1;have f0:=h.f0;have f1:=h.f1;have lt:=h.lt;clear h;go_enter Tryz.func200,Tryz.ntmps200;go_wp2;go_ret;exact⟨rfl,rfl⟩
theorem lH (b:Nat)(s:ByteArray)(e:Int)(w:World)(h:Rd b s e w):
  Calls Tryz.prog 199 #[.pointer (some ⟨b,0,none⟩)] w fun r w'=>r=.returned (.int .i64 e)∧w=w':=by
 have c0:=h.c0;have c1:=h.c1;have f0:=h.f0;have f1:=h.f1;have lt:=h.lt;clear h;go_enter Tryz.func199,Tryz.ntmps199;go_wp2;go_ret;exact⟨rfl,rfl⟩
theorem pV (s:ByteArray)(w:World):
  Calls Tryz.prog 142 #[.string s] w fun r w'=>r=.returned (.pointer (some ⟨w.heap.size,0,none⟩))∧w'=w.alloc (.cells #[.string s,.int .i64 0] 239):=by
 go_enter Tryz.func142,Tryz.ntmps142;go_wp2;go_ret;exact⟨rfl,rfl⟩
theorem ux (b:Nat)(s:ByteArray)(n:Int)(w:World)(h:Rd b s 0 w):
  Calls Tryz.prog 169 #[.pointer (some ⟨b,0,none⟩),.int .i64 n] w fun r w'=>r=.returned (.tuple #[])∧w'=w.setCell ⟨b,1,none⟩ (.int .i64 n):=by
 have c0:=h.c0;have c1:=h.c1;have f0:=h.f0;have f1:=h.f1;have lt:=h.lt;clear h;go_enter Tryz.func169,Tryz.ntmps169;go_wp2
 go_end0
 exact⟨rfl,rfl⟩
theorem JQ (b:Nat)(s:ByteArray)(e n:Int)(w:World)(h:Rd b s e w)(he:e≠0):
  Calls Tryz.prog 169 #[.pointer (some ⟨b,0,none⟩),.int .i64 n] w fun r w'=>r=.returned (.tuple #[])∧w=w':=by
 have c0:=h.c0;have c1:=h.c1;have f0:=h.f0;have f1:=h.f1;have lt:=h.lt;clear h;have e1:(e==0)=false:=beq_eq_false_iff_ne.2 he;clear he;go_enter Tryz.func169,Tryz.ntmps169;go_wp2
 go_end0
 exact⟨rfl,rfl⟩
def aL (s:ByteArray)(e n:Int):ByteArray×ByteArray×Int:=
 if e≠0 then(ByteArray.empty,s,e)else if n<0 then(ByteArray.empty,s,1)else if(s.size:Int)<n then(ByteArray.empty,s,10)else(s.extract 0 n.toNat,s.extract n.toNat s.size,0)
theorem gB (b:Nat)(s:ByteArray)(e n:Int)(w:World)(h:Rd b s e w):
  Calls Tryz.prog 143 #[.pointer (some ⟨b,0,none⟩),.int .i64 n] w fun r w'=>r=.returned (.string (aL s e n).1)∧Rd b (aL s e n).2.1 (aL s e n).2.2 w'∧Only b w w':=by
 have c0:=h.c0;have c1:=h.c1;have f0:=h.f0;have f1:=h.f1;have lt:=h.lt;have sz:=h.sz;have H:Hid (Rd b s e w):=h;clear h;by_cases he:e=0
 ·subst he;by_cases hn:n<0
  ·have E:Hid (aL s 0 n=(ByteArray.empty,s,1)):=by simp[Hid,aL,hn]
   go_enter Tryz.func143,Tryz.ntmps143
   go_wp2_with (go_at_call 169;refine(ux b s _ _ H.out).mono ?_;rintro e w' ⟨rfl,rfl⟩)
   go_ret;rw[E.out];exact⟨rfl,H.out.set1 _,Only.setCell _ _ _ _⟩
  ·by_cases hl:(s.size:Int)<n
   ·have E:Hid (aL s 0 n=(ByteArray.empty,s,10)):=by simp[Hid,aL,hn,hl]
    go_enter Tryz.func143,Tryz.ntmps143
    go_wp2_with (go_at_call 169;refine(ux b s _ _ H.out).mono ?_;rintro e w' ⟨rfl,rfl⟩)
    go_ret;rw[E.out];exact⟨rfl,H.out.set1 _,Only.setCell _ _ _ _⟩
   ·have E:Hid (aL s 0 n=(s.extract 0 n.toNat,s.extract n.toNat s.size,0)):=by simp[Hid,aL,hn,hl]
    obtain⟨m,rfl⟩:=Int.eq_ofNat_of_zero_le (Int.not_lt.1 hn);have hm:m<=s.size:=by omega
    go_enter Tryz.func143,Tryz.ntmps143;go_wp2;go_ret;rw[E.out];refine⟨?_,?_,?_⟩
    ·rfl
    ·exact H.out.set0 _ (by simp;omega)
    ·exact Only.setCell _ _ _ _
 ·have E:Hid (aL s e n=(ByteArray.empty,s,e)):=by simp[Hid,aL,he]
  have e1:(e != 0)=true:=by rw[bne_iff_ne];exact he
  clear he;go_enter Tryz.func143,Tryz.ntmps143;go_wp2;go_ret;rw[E.out];exact⟨rfl,H.out,Only.refl _ _⟩
end
section
open Go.RowKit
theorem yS (a b:Nat)(ha:a<4611686018427387904)(hb:b<4611686018427387904):bits .or .i64 (a:Int) (b:Int)=((a|||b:Nat):Int):=by
 have hx:a|||b<2^62:=Nat.or_lt_two_pow (by omega) (by omega)
 show IntKind.i64.wrap ((BitVec.ofInt 64 (a:Int)|||BitVec.ofInt 64 (b:Int)).toNat:Int)=_;rw[BitVec.toNat_or,ofInt_u64 a (by omega),ofInt_u64 b (by omega),IntKind.wrap_i64];omega
theorem JR (m c:Nat)(hm:m<16777216)(hc:c<256):Value.int .i64 (bits .or .i64 ((m:Int)*256) (wrap64 (c:Int)))=.int .i64 ((m*256+c:Nat):Int):=by
 have e1:wrap64 (c:Int)=(c:Int):=by unfold wrap64;omega
 have e2:((m:Int)*256)=((m*256:Nat):Int):=by omega
 rw[e1,e2,yS _ _ (by omega) (by omega),nat_join 8 _ _ (by omega) (by omega)]
def gL (s:ByteArray)(e:Int):Int:=if e≠0 then e else if s.size=0 then 0 else 11
theorem oN (b:Nat)(s:ByteArray)(e:Int)(w:World)(h:Rd b s e w):
  Calls Tryz.prog 202 #[.pointer (some ⟨b,0,none⟩)] w fun r w'=>r=.returned (.int .i64 (gL s e))∧w=w':=by
 have H:Hid (Rd b s e w):=h;have sz:=h.sz;clear h;by_cases he:e=0
 ·subst he;by_cases hs:s.size=0
  ·have E:Hid (gL s 0=0):=by simp[Hid,gL,hs]
   have hs':¬(0:Int)< (s.size:Int):=by omega
   clear hs;go_enter Tryz.func202,Tryz.ntmps202
   go_wp2_with (first| (go_at_call 199;refine(lH b s _ _ H.out).mono ?_;rintro e w' ⟨rfl,rfl⟩)| (go_at_call 200;refine(jA b s _ _ H.out).mono ?_;rintro e w' ⟨rfl,rfl⟩))
   go_ret;exact⟨jW E.out.symm,rfl⟩
  ·have E:Hid (gL s 0=11):=by simp[Hid,gL,hs]
   have hs':(0:Int)< (s.size:Int):=by omega
   clear hs;go_enter Tryz.func202,Tryz.ntmps202
   go_wp2_with (first| (go_at_call 199;refine(lH b s _ _ H.out).mono ?_;rintro e w' ⟨rfl,rfl⟩)| (go_at_call 200;refine(jA b s _ _ H.out).mono ?_;rintro e w' ⟨rfl,rfl⟩))
   go_ret;exact⟨jW E.out.symm,rfl⟩
 ·have E:Hid (gL s e=e):=by simp[Hid,gL,he]
  have e1:(e != 0)=true:=by rw[bne_iff_ne];exact he
  clear he;go_enter Tryz.func202,Tryz.ntmps202
  go_wp2_with (first| (go_at_call 199;refine(lH b s _ _ H.out).mono ?_;rintro e w' ⟨rfl,rfl⟩)| (go_at_call 200;refine(jA b s _ _ H.out).mono ?_;rintro e w' ⟨rfl,rfl⟩))
  go_ret;exact⟨jW E.out.symm,rfl⟩
def cj (s:ByteArray)(e n:Int):Int×ByteArray×Int:=
 if bQ n=false then(0,s,if e≠0 then e else 1)else((beNat (aL s e n).1.data.toList:Int),(aL s e n).2.1,(aL s e n).2.2)
theorem wG (s:ByteArray)(e n:Int)(h:bQ n=true):(aL s e n).1.size<=4:=by
 have:n=1∨n=2∨n=4:=by simpa[bQ]using h
 unfold aL;split
 ·simp
 ·split
  ·simp
  ·split
   ·simp
   ·simp;omega
theorem lI (b:Nat)(s:ByteArray)(e n:Int)(w:World)(h:Rd b s e w):
  Calls Tryz.prog 144 #[.pointer (some ⟨b,0,none⟩),.int .i64 n] w fun r w'=>r=.returned (.int .i64 (cj s e n).1)∧Rd b (cj s e n).2.1 (cj s e n).2.2 w'∧Only b w w':=by
 have H:Hid (Rd b s e w):=h;have sz:=h.sz;clear h;cases hz:bQ n
 ·by_cases he:e=0
  ·subst he;have E:Hid (cj s 0 n=(0,s,1)):=by simp[Hid,cj,hz]
   go_enter Tryz.func144,Tryz.ntmps144
   go_wp2_with (first| (go_at_call 146;refine(df _ _).mono ?_;rintro e w' ⟨rfl,rfl⟩)| (go_at_call 169;refine(ux b s _ _ H.out).mono ?_;rintro e w' ⟨rfl,rfl⟩))
   go_ret;rw[E.out];exact⟨rfl,H.out.set1 _,Only.setCell _ _ _ _⟩
  ·have E:Hid (cj s e n=(0,s,e)):=by simp[Hid,cj,hz,he]
   go_enter Tryz.func144,Tryz.ntmps144
   go_wp2_with (first| (go_at_call 146;refine(df _ _).mono ?_;rintro e w' ⟨rfl,rfl⟩)| (go_at_call 169;refine(JQ b s _ _ _ H.out he).mono ?_;rintro e w' ⟨rfl,rfl⟩))
   go_ret;rw[E.out];exact⟨rfl,H.out,Only.refl _ _⟩
 ·have E:Hid (cj s e n=((beNat (aL s e n).1.data.toList:Int),(aL s e n).2.1,(aL s e n).2.2)):=by simp[Hid,cj,hz]
  have h4:=wG s e n hz;have C:=gB b s e n w H.out
  revert C E h4
  generalize aL s e n=t;obtain⟨x,s',e'⟩:=t;intro E h4 C0;have C:Hid _:=C0;clear C0;simp only at h4;go_enter Tryz.func144,Tryz.ntmps144
  go_wp2_with (first| (go_at_call 146;refine(df _ _).mono ?_;rintro e w' ⟨rfl,rfl⟩)| (go_at_call 143;refine Calls.mono C.out ?_;rintro e w' ⟨rfl,hr,ho⟩))
  go_loop [6,18] (fun v i=>∃k:Nat,k<=x.size∧i=.int .i64 k∧v=.int .i64 (beNat (x.data.toList.take k))) (fun _ i=>x.size- (intOf i).toNat)
  case atStart=>exact⟨0,Nat.zero_le _,rfl,rfl⟩
  case round=>
   obtain⟨k,hk,rfl,rfl⟩:=hrel;by_cases hlt:k<x.size
   ·have T:Hid (beNat (x.data.toList.take (k+1))=beNat (x.data.toList.take k)*256+x[k].toNat):=yR x.data.toList k (by simpa using hlt);have B:=sI x.data.toList k (by omega);go_wp2;have C8:x[k].toNat<256:=UInt8.toNat_lt _;refine⟨⟨k+1,by omega,by go_num,?_⟩,by simp[intOf];omega⟩;rw[T.out,JR _ _ B C8]
   ·have T:Hid (x.data.toList.take k=x.data.toList):=List.take_of_length_le (by simp;omega);go_wp2;go_ret;rw[E.out];exact⟨jW (by rw[T.out]),hr,ho⟩
end
section
open Go.RowKit
def fH (size n:Int):Bool:=bQ size&&decide (0<=n∧n< ((256^size.toNat:Nat):Int))
def mM (size n:Int):List UInt8:=if fH size n=true then beBytes size.toNat n.toNat else []
def mN (size n:Int):Int:=if fH size n=true then 0 else 1
theorem EN (size n:Int)(w:World)(h:bQ size=false):
  Calls Tryz.prog 109 #[.int .i64 size,.int .i64 n] w fun r w'=>r=.returned (.tuple #[.string ⟨#[]⟩,.int .i64 1])∧w=w':=by
 go_enter Tryz.func109,Tryz.ntmps109
 go_wp2_with (go_at_call 146;refine(df _ _).mono ?_;rintro e w' ⟨rfl,rfl⟩)
 go_ret2;exact⟨rfl,rfl⟩
theorem JS (size n:Int)(w:World)(h:bQ size=true)(hn:n<0):
  Calls Tryz.prog 109 #[.int .i64 size,.int .i64 n] w fun r w'=>r=.returned (.tuple #[.string ⟨#[]⟩,.int .i64 1])∧w=w':=by
 go_enter Tryz.func109,Tryz.ntmps109
 go_wp2_with (go_at_call 146;refine(df _ _).mono ?_;rintro e w' ⟨rfl,rfl⟩)
 go_ret2;exact⟨rfl,rfl⟩
theorem ET (n:Int)(w:World)(hn:¬n<0)(hb:(n/256 != 0)=true):
  Calls Tryz.prog 109 #[.int .i64 1,.int .i64 n] w fun r w'=>r=.returned (.tuple #[.string ⟨#[]⟩,.int .i64 1])∧w=w':=by
 have h:bQ 1=true:=rfl;go_enter Tryz.func109,Tryz.ntmps109
 go_wp2_with (go_at_call 146;refine(df _ _).mono ?_;rintro e w' ⟨rfl,rfl⟩)
 go_ret2;exact⟨rfl,rfl⟩
theorem EU (n:Int)(w:World)(hn:¬n<0)(hb:(n/65536 != 0)=true):
  Calls Tryz.prog 109 #[.int .i64 2,.int .i64 n] w fun r w'=>r=.returned (.tuple #[.string ⟨#[]⟩,.int .i64 1])∧w=w':=by
 have h:bQ 2=true:=rfl;go_enter Tryz.func109,Tryz.ntmps109
 go_wp2_with (go_at_call 146;refine(df _ _).mono ?_;rintro e w' ⟨rfl,rfl⟩)
 go_ret2;exact⟨rfl,rfl⟩
theorem EW (n:Int)(w:World)(hn:¬n<0)(hb:(n/4294967296 != 0)=true):
  Calls Tryz.prog 109 #[.int .i64 4,.int .i64 n] w fun r w'=>r=.returned (.tuple #[.string ⟨#[]⟩,.int .i64 1])∧w=w':=by
 have h:bQ 4=true:=rfl;go_enter Tryz.func109,Tryz.ntmps109
 go_wp2_with (go_at_call 146;refine(df _ _).mono ?_;rintro e w' ⟨rfl,rfl⟩)
 go_ret2;exact⟨rfl,rfl⟩
theorem pW (l:List UInt8)(cs:Array Value)(w:World)(m c:Nat)(hcs:cs=(l.map fun b=>Value.int .u8 (b.toNat:Int)).toArray)(hm:m=l.length):
  Sem.run Tryz.prog (convert 165 9 (.slice (some ⟨w.heap.size,0,none⟩) m c)) (w.alloc (.cells cs 5))=.ok (.string ⟨l.toArray⟩) (w.alloc (.cells cs 5)):=by
 subst hm;refine run_convert_bytes_back _ 165 9 5 _ c l Tryz.underlying165 Tryz.underlying5 Tryz.underlying9 (fun j hj=>?_);have e:(⟨w.heap.size,0,none⟩:Addr).add j=⟨w.heap.size,j,none⟩:=by simp[Addr.add];intro h;omega
 rw[e,World.cell?_alloc_at cs 5 _ j rfl,hcs];simp[List.getElem?_eq_getElem hj]
theorem Sx (n:Nat)(w:World)(hn:n<256):
  Calls Tryz.prog 109 #[.int .i64 1,.int .i64 n] w fun r w'=>r=.returned (.tuple #[.string ⟨(beBytes 1 n).toArray⟩,.int .i64 0])∧Below w.heap.size w w':=by
 have h:bQ 1=true:=rfl;have hb:(((n:Int)/256) != 0)=false:=by simp;omega
 have hn0:¬(n:Int)<0:=by omega
 have hmk:∀w,(Instr.makeSlice 165 (.int .i64 1) (.int .i64 1)).run Tryz.prog w=.ok (.slice (some ⟨w.heap.size,0,none⟩) 1 1) (w.alloc (.cells #[.int .u8 0] 5)):=fun _=>by kernel_rfl
 have hcv:=pW (beBytes 1 n) #[.int .u8 (n:Int)] w 1 1 (by simp[beBytes];omega) (beBytes_length _ _).symm;go_enter Tryz.func109,Tryz.ntmps109
 go_wp2_with (go_at_call 146;refine(df _ _).mono ?_;rintro e w' ⟨rfl,rfl⟩)
 refine wp_loop_rounds 2 ?_
 repeat any_goals (rw[rounds_succ];go_wp2)
 go_ret2;exact⟨rfl,(Below.refl _ _).alloc (Nat.le_refl _) _⟩
theorem Sy (n:Nat)(w:World)(hn:n<65536):
  Calls Tryz.prog 109 #[.int .i64 2,.int .i64 n] w fun r w'=>r=.returned (.tuple #[.string ⟨(beBytes 2 n).toArray⟩,.int .i64 0])∧Below w.heap.size w w':=by
 have h:bQ 2=true:=rfl;have hb:(((n:Int)/65536) != 0)=false:=by simp;omega
 have hn0:¬(n:Int)<0:=by omega
 have hmk:∀w,(Instr.makeSlice 165 (.int .i64 2) (.int .i64 2)).run Tryz.prog w=.ok (.slice (some ⟨w.heap.size,0,none⟩) 2 2) (w.alloc (.cells #[.int .u8 0,.int .u8 0] 5)):=fun _=>by kernel_rfl
 have hcv:=pW (beBytes 2 n) #[.int .u8 ((n:Int)/256),.int .u8 ((n:Int)%256)] w 2 2 (by simp[beBytes];omega) (beBytes_length _ _).symm;go_enter Tryz.func109,Tryz.ntmps109
 go_wp2_with (go_at_call 146;refine(df _ _).mono ?_;rintro e w' ⟨rfl,rfl⟩)
 refine wp_loop_rounds 3 ?_
 repeat any_goals (rw[rounds_succ];go_wp2)
 go_ret2;exact⟨rfl,(Below.refl _ _).alloc (Nat.le_refl _) _⟩
theorem OT (n:Nat)(w:World)(hn:n<4294967296):
  Calls Tryz.prog 109 #[.int .i64 4,.int .i64 n] w fun r w'=>r=.returned (.tuple #[.string ⟨(beBytes 4 n).toArray⟩,.int .i64 0])∧Below w.heap.size w w':=by
 have h:bQ 4=true:=rfl;have hb:(((n:Int)/4294967296) != 0)=false:=by simp;omega
 have hn0:¬(n:Int)<0:=by omega
 have hmk:∀w,(Instr.makeSlice 165 (.int .i64 4) (.int .i64 4)).run Tryz.prog w=.ok (.slice (some ⟨w.heap.size,0,none⟩) 4 4) (w.alloc (.cells #[.int .u8 0,.int .u8 0,.int .u8 0,.int .u8 0] 5)):=fun _=>by kernel_rfl
 have hcv:=pW (beBytes 4 n) #[.int .u8 ((n:Int)/16777216),.int .u8 ((n:Int)/65536%256),.int .u8 ((n:Int)/256%256),.int .u8 ((n:Int)%256)] w 4 4 (by simp[beBytes];omega) (beBytes_length _ _).symm;go_enter Tryz.func109,Tryz.ntmps109
 go_wp2_with (go_at_call 146;refine(df _ _).mono ?_;rintro e w' ⟨rfl,rfl⟩)
 refine wp_loop_rounds 5 ?_
 repeat any_goals (rw[rounds_succ];go_wp2)
 go_ret2;exact⟨rfl,(Below.refl _ _).alloc (Nat.le_refl _) _⟩
theorem pY {size n:Int}{r:Ending}{w w':World}(hp:fH size n=false)(h:r=.returned (.tuple #[.string ⟨#[]⟩,.int .i64 1])∧w=w'):
  r=.returned (.tuple #[.string ⟨(mM size n).toArray⟩,.int .i64 (mN size n)])∧Below w.heap.size w w':=by
 obtain⟨rfl,rfl⟩:=h;simp[mM,mN,hp,Below.refl]
theorem uy {size n:Int}{r:Ending}{w w':World}(k m:Nat)(hk:size=k)(hm:n=m)(hp:fH size n=true)(h:r=.returned (.tuple #[.string ⟨(beBytes k m).toArray⟩,.int .i64 0])∧Below w.heap.size w w'):
  r=.returned (.tuple #[.string ⟨(mM size n).toArray⟩,.int .i64 (mN size n)])∧Below w.heap.size w w':=by
 obtain⟨rfl,hb⟩:=h;subst hk hm;simp[mM,mN,hp,hb]
theorem lJ (size n:Int)(w:World):
  Calls Tryz.prog 109 #[.int .i64 size,.int .i64 n] w fun r w'=>r=.returned (.tuple #[.string ⟨(mM size n).toArray⟩,.int .i64 (mN size n)])∧Below w.heap.size w w':=by
 cases hz:bQ size
 ·exact(EN size n w hz).mono fun r w' h=>pY (by simp[fH,hz]) h
 ·by_cases hn:n<0
  ·exact(JS size n w hz hn).mono fun r w' h=>pY (by simp[fH];intro _ _;omega) h
  ·obtain⟨m,rfl⟩:=Int.eq_ofNat_of_zero_le (Int.not_lt.1 hn);have hs:size=1∨size=2∨size=4:=by simpa[bQ]using hz
   rcases hs with rfl|rfl|rfl
   ·by_cases hb:m<256
    ·exact(Sx m w hb).mono fun r w' h=>uy 1 m rfl rfl (by simp[fH,hz];omega) h
    ·exact(ET m w hn (by rw[bne_iff_ne];omega)).mono fun r w' h=>pY (by simp[fH];omega) h
   ·by_cases hb:m<65536
    ·exact(Sy m w hb).mono fun r w' h=>uy 2 m rfl rfl (by simp[fH,hz];omega) h
    ·exact(EU m w hn (by rw[bne_iff_ne];omega)).mono fun r w' h=>pY (by simp[fH];omega) h
   ·by_cases hb:m<4294967296
    ·exact(OT m w hb).mono fun r w' h=>uy 4 m rfl rfl (by simp[fH,hz];omega) h
    ·exact(EW m w hn (by rw[bne_iff_ne];omega)).mono fun r w' h=>pY (by simp[fH];omega) h
end
section
open Go.RowKit
def cat (xs:List ByteArray):List UInt8:=(xs.map (·.data.toList)).flatten
theorem wH (xs:List ByteArray):Lib.join (xs.map (·.data.toList)) (ByteArray.data ⟨#[]⟩).toList=cat xs:=by
 cases xs with
 |nil=>rfl
 |cons x r=>
  rw[List.map_cons,Lib.join_cons];simp[cat,Lib.joinTail];rfl
theorem p8 (bk o c m:Nat)(xs:List ByteArray)(w:World)(hcells:∀(j:Nat) x,xs[j]? =some x->w.cell? ⟨bk,o+j,none⟩=some (.string x))(hbk:bk<w.heap.size)(hm:xs.length=m)(hN:xs.length<=140737488355328)(hcap:xs.length<=c)(hlen:(cat xs).length<=140737488355328):
  Calls Tryz.prog 108 #[.slice (some ⟨bk,o,none⟩) m c] w fun r w'=>r=.returned (.string ⟨(cat xs).toArray⟩)∧Below w.heap.size w w':=by
 subst hm;have C:Hid _:=Tryz.strings_Join bk o c xs ⟨#[]⟩ w hcells hbk hN hcap (by rw[wH];exact hlen);rw[wH]at C;clear hcells hlen;go_enter Tryz.func108,Tryz.ntmps108
 go_wp2_with (go_at_call 145;refine Calls.mono C.out ?_;rintro e w' ⟨rfl,hb⟩)
 go_ret;exact⟨rfl,hb⟩
theorem join_none (a:Option Addr)(c:Nat)(w:World):
  Calls Tryz.prog 108 #[.slice a 0 c] w fun r w'=>r=.returned (.string ⟨#[]⟩)∧w=w':=by
 go_enter Tryz.func108,Tryz.ntmps108
 go_wp2_with (go_at_call 145;refine(Tryz.strings_Join_none a c _ w).mono ?_;rintro e w' ⟨rfl,rfl⟩)
 go_ret;exact⟨rfl,rfl⟩
theorem SA (x y:ByteArray)(w:World)(hl:x.size+y.size<=140737488355328):
  Calls Tryz.prog 108 #[.slice (some ⟨w.heap.size,0,none⟩) 2 2] (w.alloc (.cells #[.string x,.string y] 9)) fun r w'=>r=.returned (.string ⟨(x.data.toList++y.data.toList).toArray⟩)∧Below w.heap.size w w':=by
 have hc:cat [x,y]=x.data.toList++y.data.toList:=by simp[cat]
 have h:=p8 w.heap.size 0 2 2 [x,y] (w.alloc (.cells #[.string x,.string y] 9)) (fun j z hj=>?_) (by simp) rfl (by simp) (by simp) (by rw[hc];simpa using hl)
 ·rw[hc]at h;exact h.mono fun r w' ⟨a,b⟩=>⟨a,((Below.refl _ _).alloc (Nat.le_refl _) _).trans (b.mono (by simp))⟩
 ·rw[World.cell?_alloc_at _ 9 _ (0+j) rfl,Nat.zero_add]
  match j,hj with
  |0,hj=>simp at hj⊢;exact hj
  |1,hj=>simp at hj⊢;exact hj
end
section
open Go.RowKit
theorem OU (s:ByteArray):s=⟨s.data.toList.toArray⟩:=by cases s;simp
theorem jX (l:List UInt8):(⟨l.toArray⟩:ByteArray).size=l.length:=by simp[ByteArray.size]
theorem qg {s t:ByteArray}(h:s.data.toList=t.data.toList):s=t:=ByteArray.ext (Array.toList_inj.1 h)
theorem JT (l r:List UInt8):(⟨(l++r).toArray⟩:ByteArray).extract 0 l.length=⟨l.toArray⟩:=by
 apply qg;rw[Lib.extract_data];simp
theorem JU (l r:List UInt8):(⟨(l++r).toArray⟩:ByteArray).extract l.length (l.length+r.length)=⟨r.toArray⟩:=by
 apply qg;rw[Lib.extract_data];simp
theorem ei (l r:List UInt8)(n:Int)(h:n=l.length):aL ⟨(l++r).toArray⟩ 0 n=(⟨l.toArray⟩,⟨r.toArray⟩,0):=by
 subst h;have h1:¬(l.length:Int)<0:=by omega
 have h2:¬(((⟨(l++r).toArray⟩:ByteArray).size:Int)<l.length):=by rw[jX,List.length_append];omega
 have h3:(⟨(l++r).toArray⟩:ByteArray).size=l.length+r.length:=by rw[jX,List.length_append]
 unfold aL;rw[if_neg (by simp),if_neg h1,if_neg h2,Int.toNat_natCast,h3,JT,JU]
theorem gC (l r:List UInt8)(n:Int)(h:n=l.length)(hz:bQ n=true):cj ⟨(l++r).toArray⟩ 0 n=((beNat l:Int),⟨r.toArray⟩,0):=by
 unfold cj;rw[ei l r n h];simp[hz]
theorem nW (s:ByteArray)(e n:Int)(h:(aL s e n).2.2=0):
  e=0∧∃l r:List UInt8,s=⟨(l++r).toArray⟩∧n=(l.length:Int)∧aL s e n=(⟨l.toArray⟩,⟨r.toArray⟩,0):=by
 by_cases he:e=0
 ·refine⟨he,?_⟩;subst he;by_cases h1:n<0
  ·simp[aL,h1]at h
  ·by_cases h2:(s.size:Int)<n
   ·simp[aL,h1,h2]at h
   ·obtain⟨k,rfl⟩:=Int.eq_ofNat_of_zero_le (Int.not_lt.1 h1);have hk:k<=s.data.toList.length:=by
     have:=Lib.size_eq s;omega
    have hl:(s.data.toList.take k).length=k:=by simp at hk⊢;omega
    have hs:s=⟨(s.data.toList.take k++s.data.toList.drop k).toArray⟩:=by rw[List.take_append_drop]
    refine⟨s.data.toList.take k,s.data.toList.drop k,hs,by rw[hl],?_⟩;have:=ei (s.data.toList.take k) (s.data.toList.drop k) (k:Int) (by rw[hl]);rw[<-hs]at this;exact this
 ·simp[aL,he]at h
theorem mO (s:ByteArray)(e n:Int)(h:(cj s e n).2.2=0):
  e=0∧bQ n=true∧∃l r:List UInt8,s=⟨(l++r).toArray⟩∧n=(l.length:Int)∧cj s e n=((beNat l:Int),⟨r.toArray⟩,0):=by
 cases hz:bQ n
 ·exfalso;by_cases he:e=0<;>simp[cj,hz,he]at h
 ·have h':(aL s e n).2.2=0:=by simpa[cj,hz]using h
  obtain⟨he,l,r,hs,hn,_⟩:=nW s e n h';subst he;refine⟨rfl,rfl,l,r,hs,hn,?_⟩;rw[hs];exact gC l r n hn hz
end
section
open Go.RowKit
end
section
def oD (c:Nat):Nat:=if c%2=1 then c/2^^^3988292384 else c/2
def iV (c:Nat):Nat:=oD (oD (oD (oD c)))
def fj (c:Nat):Nat:=iV (iV c)
def gM (c b:Nat):Nat:=fj (c^^^b)
def lK (c:Nat)(l:List UInt8):Nat:=l.foldl (fun c b=>gM c b.toNat) c
def kM (l:List UInt8):Nat:=lK 4294967295 l^^^4294967295
theorem xor_left_comm (x y z:Nat):x^^^(y^^^z)=y^^^(x^^^z):=by
 rw[<-Nat.xor_assoc,Nat.xor_comm x y,Nat.xor_assoc]
theorem jB {x y:Nat}(hx:x<4294967296)(hy:y<4294967296):x^^^y<4294967296:=Nat.xor_lt_two_pow (n:=32) hx hy
theorem lL (x y:Nat):oD (x^^^y)=oD x^^^oD y:=by
 have hm:=@Nat.xor_mod_two_eq_one x y;have hd:=@Nat.xor_div_two x y;unfold oD;rw[hd];by_cases h1:x%2=1<;>by_cases h2:y%2=1
 ·rw[if_neg (by rw[hm];simp[h1,h2]),if_pos h1,if_pos h2];rw[Nat.xor_assoc,xor_left_comm 3988292384,Nat.xor_self,Nat.xor_zero]
 ·rw[if_pos (by rw[hm];simp[h1,h2]),if_pos h1,if_neg h2];rw[Nat.xor_assoc,Nat.xor_assoc,Nat.xor_comm (y/2)]
 ·rw[if_pos (by rw[hm];simp[h1,h2]),if_neg h1,if_pos h2];rw[Nat.xor_assoc]
 ·rw[if_neg (by rw[hm];simp[h1,h2]),if_neg h1,if_neg h2]
theorem jY (x:Nat):oD (2*x)=x:=by
 unfold oD;rw[if_neg (by omega)];omega
theorem oO {c:Nat}(h:c<4294967296):oD c<4294967296:=by
 unfold oD;split
 ·exact jB (by omega) (by decide)
 ·omega
theorem qh (x y:Nat):iV (x^^^y)=iV x^^^iV y:=by
 unfold iV;rw[lL,lL,lL,lL]
theorem mP (x:Nat):iV (16*x)=x:=by
 unfold iV;rw[show 16*x=2*(2*(2*(2*x))) by omega,jY,jY,jY,jY]
theorem oP {c:Nat}(h:c<4294967296):iV c<4294967296:=oO (oO (oO (oO h)))
theorem fU (x y:Nat):fj (x^^^y)=fj x^^^fj y:=by
 unfold fj;rw[qh,qh]
theorem gD (x:Nat):fj (256*x)=x:=by
 unfold fj;rw[show 256*x=16*(16*x) by omega,mP,mP]
theorem JV {c:Nat}(h:c<4294967296):fj c<4294967296:=oP (oP h)
theorem JW {i b:Nat}(h:b<2^i)(a:Nat):2^i*a+b=2^i*a^^^b:=by
 apply Nat.eq_of_testBit_eq;intro j;rw[Nat.testBit_two_pow_mul_add _ h,Nat.testBit_xor,Nat.testBit_two_pow_mul];by_cases hj:j<i
 ·simp[hj,Nat.not_le.2 hj]
 ·have hb:b.testBit j=false:=Nat.testBit_lt_two_pow (Nat.lt_of_lt_of_le h (Nat.pow_le_pow_right (by decide) (by omega)));simp[hj,hb,Nat.le_of_not_lt hj]
theorem ZI (c:Nat):c=(16*(c/16))^^^(c%16):=by
 have h:2^4*(c/16)+c%16=2^4*(c/16)^^^c%16:=JW (Nat.mod_lt _ (by decide)) _;have h2:=Nat.div_add_mod c 16;simp only[Nat.reducePow]at h;omega
theorem De (c:Nat):c/16^^^iV (c%16)=iV c:=by
 conv=>rhs;rw[ZI c,qh,mP]
theorem wI {c b:Nat}(hc:c<4294967296)(hb:b<256):gM c b<4294967296:=JV (jB hc (by omega))
theorem tu (c:Nat)(l m:List UInt8):lK c (l++m)=lK (lK c l) m:=List.foldl_append
theorem EX {c:Nat}(hc:c<4294967296)(l:List UInt8):lK c l<4294967296:=by
 induction l generalizing c with
 |nil=>exact hc
 |cons b l ih=>exact ih (wI hc b.toNat_lt)
theorem JX (l:List UInt8):kM l<4294967296:=jB (EX (by decide) l) (by decide)
theorem four (C x0 x1 x2 x3 a b c d:Nat):
  gM (gM (gM (gM C (x0^^^a)) (x1^^^b)) (x2^^^c)) (x3^^^d)
   =gM (gM (gM (gM C x0) x1) x2) x3^^^fj (fj (fj (fj (a^^^256*b^^^65536*c^^^16777216*d)))):=by
 have e1:fj (a^^^256*b^^^65536*c^^^16777216*d)=fj a^^^b^^^256*c^^^65536*d:=by
  rw[fU,fU,fU,gD,show 65536*c=256*(256*c) by omega,gD,show 16777216*d=256*(65536*d) by omega,gD]
 have e2:fj (fj a^^^b^^^256*c^^^65536*d)=fj (fj a^^^b)^^^c^^^256*d:=by
  rw[fU,fU,gD,show 65536*d=256*(256*d) by omega,gD]
 have e3:fj (fj (fj a^^^b)^^^c^^^256*d)=fj (fj (fj a^^^b)^^^c)^^^d:=by
  rw[fU,gD]
 rw[e1,e2,e3];unfold gM;have s (C x a D:Nat):fj ((C^^^D)^^^(x^^^a))=fj (C^^^x)^^^fj (D^^^a):=by
  rw[<-fU]
  congr 1
  rw[Nat.xor_assoc,Nat.xor_assoc,xor_left_comm D]
 have s0:fj (C^^^(x0^^^a))=fj (C^^^x0)^^^fj a:=by rw[<-Nat.xor_assoc,fU]
 rw[s0,s,s,s]
end
section
open Go.RowKit
structure tv (w:World):Prop where
 lt:1<w.heap.size
 cell:∀i,i<16->w.cell? ⟨1,i,none⟩=some (.int .u32 ((iV i:Nat):Int))
theorem tv.below {w w':World}(h:tv w)(hb:Below w.heap.size w w'):tv w':=
 ⟨Nat.lt_of_lt_of_le h.lt hb.size,fun i hi=>by rw[hb.cell h.lt];exact h.cell i hi⟩
theorem SC (c:Nat)(h:c<4294967296):bits .and .u32 (c:Int) 15=((c%16:Nat):Int):=by
 have:=u32_and_nat c 15 h (by decide);rw[show((15:Nat):Int)=15 from rfl]at this;rw[this,Nat.and_two_pow_sub_one_eq_mod c 4]
theorem EZ (c:Nat)(h:c<4294967296):bits .xor .u32 ((c:Int)/16) ((iV (c%16):Nat):Int)=((iV c:Nat):Int):=by
 have:=u32_xor_nat (c/16) (iV (c%16)) (by omega) (oP (by omega));rw[De]at this;exact this
theorem lM (c:Nat)(hc:c<4294967296)(w:World)(h:tv w):
  Calls Tryz.prog 170 #[.int .u32 c] w fun r w'=>r=.returned (.int .u32 ((iV c:Nat):Int))∧w=w':=by
 have e1:=SC c hc;have e2:=EZ c hc;have hcell:=h.cell (c%16) (Nat.mod_lt _ (by decide));go_enter Tryz.func170,Tryz.ntmps170;go_wp2;go_ret;exact⟨rfl,rfl⟩
theorem E0 (c b:Nat)(hc:c<4294967296)(hb:b<256)(w:World)(h:tv w):
  Calls Tryz.prog 147 #[.int .u32 c,.int .u8 b] w fun r w'=>r=.returned (.int .u32 ((gM c b:Nat):Int))∧w=w':=by
 have e1:=u32_xor_nat c b hc (by omega);have hx:c^^^b<4294967296:=jB hc (by omega);unfold gM fj;generalize c^^^b=x at*;have H1:Hid _:=lM x hx w h;have H2:Hid _:=lM (iV x) (oP hx) w h;clear h;go_enter Tryz.func147,Tryz.ntmps147
 go_wp2_with fail
 refine Calls.mono H1.out ?_;rintro e w' ⟨rfl,rfl⟩
 go_wp2_with fail
 refine Calls.mono H2.out ?_;rintro e w' ⟨rfl,rfl⟩;go_wp2;go_ret;exact⟨rfl,rfl⟩
end
section
open Go.RowKit
theorem E3 (xs:List ByteArray)(k:Nat)(h:k<xs.length):cat (xs.take (k+1))=cat (xs.take k)++(xs.getD k ByteArray.empty).data.toList:=by
 have e:xs.take (k+1)=xs.take k++[xs.getD k ByteArray.empty]:=by
  rw[List.take_succ_eq_append_getElem h,List.getD_eq_getElem?_getD,List.getElem?_eq_getElem h];rfl
 rw[e];unfold cat;rw[List.map_append,List.flatten_append];simp
structure yT (w:World)(a:Option Addr)(len cap:Nat)(xs:List ByteArray):Prop where
 E4:xs.length=len
 VL:len<=cap
 small:len<=maxLen
 sizes:∀k,k<len->(xs.getD k ByteArray.empty).size<=maxLen
 cells:∀k,k<len->∃b o,a=some ⟨b,o,none⟩∧b<w.heap.size∧w.cell? ⟨b,o+k,none⟩=some (.string (xs.getD k ByteArray.empty))
theorem yU (c:Nat)(x:ByteArray)(i:Nat)(h:i<x.size):lK c (x.data.toList.take (i+1))=gM (lK c (x.data.toList.take i)) x[i].toNat:=by
 have h':i<x.data.toList.length:=by simpa using h
 rw[List.take_succ_eq_append_getElem h',tu];rfl
theorem JY (a:Option Addr)(len cap:Nat)(xs:List ByteArray)(w:World)(h:tv w)(row:yT w a len cap xs):
  Calls Tryz.prog 111 #[.slice a len cap] w fun r w'=>r=.returned (.int .i64 ((kM (cat xs):Nat):Int))∧w=w':=by
 have hm:=row.small;unfold maxLen at hm;have ROW:Hid (yT w a len cap xs):=row;have OV:Hid (tv w):=h;clear row h;go_enter Tryz.func111,Tryz.ntmps111;go_wp2
 go_loop [3,9] (fun c i=>∃(k C:Nat),k<=len∧i=.int .i64 k∧c=.int .u32 C∧C<4294967296∧Hid (C=lK 4294967295 (cat (xs.take k)))) (fun _ i=>len- (intOf i).toNat)
 case atStart=>exact⟨0,4294967295,Nat.zero_le _,rfl,rfl,by decide,rfl⟩
 case round=>
  obtain⟨k,C,hk,rfl,rfl,hC,eC⟩:=hrel;by_cases hlt:k<len
  ·obtain⟨bx,o,rfl,hbx,hc⟩:=ROW.out.cells k hlt;have hz:=ROW.out.sizes k hlt;unfold maxLen at hz;have eT:Hid (cat (xs.take (k+1))=cat (xs.take k)++(xs.getD k ByteArray.empty).data.toList):=E3 xs k (by rw[ROW.out.E4];exact hlt);generalize xs.getD k ByteArray.empty=x at*;go_wp2
   go_loop [3,15] (fun c i=>∃(j D:Nat),j<=x.size∧i=.int .i64 j∧c=.int .u32 D∧D<4294967296∧Hid (D=lK C (x.data.toList.take j))) (fun _ i=>x.size- (intOf i).toNat)
   case atStart=>exact⟨0,C,Nat.zero_le _,rfl,rfl,hC,rfl⟩
   case round=>
    obtain⟨j,D,hj,rfl,rfl,hD,eD⟩:=hrel;by_cases hlj:j<x.size
    ·have T:Hid _:=yU C x j hlj;have S:Hid _:=E0 D x[j].toNat hD (UInt8.toNat_lt _) w OV.out;have hS:gM D x[j].toNat<4294967296:=wI hD (UInt8.toNat_lt _)
     go_wp2_with fail
     refine Calls.mono S.out ?_;rintro e w' ⟨rfl,rfl⟩;go_wp2;refine⟨⟨j+1,_,by omega,by go_num,rfl,hS,?_⟩,by simp[intOf];omega⟩;rw[Hid,T.out,<-eD.out]
    ·have T:Hid (x.data.toList.take j=x.data.toList):=List.take_of_length_le (by simp;omega);go_wp2;refine⟨⟨k+1,D,by omega,by go_num,rfl,hD,?_⟩,by simp[intOf];omega⟩;rw[Hid,eT.out,tu,<-eC.out,eD.out,T.out]
  ·have e1:bits .xor .u32 (C:Int) 4294967295=((C^^^4294967295:Nat):Int):=u32_xor_nat C 4294967295 hC (by decide);have e2:Hid (kM (cat xs)=C^^^4294967295):=by
    rw[Hid,kM,eC.out,List.take_of_length_le (by rw[ROW.out.E4];omega)]
   have e3:C^^^4294967295<4294967296:=jB hC (by decide);generalize C^^^4294967295=S at*;go_wp2;go_ret;rw[e2.out];exact⟨rfl,rfl⟩
theorem JZ (xs:List ByteArray)(vs:Array Value)(w:World)(n:Nat)(hn:xs.length=n)(hv:vs=(xs.map Value.string).toArray)(hs:n<=8)(hz:∀x∈xs,x.size<=maxLen):
  yT (w.alloc (.cells vs 9)) (some ⟨w.heap.size,0,none⟩) n n xs:=by
 subst hn hv;refine⟨rfl,Nat.le_refl _,by unfold maxLen;omega,fun k hk=>?_,fun k hk=>⟨_,_,rfl,by simp,?_⟩⟩
 ·rw[List.getD_eq_getElem?_getD,List.getElem?_eq_getElem hk];exact hz _ (List.getElem_mem hk)
 ·rw[World.cell?_alloc_at _ 9 _ (0+k) rfl,Nat.zero_add,List.getD_eq_getElem?_getD,List.getElem?_eq_getElem hk];simp[hk]
theorem J0 (xs:List ByteArray)(vs:Array Value)(w:World)(n:Nat)(h:tv w)(hn:xs.length=n)(hv:vs=(xs.map Value.string).toArray)(hs:n<=8)(hz:∀x∈xs,x.size<=maxLen):
  Calls Tryz.prog 111 #[.slice (some ⟨w.heap.size,0,none⟩) n n] (w.alloc (.cells vs 9)) fun r w'=>r=.returned (.int .i64 ((kM (cat xs):Nat):Int))∧w.alloc (.cells vs 9)=w':=
 JY _ n n xs _ (h.below ((Below.refl _ _).alloc (Nat.le_refl _) _)) (JZ xs vs w n hn hv hs hz)
theorem VN (x:ByteArray)(w:World)(h:tv w)(hx:x.size<=maxLen):
  Calls Tryz.prog 111 #[.slice (some ⟨w.heap.size,0,none⟩) 1 1] (w.alloc (.cells #[.string x] 9)) fun r w'=>r=.returned (.int .i64 ((kM x.data.toList:Nat):Int))∧w.alloc (.cells #[.string x] 9)=w':=by
 have:=J0 [x] #[.string x] w 1 h rfl rfl (by decide) (by simpa using hx);rw[show cat [x]=x.data.toList by simp[cat]]at this;exact this
end
section
open Go.RowKit Go.WideShapes
theorem own:ownKnob Tryz.prog.godebug=none:=by kernel_rfl
end
section
open Go.RowKit
end
section
open Go.RowKit
def fx (n:Nat)(k:UInt8)(b:List UInt8):List UInt8:=
 beBytes 4 n++([k]++([0]++(beBytes 2 b.length++(List.replicate 4 0++(b++List.replicate (240-b.length) 0)))))
def cC (n:Nat)(k:UInt8)(b:List UInt8):List UInt8:=beBytes 4 (kM (fx n k b))++fx n k b
theorem lN (n:Nat)(k:UInt8)(b:List UInt8)(h:b.length<=240):(fx n k b).length=252:=by
 simp[fx,beBytes_length];omega
theorem lO (n:Nat)(k:UInt8)(b:List UInt8)(h:b.length<=240):(cC n k b).length=256:=by
 rw[cC,List.length_append,beBytes_length,lN n k b h]
def eO (id:Int)(n:Nat):Int:=if 240<n then 50 else if fH 4 id=true then 0 else 1
def fZ (id:Int)(k:UInt8)(b:List UInt8):List UInt8:=if eO id b.length=0 then cC id.toNat k b else []
theorem E5 (id:Int):fH 4 id=true↔0<=id∧id<4294967296:=by simp[fH,bQ]
theorem iW {id:Int}{n:Nat}:eO id n=0↔n<=240∧0<=id∧id<4294967296:=by
 rw[<-E5];unfold eO;by_cases h:240<n
 ·rw[if_pos h];constructor
  ·intro e;cases e
  ·intro e;omega
 ·rw[if_neg h];cases hp:fH 4 id
  ·simp
  ·simp;omega
def SD (s:List UInt8):UInt8:=s.getD 8 0
def VO (s:List UInt8):Nat:=beNat ((s.drop 10).take 2)
def OW (s:List UInt8):List UInt8:=(s.drop 16).take (VO s)
theorem AQ (a b:List UInt8)(k:Nat)(h:a.length=k):(a++b).drop k=b:=by subst h;simp
theorem AR (a b:List UInt8)(k:Nat)(h:a.length=k):(a++b).take k=a:=by subst h;simp
theorem lQ (n:Nat)(k:UInt8)(b:List UInt8):(cC n k b).drop 10=beBytes 2 b.length++(List.replicate 4 0++(b++List.replicate (240-b.length) 0)):=by
 have e:cC n k b=(beBytes 4 (kM (fx n k b))++(beBytes 4 n++([k]++[0])))++(beBytes 2 b.length++(List.replicate 4 0++(b++List.replicate (240-b.length) 0))):=by
  conv=>lhs;rw[cC]
  conv=>lhs;rhs;rw[fx]
  simp only[List.append_assoc]
 rw[e];exact AQ _ _ 10 (by simp[beBytes_length])
theorem E6 (n:Nat)(k:UInt8)(b:List UInt8)(h:b.length<=240):VO (cC n k b)=b.length:=by
 unfold VO;rw[lQ,AR _ _ 2 (beBytes_length _ _),jy 2 _ (by omega)]
theorem wJ (n:Nat)(k:UInt8)(b:List UInt8)(h:b.length<=240):OW (cC n k b)=b:=by
 unfold OW;rw[E6 n k b h,show 16=10+6 from rfl,<-List.drop_drop,lQ,<-List.append_assoc,AQ _ _ 6 (by simp[beBytes_length]),AR _ _ _ rfl]
theorem wK (n:Nat)(k:UInt8)(b:List UInt8):SD (cC n k b)=k:=by
 have e:cC n k b=(beBytes 4 (kM (fx n k b))++beBytes 4 n)++(k::([0]++(beBytes 2 b.length++(List.replicate 4 0++(b++List.replicate (240-b.length) 0))))):=by
  conv=>lhs;rw[cC]
  conv=>lhs;rhs;rw[fx]
  simp only[List.append_assoc,List.cons_append,List.nil_append]
 unfold SD;rw[e,List.getD_eq_getElem?_getD,List.getElem?_append_right (by simp[beBytes_length])];simp[beBytes_length]
def opn (id:Int)(s:List UInt8):UInt8×List UInt8×Int:=
 if eO id (OW s).length=0∧s=cC id.toNat (SD s) (OW s)then(SD s,OW s,0)else(0,[],3)
theorem E7 (id:Int)(k:UInt8)(b:List UInt8)(h:eO id b.length=0):opn id (cC id.toNat k b)=(k,b,0):=by
 have hl:=(iW.1 h).1;unfold opn;rw[wJ _ _ _ hl,wK,if_pos ⟨h,rfl⟩]
theorem mQ (id:Int)(s:List UInt8):(∃k b,eO id b.length=0∧s=cC id.toNat k b∧opn id s=(k,b,0))∨((∀k b,eO id b.length=0->s≠cC id.toNat k b)∧opn id s=(0,[],3)):=by
 by_cases c:eO id (OW s).length=0∧s=cC id.toNat (SD s) (OW s)
 ·exact .inl ⟨_,_,c.1,c.2,by rw[opn,if_pos c]⟩
 ·refine .inr ⟨fun k b h e=>c ?_,by rw[opn,if_neg c]⟩;subst e;have hl:=(iW.1 h).1;rw[wJ _ _ _ hl,wK];exact⟨h,rfl⟩
def E8 (s:ByteArray):ByteArray×ByteArray×Int:=aL s 0 8
def AU (s:ByteArray):Int×ByteArray×Int:=cj (E8 s).2.1 (E8 s).2.2 1
def J4 (s:ByteArray):ByteArray×ByteArray×Int:=aL (AU s).2.1 (AU s).2.2 1
def E9 (s:ByteArray):Int×ByteArray×Int:=cj (J4 s).2.1 (J4 s).2.2 2
def J5 (s:ByteArray):ByteArray×ByteArray×Int:=aL (E9 s).2.1 (E9 s).2.2 4
def OY (s:ByteArray):ByteArray×ByteArray×Int:=aL (J5 s).2.1 (J5 s).2.2 (E9 s).1
def yL (s:ByteArray):UInt8:=UInt8.ofNat (AU s).1.toNat
def oQ (s:ByteArray):ByteArray:=(OY s).1
theorem Fa (s:ByteArray):(AU s).1=((yL s).toNat:Int):=by
 have h:0<=(AU s).1∧(AU s).1<256:=by
  unfold AU cj;rw[if_neg (by decide)];generalize(E8 s).2.1=t;generalize(E8 s).2.2=e;have hl:(aL t e 1).1.size<=1:=by
   unfold aL;split
   ·simp
   ·split
    ·simp
    ·split
     ·simp
     ·simp;omega
  have h1:=wE (aL t e 1).1.data.toList;have h2:256^(aL t e 1).1.data.toList.length<=256^1:=Nat.pow_le_pow_right (by omega) (by simpa using hl);dsimp only;omega
 unfold yL;simp;omega
theorem J6 (n:Nat)(k:UInt8)(b:List UInt8)(h:b.length<=240):yL ⟨(cC n k b).toArray⟩=k∧oQ ⟨(cC n k b).toArray⟩=⟨b.toArray⟩:=by
 have e:cC n k b=(beBytes 4 (kM (fx n k b))++beBytes 4 n)++([k]++([0]++(beBytes 2 b.length++(List.replicate 4 0++(b++List.replicate (240-b.length) 0))))):=by
  conv=>lhs;rw[cC]
  conv=>lhs;rhs;rw[fx]
  simp only[List.append_assoc]
 have e1:E8 ⟨(cC n k b).toArray⟩=(⟨(beBytes 4 (kM (fx n k b))++beBytes 4 n).toArray⟩,⟨([k]++([0]++(beBytes 2 b.length++(List.replicate 4 0++(b++List.replicate (240-b.length) 0))))).toArray⟩,0):=by
  rw[E8,e];exact ei _ _ 8 (by simp[beBytes_length])
 have e2:AU ⟨(cC n k b).toArray⟩=((beNat [k]:Int),⟨([0]++(beBytes 2 b.length++(List.replicate 4 0++(b++List.replicate (240-b.length) 0)))).toArray⟩,0):=by
  rw[AU,e1];exact gC _ _ 1 rfl rfl
 have e3:J4 ⟨(cC n k b).toArray⟩=(⟨[0].toArray⟩,⟨(beBytes 2 b.length++(List.replicate 4 0++(b++List.replicate (240-b.length) 0))).toArray⟩,0):=by
  rw[J4,e2];exact ei _ _ 1 rfl
 have e4:E9 ⟨(cC n k b).toArray⟩=((beNat (beBytes 2 b.length):Int),⟨(List.replicate 4 0++(b++List.replicate (240-b.length) 0)).toArray⟩,0):=by
  rw[E9,e3];exact gC _ _ 2 (by rw[beBytes_length];rfl) rfl
 rw[jy 2 _ (by omega)]at e4;have e5:J5 ⟨(cC n k b).toArray⟩=(⟨(List.replicate 4 0).toArray⟩,⟨(b++List.replicate (240-b.length) 0).toArray⟩,0):=by
  rw[J5,e4];exact ei _ _ 4 rfl
 have e6:OY ⟨(cC n k b).toArray⟩=(⟨b.toArray⟩,⟨(List.replicate (240-b.length) 0).toArray⟩,0):=by
  rw[OY,e5,e4];exact ei _ _ _ rfl
 refine⟨?_,by rw[oQ,e6]⟩;rw[yL,e2];simp[beNat]
theorem Df (id:Int)(s:ByteArray):
    (if eO id (oQ s).size=0∧(⟨(fZ id (yL s) (oQ s).data.toList).toArray⟩:ByteArray)=s then(yL s,(oQ s).data.toList,(0:Int))else(0,[],3))=opn id s.data.toList:=by
  have hsz:(oQ s).size=(oQ s).data.toList.length:=by simp
  by_cases c:eO id (oQ s).size=0∧(⟨(fZ id (yL s) (oQ s).data.toList).toArray⟩:ByteArray)=s
  · rw[if_pos c];have h0:eO id (oQ s).data.toList.length=0:=by rw[<-hsz];exact c.1
    have hs:s.data.toList=cC id.toNat (yL s) (oQ s).data.toList:=by
      have:=c.2;rw[fZ,if_pos h0]at this
      conv=>lhs;rw[<-this]
    rw[hs,E7 _ _ _ h0]
  · rw[if_neg c];rcases mQ id s.data.toList with⟨k,b,h1,h2,h3⟩| ⟨_,h⟩
    · exfalso;apply c;have e:s=⟨(cC id.toNat k b).toArray⟩:=by rw[<-h2]
      obtain⟨hk,hb⟩:=J6 id.toNat k b (iW.1 h1).1;rw[e,hk,hb];refine⟨by rw[jX];exact h1,?_⟩;rw[fZ,if_pos (by simpa using h1)]
    · exact h.symm
end
section
open Go.RowKit
theorem wL (n:Nat):Lib.repeatL [0] n=List.replicate n (0:UInt8):=by
 have:=Lib.repeatL_replicate 0 1 n;simpa using this
theorem jC (n:Nat)(w:World)(hn:n<=1000):
  Calls Tryz.prog 110 #[.int .i64 n] w fun e w'=>e=.returned (.string ⟨(List.replicate n (0:UInt8)).toArray⟩)∧Below w.heap.size w w':=by
 have C:Hid (Calls Tryz.prog 55 #[.string ⟨#[0]⟩,.int .i64 n] w fun e w'=>e=.returned (.string ⟨(Lib.repeatL [0] n).toArray⟩)∧Below w.heap.size w w'):=Tryz.strings_Repeat ⟨#[0]⟩ n w (by omega) (by show 1*n<=_;omega);rw[wL]at C;go_enter Tryz.func110,Tryz.ntmps110
 go_wp2_with (go_at_call 55;refine Calls.mono C.out ?_;rintro e w' ⟨rfl,hb⟩)
 go_ret;exact⟨rfl,hb⟩
theorem wM (xs:List ByteArray)(vs:Array Value)(w:World)(n:Nat)(hn:xs.length=n)(hv:vs=(xs.map Value.string).toArray)(hs:n<=8)(hl:(cat xs).length<=140737488355328):
  Calls Tryz.prog 108 #[.slice (some ⟨w.heap.size,0,none⟩) n n] (w.alloc (.cells vs 9)) fun r w'=>r=.returned (.string ⟨(cat xs).toArray⟩)∧Below w.heap.size w w':=by
 subst hn hv;have h:=p8 w.heap.size 0 xs.length xs.length xs (w.alloc (.cells (xs.map Value.string).toArray 9)) (fun j z hj=>?_) (by simp) rfl (by omega) (Nat.le_refl _) hl
 ·exact h.mono fun r w' ⟨a,b⟩=>⟨a,((Below.refl _ _).alloc (Nat.le_refl _) _).trans (b.mono (by simp))⟩
 ·rw[World.cell?_alloc_at _ 9 _ (0+j) rfl,Nat.zero_add];simp[hj]
theorem one_byte (k:UInt8):beBytes 1 k.toNat=[k]:=by simp[beBytes]
theorem Fb (n:Nat)(k:UInt8)(b:ByteArray):
  cat [⟨(beBytes 4 n).toArray⟩,⟨(beBytes 1 k.toNat).toArray⟩,⟨(List.replicate 1 (0:UInt8)).toArray⟩,⟨(beBytes 2 b.size).toArray⟩,⟨(List.replicate 4 (0:UInt8)).toArray⟩,b,⟨(List.replicate (240-b.size) (0:UInt8)).toArray⟩]=fx n k b.data.toList:=by
 rw[one_byte];simp only[cat,List.map_cons,List.map_nil,List.flatten_cons,List.flatten_nil,List.append_nil,fx];rw[show b.data.toList.length=b.size by simp];rfl
theorem Fc (n:Nat)(k:UInt8)(b:List UInt8):cat [⟨(beBytes 4 (kM (fx n k b))).toArray⟩,⟨(fx n k b).toArray⟩]=cC n k b:=by
 simp only[cat,List.map_cons,List.map_nil,List.flatten_cons,List.flatten_nil,List.append_nil,cC]
theorem J7 (n:Nat)(k:UInt8)(b:ByteArray)(w:World)(T:tv w)(hn:n<4294967296)(hb:b.size<=240):
  Calls Tryz.prog 73 #[.int .i64 n,.int .u8 (k.toNat:Int),.string b] w fun e w'=>e=.returned (.tuple #[.string ⟨(cC n k b.data.toList).toArray⟩,.int .i64 0])∧Below w.heap.size w w':=by
 have OV:Hid (tv w):=T;have C1:Hid _:=OT n w hn;have hk:k.toNat<256:=UInt8.toNat_lt k;have hl:(fx n k b.data.toList).length=252:=lN _ _ _ (by simpa using hb);have ER:Hid (_=fx n k b.data.toList):=Fb n k b;have EP:Hid (_=cC n k b.data.toList):=Fc n k b.data.toList;have hS:kM (fx n k b.data.toList)<4294967296:=JX _;have hP:(cC n k b.data.toList).length=256:=lO _ _ _ (by simpa using hb);generalize fx n k b.data.toList=R at*;generalize cC n k b.data.toList=G at*;clear T;go_enter Tryz.func73,Tryz.ntmps73
 go_wp2_with fail
 refine Calls.mono C1.out ?_;rintro e w1 ⟨rfl,b1⟩;have B1:Hid (Below w.heap.size w w1):=b1;clear b1 C1;have C2:Hid _:=Sx k.toNat w1 hk
 go_wp2_with fail
 refine Calls.mono C2.out ?_;rintro e w2 ⟨rfl,b2⟩;have B2:Hid (Below w.heap.size w w2):=B1.out.trans (b2.mono B1.out.size);clear b2 C2;have C3:Hid _:=Sy b.size w2 (by omega)
 go_wp2_with fail
 refine Calls.mono C3.out ?_;rintro e w3 ⟨rfl,b3⟩;have B3:Hid (Below w.heap.size w w3):=B2.out.trans (b3.mono B2.out.size);clear b3 C3;have C4:Hid (Calls Tryz.prog 110 #[.int .i64 1] w3 fun e w'=>e=.returned (.string ⟨(List.replicate 1 (0:UInt8)).toArray⟩)∧Below w3.heap.size w3 w'):=jC 1 w3 (by omega)
 go_wp2_with fail
 refine Calls.mono C4.out ?_;rintro e w4 ⟨rfl,b4⟩;have B4:Hid (Below w.heap.size w w4):=B3.out.trans (b4.mono B3.out.size);clear b4 C4;have C5:Hid (Calls Tryz.prog 110 #[.int .i64 4] w4 fun e w'=>e=.returned (.string ⟨(List.replicate 4 (0:UInt8)).toArray⟩)∧Below w4.heap.size w4 w'):=jC 4 w4 (by omega)
 go_wp2_with fail
 refine Calls.mono C5.out ?_;rintro e w5 ⟨rfl,b5⟩;have B5:Hid (Below w.heap.size w w5):=B4.out.trans (b5.mono B4.out.size);clear b5 C5;have C6:Hid _:=jC (240-b.size) w5 (by omega);rw[show(((240-b.size:Nat):Int))=240- (b.size:Int) by omega]at C6
 go_wp2_with fail
 refine Calls.mono C6.out ?_;rintro e w6 ⟨rfl,b6⟩;have B6:Hid (Below w.heap.size w w6):=B5.out.trans (b6.mono B5.out.size);clear b6 C6;have C7:Hid _:=wM [⟨(beBytes 4 n).toArray⟩,⟨(beBytes 1 k.toNat).toArray⟩,⟨(List.replicate 1 (0:UInt8)).toArray⟩,⟨(beBytes 2 b.size).toArray⟩,⟨(List.replicate 4 (0:UInt8)).toArray⟩,b,⟨(List.replicate (240-b.size) (0:UInt8)).toArray⟩] _ w6 7 rfl rfl (by omega) (by rw[ER.out,hl];omega);rw[ER.out]at C7
 go_wp2_with fail
 refine Calls.mono C7.out ?_;rintro e w7 ⟨rfl,b7⟩;have B7:Hid (Below w.heap.size w w7):=B6.out.trans (b7.mono B6.out.size);clear b7 C7;have C8:Hid _:=VN ⟨R.toArray⟩ w7 (OV.out.below B7.out) (by rw[jX];unfold maxLen;omega);rw[show(⟨R.toArray⟩:ByteArray).data.toList=R from rfl]at C8
 go_wp2_with fail
 refine Calls.mono C8.out ?_;rintro e w8 ⟨rfl,hw8⟩;have B8:Hid (Below w.heap.size w w8):=by subst hw8;exact B7.out.alloc B7.out.size _
 clear hw8 C8;have C9:Hid _:=OT (kM R) w8 hS
 go_wp2_with fail
 refine Calls.mono C9.out ?_;rintro e w9 ⟨rfl,b9⟩;have B9:Hid (Below w.heap.size w w9):=B8.out.trans (b9.mono B8.out.size);clear b9 C9;have VP:Hid _:=wM [⟨(beBytes 4 (kM R)).toArray⟩,⟨R.toArray⟩] _ w9 2 rfl rfl (by omega) (by rw[EP.out,hP];omega);rw[EP.out]at VP
 go_wp2_with fail
 refine Calls.mono VP.out ?_;rintro e UW ⟨rfl,b10⟩;have B10:Hid (Below w.heap.size w UW):=B9.out.trans (b10.mono B9.out.size);clear b10 VP;go_wp2;go_ret2;exact⟨rfl,B10.out⟩
theorem Dg (id:Int)(k:UInt8)(b:ByteArray)(w:World)(hb:240<b.size)(hm:b.size<=maxLen):
  Calls Tryz.prog 73 #[.int .i64 id,.int .u8 (k.toNat:Int),.string b] w fun e w'=>e=.returned (.tuple #[.string ⟨#[]⟩,.int .i64 50])∧w=w':=by
 unfold maxLen at hm;go_enter Tryz.func73,Tryz.ntmps73;go_wp2;go_ret2;exact⟨rfl,rfl⟩
theorem Fe (id:Int)(k:UInt8)(b:ByteArray)(w:World)(hb:b.size<=240)(hp:fH 4 id=false):
  Calls Tryz.prog 73 #[.int .i64 id,.int .u8 (k.toNat:Int),.string b] w fun e w'=>e=.returned (.tuple #[.string ⟨#[]⟩,.int .i64 1])∧Below w.heap.size w w':=by
 have C:Hid _:=lJ 4 id w;rw[show mM 4 id=[] by simp[mM,hp],show mN 4 id=1 by simp[mN,hp]]at C;clear hp;go_enter Tryz.func73,Tryz.ntmps73
 go_wp2_with fail
 refine Calls.mono C.out ?_;rintro e w1 ⟨rfl,b1⟩;go_wp2;go_ret2;exact⟨rfl,b1⟩
theorem wN (id:Int)(k:UInt8)(b:ByteArray)(w:World)(T:tv w)(hm:b.size<=maxLen):
  Calls Tryz.prog 73 #[.int .i64 id,.int .u8 (k.toNat:Int),.string b] w fun e w'=>e=.returned (.tuple #[.string ⟨(fZ id k b.data.toList).toArray⟩,.int .i64 (eO id b.size)])∧Below w.heap.size w w':=by
 have hsz:b.data.toList.length=b.size:=by simp
 by_cases hb:240<b.size
 ·have e1:eO id b.size=50:=by rw[eO,if_pos hb]
  have e2:fZ id k b.data.toList=[]:=by rw[fZ,hsz,e1,if_neg (by decide)]
  rw[e1,e2];exact(Dg id k b w hb hm).mono fun e w' ⟨h1,h2⟩=>⟨h1,by subst h2;exact Below.refl _ _⟩
 ·cases hp:fH 4 id
  ·have e1:eO id b.size=1:=by rw[eO,if_neg hb,hp,if_neg (by decide)]
   have e2:fZ id k b.data.toList=[]:=by rw[fZ,hsz,e1,if_neg (by decide)]
   rw[e1,e2];exact Fe id k b w (by omega) hp
  ·have e1:eO id b.size=0:=by rw[eO,if_neg hb,hp,if_pos rfl]
   have e2:fZ id k b.data.toList=cC id.toNat k b.data.toList:=by rw[fZ,hsz,e1,if_pos rfl]
   obtain⟨h0,h1⟩:=(E5 id).1 hp;rw[e1,e2];have:=J7 id.toNat k b w T (by omega) (by omega);rw[show((id.toNat:Nat):Int)=id by omega]at this;exact this
end
section
open Go.RowKit
theorem OZ {a b:ByteArray}(h:¬a=b):(a.toList==b.toList)=false:=by
 rw[beq_eq_false_iff_ne,Lib.toList_data,Lib.toList_data];intro e;exact h (qg e)
theorem sJ (s:ByteArray)(e n:Int)(h:s.size<=maxLen):(aL s e n).1.size<=maxLen:=by
 unfold aL;split
 ·unfold maxLen;simp
 ·split
  ·unfold maxLen;simp
  ·split
   ·unfold maxLen;simp
   ·simp;omega
theorem Dh (s:ByteArray)(w:World)(hs:s.size<=maxLen):
  Calls Tryz.prog 100 #[.string s] w fun e w'=>e=.returned (.tuple #[.int .u8 ((yL s).toNat:Int),.string (oQ s)])∧(oQ s).size<=maxLen∧Below w.heap.size w w':=by
 have C0:Hid _:=pV s w;have R0:Hid _:=Rd.made s hs w;have bl:Hid (Below w.heap.size w (w.alloc (.cells #[.string s,.int .i64 0] 239))):=(Below.refl _ _).alloc (Nat.le_refl _) _;have hK:=Fa s;have hk:(yL s).toNat<256:=UInt8.toNat_lt _;unfold oQ;generalize(yL s).toNat=K at*;go_enter Tryz.func100,Tryz.ntmps100
 go_wp2_with fail
 refine Calls.mono C0.out ?_;rintro e w0 ⟨rfl,h0⟩;rw[<-h0]at R0 bl;clear h0 C0;have C1:Hid (Calls Tryz.prog 143 #[.pointer (some ⟨w.heap.size,0,none⟩),.int .i64 8] w0 fun r w'=>r=.returned (.string (E8 s).1)∧Rd w.heap.size (E8 s).2.1 (E8 s).2.2 w'∧Only w.heap.size w0 w'):=gB w.heap.size s 0 8 w0 R0.out
 go_wp2_with fail
 refine Calls.mono C1.out ?_;rintro e w1 ⟨rfl,r1,o1⟩;have R1:Hid (Rd w.heap.size (E8 s).2.1 (E8 s).2.2 w1):=r1;have O1:Hid (Only w.heap.size w0 w1):=o1;clear r1 o1 C1;have C2:Hid (Calls Tryz.prog 144 #[.pointer (some ⟨w.heap.size,0,none⟩),.int .i64 1] w1 fun r w'=>r=.returned (.int .i64 (AU s).1)∧Rd w.heap.size (AU s).2.1 (AU s).2.2 w'∧Only w.heap.size w1 w'):=lI w.heap.size _ _ 1 w1 R1.out;rw[hK]at C2
 go_wp2_with fail
 refine Calls.mono C2.out ?_;rintro e w2 ⟨rfl,r2,o2⟩;have R2:Hid (Rd w.heap.size (AU s).2.1 (AU s).2.2 w2):=r2;have O2:Hid (Only w.heap.size w0 w2):=O1.out.trans o2;clear r2 o2 C2;have C3:Hid (Calls Tryz.prog 143 #[.pointer (some ⟨w.heap.size,0,none⟩),.int .i64 1] w2 fun r w'=>r=.returned (.string (J4 s).1)∧Rd w.heap.size (J4 s).2.1 (J4 s).2.2 w'∧Only w.heap.size w2 w'):=gB w.heap.size _ _ 1 w2 R2.out
 go_wp2_with fail
 refine Calls.mono C3.out ?_;rintro e w3 ⟨rfl,r3,o3⟩;have R3:Hid (Rd w.heap.size (J4 s).2.1 (J4 s).2.2 w3):=r3;have O3:Hid (Only w.heap.size w0 w3):=O2.out.trans o3;clear r3 o3 C3;have C4:Hid (Calls Tryz.prog 144 #[.pointer (some ⟨w.heap.size,0,none⟩),.int .i64 2] w3 fun r w'=>r=.returned (.int .i64 (E9 s).1)∧Rd w.heap.size (E9 s).2.1 (E9 s).2.2 w'∧Only w.heap.size w3 w'):=lI w.heap.size _ _ 2 w3 R3.out
 go_wp2_with fail
 refine Calls.mono C4.out ?_;rintro e w4 ⟨rfl,r4,o4⟩;have R4:Hid (Rd w.heap.size (E9 s).2.1 (E9 s).2.2 w4):=r4;have O4:Hid (Only w.heap.size w0 w4):=O3.out.trans o4;clear r4 o4 C4;have C5:Hid (Calls Tryz.prog 143 #[.pointer (some ⟨w.heap.size,0,none⟩),.int .i64 4] w4 fun r w'=>r=.returned (.string (J5 s).1)∧Rd w.heap.size (J5 s).2.1 (J5 s).2.2 w'∧Only w.heap.size w4 w'):=gB w.heap.size _ _ 4 w4 R4.out
 go_wp2_with fail
 refine Calls.mono C5.out ?_;rintro e w5 ⟨rfl,r5,o5⟩;have R5:Hid (Rd w.heap.size (J5 s).2.1 (J5 s).2.2 w5):=r5;have O5:Hid (Only w.heap.size w0 w5):=O4.out.trans o5;clear r5 o5 C5;have C6:Hid (Calls Tryz.prog 143 #[.pointer (some ⟨w.heap.size,0,none⟩),.int .i64 (E9 s).1] w5 fun r w'=>r=.returned (.string (OY s).1)∧Rd w.heap.size (OY s).2.1 (OY s).2.2 w'∧Only w.heap.size w5 w'):=gB w.heap.size _ _ _ w5 R5.out;have Z:Hid ((OY s).1.size<=maxLen):=sJ _ _ _ R5.out.sz
 go_wp2_with fail
 refine Calls.mono C6.out ?_;rintro e w6 ⟨rfl,r6,o6⟩;have O6:Hid (Only w.heap.size w0 w6):=O5.out.trans o6;clear r6 o6 C6;go_wp2;go_ret2;exact⟨rfl,Z.out,bl.out.trans (O6.out.below (Nat.le_refl _))⟩
theorem Ff (id:Int)(s:ByteArray)(w:World)(T:tv w)(hs:s.size<=maxLen):
  Calls Tryz.prog 63 #[.int .i64 id,.string s] w fun e w'=>e=.returned (.tuple #[.int .u8 ((opn id s.data.toList).1.toNat:Int),.string ⟨(opn id s.data.toList).2.1.toArray⟩,.int .i64 (opn id s.data.toList).2.2])∧Below w.heap.size w w':=by
 have OV:Hid (tv w):=T;have C0:Hid _:=Dh s w hs;have EO:Hid _:=Df id s;clear T;have SE:Hid (∀w1,tv w1->(oQ s).size<=maxLen->Calls Tryz.prog 73 #[.int .i64 id,.int .u8 ((yL s).toNat:Int),.string (oQ s)] w1 fun e w'=>e=.returned (.tuple #[.string ⟨(fZ id (yL s) (oQ s).data.toList).toArray⟩,.int .i64 (eO id (oQ s).size)])∧Below w1.heap.size w1 w'):=fun w1 h1 h2=>wN id (yL s) (oQ s) w1 h1 h2;generalize(⟨(fZ id (yL s) (oQ s).data.toList).toArray⟩:ByteArray)=A at*;generalize eO id (oQ s).size=E at*;generalize hO:opn id s.data.toList=O at*;have hb:oQ s=⟨(oQ s).data.toList.toArray⟩:=rfl;by_cases h1:E=0
 ·subst h1;by_cases h2:A=s
  ·subst h2;have SG:Hid ((yL A,(oQ A).data.toList,(0:Int))=O):=by
    have:=EO.out
    rwa [if_pos ⟨rfl,rfl⟩]at this
   clear EO;go_enter Tryz.func63,Tryz.ntmps63
   go_wp2_with fail
   refine Calls.mono C0.out ?_;rintro e w1 ⟨rfl,z1,b1⟩;have B1:Hid (Below w.heap.size w w1):=b1;have C1:Hid _:=SE.out w1 (OV.out.below b1) z1;clear b1 C0 SE z1
   go_wp2_with fail
   refine Calls.mono C1.out ?_;rintro e w2 ⟨rfl,b2⟩;have B2:Hid (Below w.heap.size w w2):=B1.out.trans (b2.mono B1.out.size);clear b2 C1;go_wp2
   go_ret3
   rw[<-SG.out];exact⟨rfl,B2.out⟩
  ·have SG:Hid (((0:UInt8),([]:List UInt8),(3:Int))=O):=by
    have:=EO.out
    rwa [if_neg (fun c=>h2 c.2)]at this
   have hne:=OZ h2;clear EO;go_enter Tryz.func63,Tryz.ntmps63
   go_wp2_with fail
   refine Calls.mono C0.out ?_;rintro e w1 ⟨rfl,z1,b1⟩;have B1:Hid (Below w.heap.size w w1):=b1;have C1:Hid _:=SE.out w1 (OV.out.below b1) z1;clear b1 C0 SE z1
   go_wp2_with fail
   refine Calls.mono C1.out ?_;rintro e w2 ⟨rfl,b2⟩;have B2:Hid (Below w.heap.size w w2):=B1.out.trans (b2.mono B1.out.size);clear b2 C1;go_wp2
   go_ret3
   rw[<-SG.out];exact⟨rfl,B2.out⟩
 ·have SG:Hid (((0:UInt8),([]:List UInt8),(3:Int))=O):=by
   have:=EO.out
   rwa [if_neg (fun c=>h1 c.1)]at this
  have hne:(E != 0)=true:=by rw[bne_iff_ne];exact h1
  clear EO h1;go_enter Tryz.func63,Tryz.ntmps63
  go_wp2_with fail
  refine Calls.mono C0.out ?_;rintro e w1 ⟨rfl,z1,b1⟩;have B1:Hid (Below w.heap.size w w1):=b1;have C1:Hid _:=SE.out w1 (OV.out.below b1) z1;clear b1 C0 SE z1
  go_wp2_with fail
  refine Calls.mono C1.out ?_;rintro e w2 ⟨rfl,b2⟩;have B2:Hid (Below w.heap.size w w2):=B1.out.trans (b2.mono B1.out.size);clear b2 C1;go_wp2
  go_ret3
  rw[<-SG.out];exact⟨rfl,B2.out⟩
end
section
open Go.RowKit
end
section
open Go.RowKit
theorem J8 {id:Int}{s:List UInt8}(h:(opn id s).2.2≠0):opn id s=(0,[],3):=by
 rcases mQ id s with⟨k,b,_,_,h3⟩| ⟨_,h3⟩
 ·rw[h3]at h;exact absurd rfl h
 ·exact h3
end
section
open Go.RowKit
end
end
section
open Go.RowKit Go.WideShapes
def tab:List Int:=[0,498536548,997073096,651767980,1994146192,1802195444,1303535960,1342533948,3988292384,4027552580,3604390888,3412177804,2607071920,2262029012,2685067896,3183342108]
theorem Fg:∀n,n<16->tab.getD n 0=((iV n:Nat):Int):=by decide
theorem laidOut:laidOutB Tryz.prog=true:=by kernel_rfl
theorem AV:Tryz.prog.globalNamed "rootstock/crc.halves" =some 1:=by kernel_rfl
theorem Kc:(Tryz.prog.globals[1]?).map (·.type)=some 272:=by kernel_rfl
theorem Kd {w:World}{p:Addr}{v:Value}(h:w.cell? p=some v):p.block<w.heap.size:=by
 unfold World.cell? at h;by_cases hb:p.block<w.heap.size
 ·exact hb
 ·rw[Array.getElem?_eq_none (by omega)]at h;simp at h
theorem tab_of_laid {W:World}(h:laidMetH Tryz.prog [("rootstock/crc.halves",Rows.laid_rootstock_crc_halves)] W):tv W:=by
 rw[MakeChecks.laidMetH_plain _ _ _ (by kernel_rfl)]at h;have hT:Lib.TabIs Tryz.prog W "rootstock/crc.halves" .u32 tab:=
  Lib.tabIs_of_head AV Kc Tryz.underlying272 Tryz.underlying205 (by kernel_rfl) (by kernel_rfl) (rest:=[]) h
 have hc:∀i,i<16->W.cell? ⟨1,i,none⟩=some (.int .u32 ((iV i:Nat):Int)):=fun i hi=>by
  rw[<-Fg i hi];exact hT.cell AV i hi
 exact⟨Kd (hc 0 (by decide)),hc⟩
theorem door_met (os:Os)(args:Array Value):laidMetH Tryz.prog [("rootstock/crc.halves",Rows.laid_rootstock_crc_halves)] ((World.doorLaid Tryz.prog 400 os).forCall (fun _ _=>0) ⟨#[],args,[]⟩).memory:=
 laidMetH_of_parts3 (fuel:=8) (laidMet_of_run' 8 (by kernel_rfl) (by kernel_rfl)) (by kernel_rfl) (by kernel_rfl)
end
section
section
open Go.RowKit
abbrev Wr:=Nat×ByteArray
structure Dk where
 sure:List ByteArray
 pend:List Wr
 brk:Option Nat
 down:Bool
 reads:Int
 writes:Int
def vW (l:List Wr)(k:Nat):Wr:=l.getD k (0,ByteArray.empty)
def Ez (l:List ByteArray)(i:Nat):ByteArray:=l.getD i ByteArray.empty
def tx (sure:List ByteArray)(pend:List Wr)(i:Nat)(n:Nat):ByteArray:=(List.range n).foldl (fun s k=>if(vW pend k).1=i then(vW pend k).2 else s) (Ez sure i)
def Dk.now (d:Dk)(i:Nat):ByteArray:=tx d.sure d.pend i d.pend.length
def fJ (pend:List Wr)(i:Nat)(n:Nat):Option ByteArray:=(List.range n).foldl (fun s k=>if(vW pend k).1=i then some (vW pend k).2 else s) none
def jD:ByteArray:=⟨Array.replicate 256 0⟩
def Dk.new (n:Int):Dk:=⟨List.replicate (min (max n 0) 16384).toNat jD,[],none,false,0,0⟩
def Dk.has (d:Dk)(i:Int):Bool:=decide (0<=i∧i<d.sure.length)
def Dk.get (d:Dk)(i:Int):(ByteArray×Int)×Dk:=
 if d.down then((ByteArray.empty,4),d)else if d.has i then((d.now i.toNat,0),{d with reads:=wrap64 (d.reads+1)})else((ByteArray.empty,40),d)
structure Dk.Ok (d:Dk):Prop where
 len:d.sure.length<=16384
 sz:∀s∈d.sure,s.size=256
 pd:∀p∈d.pend,p.1<d.sure.length∧p.2.size=256
 brk:∀k,d.brk=some k->k<=9223372036854775807
theorem Fh {l:List ByteArray}(h:∀s∈l,s.size=256){i:Nat}(hi:i<l.length):(Ez l i).size=256:=by
 unfold Ez;rw[List.getD_eq_getElem?_getD,List.getElem?_eq_getElem hi];exact h _ (List.getElem_mem hi)
theorem O0 {d:Dk}(h:d.Ok){k:Nat}(hk:k<d.pend.length):(vW d.pend k).1<d.sure.length∧(vW d.pend k).2.size=256:=by
 unfold vW;rw[List.getD_eq_getElem?_getD,List.getElem?_eq_getElem hk];exact h.pd _ (List.getElem_mem hk)
theorem qi (s:List ByteArray)(p:List Wr)(i n:Nat):tx s p i (n+1)=if(vW p n).1=i then(vW p n).2 else tx s p i n:=by simp[tx,List.range_succ]
theorem gX (p:List Wr)(i n:Nat):fJ p i (n+1)=if(vW p n).1=i then some (vW p n).2 else fJ p i n:=by simp[fJ,List.range_succ]
theorem qj (s:List ByteArray)(p:List Wr)(i:Nat):∀n,tx s p i n=(fJ p i n).getD (Ez s i)
 |0=>rfl
 |n+1=>by rw[qi,gX,qj s p i n];split<;>rfl
theorem yV:jD.size=256:=by decide+kernel
theorem Dk.uz (n:Int):(Dk.new n).Ok:=by
 refine⟨?_,fun s hs=>?_,fun p hp=>?_,fun k hk=>?_⟩
 ·simp[Dk.new];omega
 ·simp only[Dk.new,List.mem_replicate]at hs;rw[hs.2];exact yV
 ·simp[Dk.new]at hp
 ·simp[Dk.new]at hk
end
section
open Go.RowKit
open Go.ChangeMaps (setBlock)
def isKey (k:Int)(e:MapEntry):Bool:=match e.key with| .int .i64 j=>k==j|_=>false
def gY (w:World)(m:Nat)(g:Int->Option Value):Prop:=
 ∃es clock,w.heap[m]? =some (.map es clock)∧(∀e∈es.toList,∃k,e.key=.int .i64 k)∧∀k,(es.toList.find? (isKey k)).map (·.val)=g k
theorem jE (k:Int):∀(es:List MapEntry) (i:Nat),(∀e∈es,∃k,e.key=.int .i64 k)->
  (es.find? (isKey k)=none∧Instr.findNow (.int .i64) (.int .i64 k) es i=some none)∨
  ∃j e,es[j]? =some e∧es.find? (isKey k)=some e∧(∀n,n<j->∀x,es[n]? =some x->isKey k x=false)∧Instr.findNow (.int .i64) (.int .i64 k) es i=some (some (i+j,e.val))
 |[],_,_=>.inl ⟨rfl,rfl⟩
 |e::es,i,h=>by
  obtain⟨q,hq⟩:=h e (by simp);by_cases hk:k=q
  ·refine .inr ⟨0,e,rfl,?_,(fun n hn=>by omega),?_⟩
   ·simp[List.find?,isKey,hq,hk]
   ·simp[Instr.findNow,Instr.sameNow,hq,hk]
  ·have hkq:(k==q)=false:=beq_eq_false_iff_ne.2 hk;have hik:isKey k e=false:=by simp[isKey,hq,hkq]
   rcases jE k es (i+1) (fun x hx=>h x (by simp[hx]))with⟨h1,h2⟩| ⟨j,x,h1,h2,h3,h4⟩
   ·refine .inl ⟨?_,?_⟩
    ·rw[List.find?_cons,hik];exact h1
    ·simpa[Instr.findNow,Instr.sameNow,hq,hkq]using h2
   ·refine .inr ⟨j+1,x,by simpa using h1,?_,?_,?_⟩
    ·rw[List.find?_cons,hik];exact h2
    ·intro n hn y hy;cases n with
     |zero=>simp at hy;subst hy;exact hik
     |succ n=>exact h3 n (by omega) y (by simpa using hy)
    ·have e1:i+(j+1)=i+1+j:=by omega
     rw[e1];simpa[Instr.findNow,Instr.sameNow,hq,hkq]using h4
theorem gZ (k:Int)(es:List MapEntry)(w:World)(r:Option (Nat×Value))(h:Instr.findNow (.int .i64) (.int .i64 k) es 0=some r):(Instr.findKey 3 (.int .i64 k) es).run Tryz.prog w=.ok r w:=by
 simp[Instr.findKey,run_underlying Tryz.underlying3,h,Result.andThen]
theorem gp (k:Int)(b:Bool)(w:World):(Instr.checkKey b 10000 3 (.int .i64 k)).run Tryz.prog w=.ok () w:=by
 exact MapKept.run_checkKey (n:=9999) Tryz.underlying3 (by simp[MapKept.IsKey]) b
def SH:Value:=.agg #[.int .i64 0,.string ByteArray.empty]
theorem gY.look {w:World}{m:Nat}{g:Int->Option Value}(h:gY w m g)(k:Int):
  (Instr.lookup 102 (.map (some m)) (.int .i64 k) true).run Tryz.prog w=.ok (.tuple #[(g k).getD SH,.bool (g k).isSome]) w:=by
 obtain⟨es,clock,hb,hk,hg⟩:=h;rcases jE k es.toList 0 hk with⟨h1,h2⟩| ⟨j,e,h1,h2,h3,h4⟩
 ·have e:=hg k;rw[h1]at e;rw[<-e];simp[Instr.lookup,run_underlying Tryz.underlying102,MapKept.run_getObj_map hb,gp,gZ k _ w _ h2,Result.andThen];rfl
 ·have e1:=hg k;rw[h2]at e1;rw[<-e1];simp[Instr.lookup,run_underlying Tryz.underlying102,MapKept.run_getObj_map hb,gp,gZ k _ w _ h4,Result.andThen]
theorem gY.kept {w w':World}{m:Nat}{g:Int->Option Value}(h:gY w m g)(e:w'.heap[m]? =w.heap[m]?):gY w' m g:=by
 obtain⟨es,clock,hb,r⟩:=h;exact⟨es,clock,e.trans hb,r⟩
theorem gY.lt {w:World}{m:Nat}{g:Int->Option Value}(h:gY w m g):m<w.heap.size:=by
 obtain⟨es,clock,hb,_⟩:=h;exact(Array.getElem?_eq_some_iff.1 hb).1
theorem gY.empty {w:World}{m clock:Nat}(h:w.heap[m]? =some (.map #[] clock)):gY w m (fun _=>none):=⟨_,_,h,(fun e he=>by simp at he),fun k=>by simp⟩
theorem eo (w:World){m k:Nat}(h:k≠m)(o:Obj):(setBlock w m o).heap[k]? =w.heap[k]? :=by simp[setBlock,Ne.symm h]
def kF (l:List Wr):List Value:=l.flatMap fun p=>[.int .i64 p.1,.string p.2]
def mapOf (pend:List Wr)(k:Int):Option Value:=if k<0 then none else(fJ pend k.toNat pend.length).map fun s=>.agg #[.int .i64 k,.string s]
theorem Di:mapOf []=fun _=>none:=by funext k;simp[mapOf,fJ]
structure Mem (w:World)(b m g:Nat)(pv:Value)(br:Bool)(lf:Int)(d:Dk):Prop where
 blk:w.heap[b]? =some (.cells #[.slice (some ⟨g,0,none⟩) d.sure.length d.sure.length,pv,.map (some m),.bool br,.int .i64 lf,.bool d.down,.int .i64 d.reads,.int .i64 d.writes] 110 (0,0))
 row:w.heap[g]? =some (.cells (d.sure.map Value.string).toArray 9 (0,0))
 UX:w.ownsRow 0 127 2 pv d.pend.length (kF d.pend)
 map:gY w m (mapOf d.pend)
 enc:d.down=false->(d.brk=none∧br=false)∨∃k:Nat,d.brk=some k∧br=true∧lf=k
 ok:d.Ok
 bg:b≠g
 bm:b≠m
 gm:g≠m
 pb:pv.ownBlock≠some b
 pg:pv.ownBlock≠some g
 pm:pv.ownBlock≠some m
structure cB (X:Nat->Prop)(w w':World):Prop where
 os:w'.os=w.os
 tape:w'.tape=w.tape
 output:w'.output=w.output
 size:w.heap.size<=w'.heap.size
 block:∀k,k<w.heap.size->¬X k->w'.heap[k]? =w.heap[k]?
def Mine (X:Nat->Prop)(w:World)(b:Nat)(d:Dk):Prop:=
 (∃m g pv br lf,Mem w b m g pv br lf d∧X b∧X m∧X g∧∀k,pv.ownBlock=some k->X k)∧∀k,X k->k<w.heap.size
theorem cB.refl (X:Nat->Prop)(w:World):cB X w w:=⟨rfl,rfl,rfl,Nat.le_refl _,fun _ _ _=>rfl⟩
theorem cB.trans {X Y:Nat->Prop}{u v w:World}(h:cB X u v)(k:cB Y v w)(hY:∀k,Y k->X k∨u.heap.size<=k):cB X u w:=
 ⟨k.os.trans h.os,k.tape.trans h.tape,k.output.trans h.output,Nat.le_trans h.size k.size,fun i hi hx=>(k.block i (Nat.lt_of_lt_of_le hi h.size) (fun hy=>(hY i hy).elim hx (fun h1=>by omega))).trans (h.block i hi hx)⟩
theorem cB.alloc (X:Nat->Prop)(w:World)(o:Obj):cB X w (w.alloc o):=⟨rfl,rfl,rfl,by simp,fun k hk _=>Below.heap_alloc _ _ _ hk⟩
theorem cB.setCell {X:Nat->Prop}(w:World){b o:Nat}(hb:X b)(v:Value):cB X w (w.setCell ⟨b,o,none⟩ v):=
 ⟨rfl,rfl,rfl,by simp[World.setCell],fun k _ hx=>Below.heap_setCell _ _ _ _ (fun e=>hx (by rw[e];exact hb))⟩
theorem cB.setBlock {X:Nat->Prop}(w:World){b:Nat}(hb:X b)(o:Obj):cB X w (setBlock w b o):=
 ⟨rfl,rfl,rfl,by simp[Go.ChangeMaps.setBlock],fun k _ hx=>eo w (fun e=>hx (by rw[e];exact hb)) o⟩
theorem cB.grown {X:Nat->Prop}{w w':World}{row:Option Nat}(h:w.grownBy w' row)(hX:∀k,row=some k->X k):cB X w w':=
 ⟨h.os,h.tape,h.output,h.size,fun k hk hx=>h.block k hk (fun e=>hx (hX k e.symm))⟩
theorem cB.below {X:Nat->Prop}{B:Nat}{a w w':World}(hb:Below B a w)(h:cB X w w')(hB:B<=w.heap.size)(hX:∀k,X k->B<=k):Below B a w':=
 hb.trans ⟨h.os,h.tape,h.output,h.size,fun k hk=>h.block k (by omega) (fun hx=>by have:=hX k hx;omega)⟩
theorem dW {w w':World}{base:Nat}{e:TypeId}{size:Nat}{v:Value}{n:Nat}{xs:List Value}(h:w.ownsRow base e size v n xs)(hk:∀k,v.ownBlock=some k->w'.heap[k]? =w.heap[k]?):w'.ownsRow base e size v n xs:=by
 refine⟨h.1,?_⟩;rcases h.2 with hn| ⟨g,cap,cur,rfl,hb,hg,rest⟩
 ·exact .inl hn
 ·exact .inr ⟨g,cap,cur,rfl,hb,(hk g rfl).trans hg,rest⟩
theorem Mem.kept {w w':World}{b m g:Nat}{pv:Value}{br:Bool}{lf:Int}{d:Dk}(h:Mem w b m g pv br lf d)(hb:w'.heap[b]? =w.heap[b]?)(hm:w'.heap[m]? =w.heap[m]?)(hg:w'.heap[g]? =w.heap[g]?)(hp:∀k,pv.ownBlock=some k->w'.heap[k]? =w.heap[k]?):Mem w' b m g pv br lf d:=
 ⟨hb.trans h.blk,hg.trans h.row,dW h.UX hp,h.map.kept hm,h.enc,h.ok,h.bg,h.bm,h.gm,h.pb,h.pg,h.pm⟩
theorem Mem.pk {w:World}{b m g:Nat}{pv:Value}{br:Bool}{lf:Int}{d:Dk}(h:Mem w b m g pv br lf d){k:Nat}(hk:pv.ownBlock=some k):k<w.heap.size∧k≠b∧k≠g∧k≠m:=
 ⟨(h.UX.lt k hk).2,fun e=>h.pb (by rw[hk,e]),fun e=>h.pg (by rw[hk,e]),fun e=>h.pm (by rw[hk,e])⟩
theorem Mem.bl {w:World}{b m g:Nat}{pv:Value}{br:Bool}{lf:Int}{d:Dk}(h:Mem w b m g pv br lf d):b<w.heap.size:=(Array.getElem?_eq_some_iff.1 h.blk).1
theorem Mem.gl {w:World}{b m g:Nat}{pv:Value}{br:Bool}{lf:Int}{d:Dk}(h:Mem w b m g pv br lf d):g<w.heap.size:=(Array.getElem?_eq_some_iff.1 h.row).1
end
section
open Go.RowKit
open Go.ChangeMaps (setBlock)
abbrev ptr (b:Nat):Value:=.pointer (some ⟨b,0,none⟩)
theorem tA {a b:Bool}(h:a=b):Ending.returned (.bool a)=.returned (.bool b):=by rw[h]
section
variable {w:World}{b m g:Nat}{pv:Value}{br:Bool}{lf:Int}{d:Dk}
theorem Mem.c0 (h:Mem w b m g pv br lf d):w.cell? ⟨b,0,none⟩=some (.slice (some ⟨g,0,none⟩) d.sure.length d.sure.length):=by simp[World.cell?,h.blk]
theorem Mem.c2 (h:Mem w b m g pv br lf d):w.cell? ⟨b,2,none⟩=some (.map (some m)):=by simp[World.cell?,h.blk]
theorem Mem.c5 (h:Mem w b m g pv br lf d):w.cell? ⟨b,5,none⟩=some (.bool d.down):=by simp[World.cell?,h.blk]
theorem Mem.c6 (h:Mem w b m g pv br lf d):w.cell? ⟨b,6,none⟩=some (.int .i64 d.reads):=by simp[World.cell?,h.blk]
theorem Mem.fz (h:Mem w b m g pv br lf d)(o:Nat):w.frozen? ⟨b,o,none⟩=false:=by simp[World.frozen?,h.blk]
theorem yX (h:Mem w b m g pv br lf d):Calls Tryz.prog 64 #[ptr b] w fun e w'=>e=.returned (.bool d.down)∧w=w':=by
 have c5:=h.c5;have lt:=h.bl;clear h;go_enter Tryz.func64,Tryz.ntmps64;go_wp2;go_ret;exact⟨rfl,rfl⟩
theorem tB (h:Mem w b m g pv br lf d):Calls Tryz.prog 96 #[ptr b] w fun e w'=>e=.returned (.int .i64 d.sure.length)∧w=w':=by
 have c0:=h.c0;have lt:=h.bl;clear h;go_enter Tryz.func96,Tryz.ntmps96;go_wp2;go_ret;exact⟨rfl,rfl⟩
theorem Fi (h:Mem w b m g pv br lf d)(i:Int):Calls Tryz.prog 65 #[ptr b,.int .i64 i] w fun e w'=>e=.returned (.bool (d.has i))∧w=w':=by
 have C:Hid (Calls Tryz.prog 96 #[ptr b] w fun e w'=>e=.returned (.int .i64 d.sure.length)∧w=w'):=tB h;have lt:=h.bl;clear h;by_cases h0:0<=i
 ·go_enter Tryz.func65,Tryz.ntmps65
  go_wp2_with fail
  refine Calls.mono C.out ?_;rintro e w1 ⟨rfl,rfl⟩;go_wp2;go_ret;exact⟨tA (by unfold Dk.has;simp[h0]),rfl⟩
 ·have h1:i<0:=by omega
  go_enter Tryz.func65,Tryz.ntmps65;go_wp2;go_ret;exact⟨tA (by unfold Dk.has;simp;omega),rfl⟩
theorem Mem.SI (h:Mem w b m g pv br lf d){i:Nat}(hi:i<d.sure.length):w.cell? ⟨g,i,none⟩=some (.string (Ez d.sure i)):=by
 simp[World.cell?,h.row,hi,Ez]
theorem ND (o:Nat)(x y:Int)(c:w.cell? ⟨b,o,none⟩=some (.int .i64 x))(f:w.frozen? ⟨b,o,none⟩=false):Calls Tryz.prog 66 #[.pointer (some ⟨b,o,none⟩),.int .i64 y] w fun e w'=>e=.returned (.int .i64 (wrap64 (x+y)))∧w'=w.setCell ⟨b,o,none⟩ (.int .i64 (wrap64 (x+y))):=by
 have hl:=run_call_add (P:=Tryz.prog) Tryz.func101 (by kernel_rfl) (by kernel_rfl) (by kernel_rfl) .i64 (by kernel_rfl) (y:=y) (s:=wrap64 (x+y)) c f (by simp[go_sem,wrap64,IntKind.wrap_i64]);go_enter Tryz.func66,Tryz.ntmps66;go_wp2;go_ret;exact⟨rfl,rfl⟩
end
end
section
open Go.RowKit
open Go.ChangeMaps (setBlock)
structure dz (b:Nat)(w w':World):Prop where
 os:w'.os=w.os
 tape:w'.tape=w.tape
 output:w'.output=w.output
 size:w'.heap.size=w.heap.size
 block:∀k,k≠b->w'.heap[k]? =w.heap[k]?
theorem dz.refl (b:Nat)(w:World):dz b w w:=⟨rfl,rfl,rfl,rfl,fun _ _=>rfl⟩
theorem dz.trans {b:Nat}{u v w:World}(h:dz b u v)(k:dz b v w):dz b u w:=
 ⟨k.os.trans h.os,k.tape.trans h.tape,k.output.trans h.output,k.size.trans h.size,fun i hi=>(k.block i hi).trans (h.block i hi)⟩
theorem dz.setCell (b o:Nat)(w:World)(v:Value):dz b w (w.setCell ⟨b,o,none⟩ v):=
 ⟨rfl,rfl,rfl,by simp[World.setCell],fun k hk=>Below.heap_setCell _ _ _ _ hk⟩
section
variable {w w':World}{b m g:Nat}{pv:Value}{br:Bool}{lf:Int}{d:Dk}
theorem Mem.upd (h:Mem w b m g pv br lf d)(o:dz b w w'){UY:Bool}{VQ:Int}{d':Dk}(hs:d'.sure=d.sure)(hp:d'.pend=d.pend)
  (hb:w'.heap[b]? =some (.cells #[.slice (some ⟨g,0,none⟩) d.sure.length d.sure.length,pv,.map (some m),.bool UY,.int .i64 VQ,.bool d'.down,.int .i64 d'.reads,.int .i64 d'.writes] 110 (0,0)))
  (enc:d'.down=false->(d'.brk=none∧UY=false)∨∃k:Nat,d'.brk=some k∧UY=true∧VQ=k)(ok:d'.Ok):Mem w' b m g pv UY VQ d':=
 ⟨by rw[hs];exact hb,by rw[hs];exact(o.block g h.bg.symm).trans h.row,by rw[hp];exact dW h.UX (fun k hk=>o.block k (h.pk hk).2.1),by rw[hp];exact h.map.kept (o.block m h.bm.symm),enc,ok,h.bg,h.bm,h.gm,h.pb,h.pg,h.pm⟩
def Fj (w:World)(b m g:Nat)(pv:Value)(d:Dk):Prop:=∃br lf,Mem w b m g pv br lf d
theorem Mem.VR (h:Mem w b m g pv br lf d)(x:Int):Mem (w.setCell ⟨b,6,none⟩ (.int .i64 x)) b m g pv br lf {d with reads:=x}:=
 h.upd (dz.setCell b 6 w _) rfl rfl (by simp[World.setCell,Array.getElem?_modify,h.blk]) h.enc ⟨h.ok.len,h.ok.sz,h.ok.pd,h.ok.brk⟩
theorem Mem.alloc (h:Mem w b m g pv br lf d)(o:Obj):Mem (w.alloc o) b m g pv br lf d:=
 h.kept (Below.heap_alloc _ _ _ h.bl) (Below.heap_alloc _ _ _ h.map.lt) (Below.heap_alloc _ _ _ h.gl) (fun k hk=>Below.heap_alloc _ _ _ (h.pk hk).1)
end
end
section
open Go.RowKit
open Go.ChangeMaps (setBlock)
section
variable {w w':World}{b m g:Nat}{pv:Value}{br:Bool}{lf:Int}{d:Dk}
theorem O8 (h:Mem w b m g pv br lf d)(i:Int):Calls Tryz.prog 62 #[ptr b,.int .i64 i] w fun e w'=>e=.returned (.tuple #[.string (d.get i).1.1,.int .i64 (d.get i).1.2])∧cB (fun k=>k=b) w w'∧Fj w' b m g pv (d.get i).2:=by
 have H:Hid (Mem w b m g pv br lf d):=h;have C1:Hid (Calls Tryz.prog 64 #[ptr b] w fun e w'=>e=.returned (.bool d.down)∧w=w'):=yX h;have C2:Hid (Calls Tryz.prog 65 #[ptr b,.int .i64 i] w fun e w'=>e=.returned (.bool (d.has i))∧w=w'):=Fi h i;have lt:=h.bl;have hl:=h.ok.len;by_cases hd:d.down=true
 ·have HG:Hid (d.get i=((ByteArray.empty,4),d)):=by show d.get i=_;unfold Dk.get;rw[if_pos hd]
  clear h;go_enter Tryz.func62,Tryz.ntmps62
  go_wp2_with fail
  refine Calls.mono C1.out ?_;rintro e w1 ⟨rfl,rfl⟩;go_wp2;go_ret2;rw[HG.out];exact⟨rfl,cB.refl _ _,br,lf,H.out⟩
 ·have hf:d.down=false:=by simpa using hd
  by_cases hi:d.has i=true
  ·have HG:Hid (d.get i=((d.now i.toNat,0),{d with reads:=wrap64 (d.reads+1)})):=by show d.get i=_;unfold Dk.get;rw[if_neg hd,if_pos hi]
   obtain⟨h0,h1⟩:=of_decide_eq_true hi;obtain⟨n,rfl⟩:∃n:Nat,i=n:=⟨i.toNat,by omega⟩;have hn:n<d.sure.length:=by omega
   have C3:Hid (Calls Tryz.prog 66 #[.pointer (some ⟨b,6,none⟩),.int .i64 1] w fun e w'=>e=.returned (.int .i64 (wrap64 (d.reads+1)))∧w'=w.setCell ⟨b,6,none⟩ (.int .i64 (wrap64 (d.reads+1)))):=ND 6 _ _ h.c6 (h.fz 6);obtain⟨w2,e2⟩:∃w2,w2=w.setCell ⟨b,6,none⟩ (.int .i64 (wrap64 (d.reads+1))):=⟨_,rfl⟩;have h2:Mem w2 b m g pv br lf {d with reads:=wrap64 (d.reads+1)}:=by rw[e2];exact h.VR _
   have H2:Hid (Mem w2 b m g pv br lf {d with reads:=wrap64 (d.reads+1)}):=h2;have T2:Hid (cB (fun k=>k=b) w w2):=by show cB _ _ _;rw[e2];exact cB.setCell (X:=fun k=>k=b) w rfl _
   rw[<-e2]at C3;have c0:=h2.c0;have c2:=h2.c2;have lt2:=h2.bl;have gl2:=h2.gl;have cg:=h2.SI (i:=n) hn;have hlk:=h2.map.look n;have HN:Hid (d.now (n:Int).toNat=(fJ d.pend n d.pend.length).getD (Ez d.sure n)):=qj _ _ _ _;have em:mapOf d.pend n=(fJ d.pend n d.pend.length).map fun s=>.agg #[.int .i64 n,.string s]:=by unfold mapOf;rw[if_neg (by omega)];rfl
   clear h h2 e2;cases hlast:fJ d.pend n d.pend.length with
   |none=>
    rw[hlast]at em HN;rw[em]at hlk;have X7:(Instr.lookup 102 (.map (some m)) (.int .i64 n) true).run Tryz.prog w2=.ok (.tuple #[.agg #[.int .i64 0,.string ByteArray.empty],.bool false]) w2:=hlk;clear hlast em hlk;go_enter Tryz.func62,Tryz.ntmps62
    go_wp2_with fail
    refine Calls.mono C1.out ?_;rintro e w1 ⟨rfl,rfl⟩
    go_wp2_with fail
    refine Calls.mono C2.out ?_;rintro e w1 ⟨rfl,rfl⟩
    go_wp2_with fail
    refine Calls.mono C3.out ?_;rintro e w1 ⟨rfl,rfl⟩;go_wp2;go_ret2;rw[HG.out];refine⟨?_,T2.out.trans (cB.alloc (fun k=>k=b) _ _) (fun _ hk=>.inl hk),br,lf,H2.out.alloc _⟩;rw[HN.out];rfl
   |some s=>
    rw[hlast]at em HN;rw[em]at hlk;have X7:(Instr.lookup 102 (.map (some m)) (.int .i64 n) true).run Tryz.prog w2=.ok (.tuple #[.agg #[.int .i64 n,.string s],.bool true]) w2:=hlk;clear hlast em hlk;go_enter Tryz.func62,Tryz.ntmps62
    go_wp2_with fail
    refine Calls.mono C1.out ?_;rintro e w1 ⟨rfl,rfl⟩
    go_wp2_with fail
    refine Calls.mono C2.out ?_;rintro e w1 ⟨rfl,rfl⟩
    go_wp2_with fail
    refine Calls.mono C3.out ?_;rintro e w1 ⟨rfl,rfl⟩;go_wp2;go_ret2;rw[HG.out];refine⟨?_,T2.out.trans (cB.alloc (fun k=>k=b) _ _) (fun _ hk=>.inl hk),br,lf,H2.out.alloc _⟩;rw[HN.out];rfl
  ·have hif:d.has i=false:=by simpa using hi
   have HG:Hid (d.get i=((ByteArray.empty,40),d)):=by show d.get i=_;unfold Dk.get;rw[if_neg hd,if_neg hi]
   clear h;go_enter Tryz.func62,Tryz.ntmps62
   go_wp2_with fail
   refine Calls.mono C1.out ?_;rintro e w1 ⟨rfl,rfl⟩
   go_wp2_with fail
   refine Calls.mono C2.out ?_;rintro e w1 ⟨rfl,rfl⟩;go_wp2;go_ret2;rw[HG.out];exact⟨rfl,cB.refl _ _,br,lf,H.out⟩
end
end
section
open Go.RowKit
open Go.ChangeMaps (setBlock)
section
variable {w w':World}{b m g:Nat}{pv:Value}{br:Bool}{lf:Int}{d:Dk}
abbrev bx (n:Nat)(s:ByteArray):Obj:=.cells #[.int .i64 n,.string s] 127
end
end
section
open Go.RowKit
open Go.ChangeMaps (setBlock)
section
variable {w w':World}{b m g:Nat}{pv:Value}{br:Bool}{lf:Int}{d:Dk}
end
end
section
open Go.RowKit
open Go.ChangeMaps (setBlock)
def mR (w:World)(v:Value)(l:List Int):Prop:=
 ∃ao cap,v=.slice ao l.length cap∧(l≠[]->∃r o,ao=some ⟨r,o,none⟩∧r<w.heap.size∧∀j,j<l.length->w.cell? ⟨r,o+j,none⟩=some (.int .i64 (l.getD j 0)))
theorem tC {keep:List Int}{t:Nat}(ht:t<keep.length):keep.take (t+1)=keep.take t++[keep.getD t 0]:=by
 rw[List.take_add_one,List.getElem?_eq_getElem ht,List.getD_eq_getElem?_getD,List.getElem?_eq_getElem ht];rfl
section
variable {w w':World}{b m g:Nat}{pv:Value}{br:Bool}{lf:Int}{d:Dk}
end
end
section
open Go.RowKit
end
section
open Go.RowKit
open Go.ChangeMaps (setBlock)
theorem yY:(Tryz.prog.info? 9).map (fun i=>(i.zero,i.size,i.bytes))=some (some (.string ByteArray.empty),1,16):=by kernel_rfl
def dP (N t:Nat):List ByteArray:=List.replicate t jD++List.replicate (N-t) ByteArray.empty
theorem sK {N t:Nat}(h:t<=N):(dP N t).length=N:=by simp[dP];omega
theorem yZ {N t:Nat}(h:t<N):dP N (t+1)=(dP N t).set t jD:=by
 unfold dP;rw[List.set_append_right _ _ (by simp),show N-t=(N- (t+1))+1 by omega,List.replicate_succ' (n:=t),List.replicate_succ (n:=N- (t+1))];simp
theorem za (N:Nat):dP N N=List.replicate N jD:=by simp[dP]
theorem Dj (w:World)(N:Nat)(hN:N<1000000):(Instr.makeSlice 66 (.int .i64 N) (.int .i64 N)).run Tryz.prog w=.ok (.slice (some ⟨w.heap.size,0,none⟩) N N) (w.alloc (.cells ((dP N 0).map Value.string).toArray 9)):=by
 obtain⟨i0,hi,hz0,hz1,hz2⟩:=info_parts yY;have h:=run_make (P:=Tryz.prog) w 66 9 i0 _ Tryz.underlying66 hi hz0 .i64 .i64 N N (by omega) (Int.le_refl _) (by rw[hz2];omega) (by omega);rw[h];have e:madeCells (Value.string ByteArray.empty).cells ((N:Int).toNat*i0.size)=((dP N 0).map Value.string).toArray:=by
  rw[hz1,Int.toNat_natCast,Nat.mul_one];apply Array.toList_inj.1;rw[show(Value.string ByteArray.empty).cells=#[Value.string ByteArray.empty]from rfl,toList_madeCells_one];simp[dP]
 rw[e];simp
theorem uA:(⟨(Lib.repeatL [0] 256).toArray⟩:ByteArray)=jD:=by decide+kernel
theorem SJ (n:Int)(w:World):Calls Tryz.prog 25 #[.int .i64 n] w fun e w'=>∃b,e=.returned (ptr b)∧Below w.heap.size w w'∧Mine (fun k=>w.heap.size<=k∧k<w'.heap.size) w' b (Dk.new n):=by
 obtain⟨N,hN⟩:∃N:Nat,N=(min (max n 0) 16384).toNat:=⟨_,rfl⟩;have hNl:N<=16384:=by omega
 have HD:Hid (Dk.new n=⟨List.replicate N jD,[],none,false,0,0⟩):=by show Dk.new n=_;unfold Dk.new;rw[hN]
 have ZJ:Hid ((Dk.new n).Ok):=Dk.uz n;have hmk:=Dj w N (by omega);have hmm:=@run_makeMap Tryz.prog;obtain⟨w1,e1⟩:∃w1,w1=w.alloc (.cells ((dP N 0).map Value.string).toArray 9):=⟨_,rfl⟩;rw[<-e1]at hmk;have Q1:Hid (w1.heap[w.heap.size]? =some (.cells ((dP N 0).map Value.string).toArray 9 (0,0))):=by show _=_;rw[e1];exact heap_alloc_new w _
 have B1:Hid (Below w.heap.size w w1):=by show Below _ _ _;rw[e1];exact(Below.refl _ _).alloc (Nat.le_refl _) _
 have S1:w1.heap.size=w.heap.size+1:=by rw[e1];simp
 clear e1;have hmx:min (max n 0) 16384=(N:Int):=by omega
 clear hN;go_enter Tryz.func25,Tryz.ntmps25
 go_wp2_with fail
 obtain⟨w3,e3⟩:∃w3,w3=(w1.alloc (.map #[] 0)).alloc (.cells #[.slice (some ⟨w.heap.size,0,none⟩) N N,.slice none 0 0,.map (some (w.heap.size+1)),.bool false,.int .i64 0,.bool false,.int .i64 0,.int .i64 0] 110):=⟨_,rfl⟩;rw[<-e3];have hA:(w1.alloc (.map #[] 0)).heap.size=w.heap.size+1+1:=by simp[S1]
 have P3:Hid (w3.heap[w.heap.size+1+1]? =some (.cells #[.slice (some ⟨w.heap.size,0,none⟩) N N,.slice none 0 0,.map (some (w.heap.size+1)),.bool false,.int .i64 0,.bool false,.int .i64 0,.int .i64 0] 110 (0,0))):=by
  show _=_;rw[e3,<-hA];exact heap_alloc_new _ _
 have K3:Hid (∀k,k<w1.heap.size->w3.heap[k]? =w1.heap[k]?):=fun k hk=>by
  rw[e3];exact(Below.heap_alloc _ _ k (by rw[hA];omega)).trans (Below.heap_alloc _ _ k hk)
 have N3:Hid (w3.heap[w.heap.size+1]? =some (.map #[] 0)):=by
  show _=_;rw[e3,Below.heap_alloc _ _ _ (by rw[hA];omega),<-S1];exact heap_alloc_new _ _
 have S3:w3.heap.size=w.heap.size+3:=by rw[e3];simp[S1]
 have B3:Hid (Below w.heap.size w w3):=by show Below _ _ _;rw[e3];exact(B1.out.alloc (by omega) _).alloc (by rw[hA];omega) _
 clear e3 hA;have RC:Hid (Calls Tryz.prog 55 #[.string ⟨#[0]⟩,.int .i64 (256:Nat)] w3 fun e w'=>e=.returned (.string ⟨(Lib.repeatL [0] 256).toArray⟩)∧Below w3.heap.size w3 w'):=Tryz.strings_Repeat ⟨#[0]⟩ 256 w3 (by omega) (by show 1*256<=_;omega);refine Calls.mono RC.out ?_;rintro e w4 ⟨rfl,b4⟩;rw[uA];have B4:Hid (Below w3.heap.size w3 w4):=b4;have s4:w.heap.size+3<=w4.heap.size:=by rw[<-S3];exact b4.size
 have P4:Hid (w4.heap[w.heap.size+1+1]? =some (.cells #[.slice (some ⟨w.heap.size,0,none⟩) N N,.slice none 0 0,.map (some (w.heap.size+1)),.bool false,.int .i64 0,.bool false,.int .i64 0,.int .i64 0] 110 (0,0))):=(b4.block _ (by omega)).trans P3.out;have N4:Hid (w4.heap[w.heap.size+1]? =some (.map #[] 0)):=(b4.block _ (by omega)).trans N3.out;have Q4:Hid (w4.heap[w.heap.size]? =some (.cells ((dP N 0).map Value.string).toArray 9 (0,0))):=(b4.block _ (by omega)).trans ((K3.out _ (by omega)).trans Q1.out);have c0:w4.cell? ⟨w.heap.size+1+1,0,none⟩=some (.slice (some ⟨w.heap.size,0,none⟩) N N):=by simp[World.cell?,P4.out]
 have X8:w.heap.size+1+1<w4.heap.size:=by omega
 clear b4 RC hmm hmk hmx;obtain⟨z,hz⟩:∃z,z=jD:=⟨_,rfl⟩;rw[<-hz];have HZ:Hid (z=jD):=hz;clear hz;go_wp2
 go_loopg [19] N (fun gk ZK wr=>∃t:Nat,ZK=.int .i64 t∧t<=N∧N-t<=gk∧Aside (wr.heap[w.heap.size]? =some (.cells ((dP N t).map Value.string).toArray 9 (0,0)))∧Hid (dz w.heap.size w4 wr))
 case atStart=>exact⟨0,rfl,Nat.zero_le _,Nat.le_refl _,Q4.out,dz.refl _ _⟩
 case round=>
  obtain⟨t,rfl,ht,hgt,HQ,HO⟩:=hrel;have cr:wr.cell? ⟨w.heap.size+1+1,0,none⟩=some (.slice (some ⟨w.heap.size,0,none⟩) N N):=(World.cell?_of_block (a:=⟨w.heap.size+1+1,0,none⟩) (HO.out.block _ (by show w.heap.size+1+1≠w.heap.size;omega))).trans c0;have ltr:w.heap.size+1+1<wr.heap.size:=by rw[HO.out.size];exact X8
  by_cases htl:t<N
  ·have htz:(t:Int)< (N:Int):=by omega
   have q0:wr.cell? ⟨w.heap.size,t,none⟩=some (.string (Ez (dP N t) t)):=by
    have hl:t< (dP N t).length:=by rw[sK ht];exact htl
    simp only[World.cell?,HQ.out];simp[Ez,hl]
   have qf:wr.frozen? ⟨w.heap.size,t,none⟩=false:=by simp[World.frozen?,HQ.out]
   have ZL:Hid (dP N (t+1)=(dP N t).set t jD):=yZ htl;generalize Ez (dP N t) t=old at*;go_wp2
   go_roundg (N- (t+1))
   case measure=>omega
   case rel=>
    refine⟨t+1,by go_num,by omega,Nat.le_refl _,?_,HO.out.trans (dz.setCell _ _ _ _)⟩;show _=_;rw[ZL.out,HZ.out];simp[World.setCell,Array.getElem?_modify,HQ.out]
  ·have htz:¬(t:Int)< (N:Int):=by omega
   obtain rfl:t=N:=by omega
   have fin:Below w.heap.size w wr∧Mine (fun k=>w.heap.size<=k∧k<wr.heap.size) wr (w.heap.size+1+1) (Dk.new n):=by
    refine⟨B3.out.trans ⟨HO.out.os.trans B4.out.os,HO.out.tape.trans B4.out.tape,HO.out.output.trans B4.out.output,by rw[HO.out.size];omega,fun k hk=>(HO.out.block k (by omega)).trans (B4.out.block k (by omega))⟩,⟨w.heap.size+1,w.heap.size,.slice none 0 0,false,0,?_,by omega,by omega,by omega,fun k hk=>by simp[Value.ownBlock]at hk⟩,fun k hk=>hk.2⟩;have OK:=ZJ.out;rw[HD.out]at OK⊢;refine⟨?_,?_,World.ownsRow_nil _ _ _ _,?_,fun _=>.inl ⟨rfl,rfl⟩,OK,by omega,by omega,by omega,by simp[Value.ownBlock],by simp[Value.ownBlock],by simp[Value.ownBlock]⟩
    ·rw[HO.out.block _ (by omega),P4.out];simp
    ·rw[HQ.out,za]
    ·rw[Di];exact gY.empty ((HO.out.block _ (by omega)).trans N4.out)
   have FIN:Hid (Below w.heap.size w wr∧Mine (fun k=>w.heap.size<=k∧k<wr.heap.size) wr (w.heap.size+1+1) (Dk.new n)):=fin;clear fin HQ HO;go_wp2;go_ret;exact⟨_,rfl,FIN.out⟩
end
section
open Go.RowKit
def Goes (X:Nat->Prop)(w w':World)(b:Nat)(d':Dk):Prop:=∃X',Mine X' w' b d'∧cB X w w'∧∀k,X' k->X k∨w.heap.size<=k
section
variable {X:Nat->Prop}{w w':World}{b m g:Nat}{pv pv':Value}{br:Bool}{lf:Int}{d d':Dk}
theorem AW (hl:∀k,X k->k<w.heap.size)(hM:Fj w' b m g pv' d')(xb:X b)(xm:X m)(xg:X g)(hp:∀k,pv'.ownBlock=some k->X k∨w.heap.size<=k)(ht:cB X w w'):Goes X w w' b d':=by
 obtain⟨br,lf,h⟩:=hM;refine⟨fun k=>X k∨(w.heap.size<=k∧k<w'.heap.size),⟨⟨m,g,pv',br,lf,h,.inl xb,.inl xm,.inl xg,fun k hk=>(hp k hk).elim .inl (fun h1=>.inr ⟨h1,(h.pk hk).1⟩)⟩,fun k hk=>?_⟩,ht,fun k hk=>hk.elim .inl (fun h=>.inr h.1)⟩;rcases hk with h1|h1
 ·exact Nat.lt_of_lt_of_le (hl k h1) ht.size
 ·exact h1.2
theorem cB.sub {Y:Nat->Prop}(t:cB Y w w')(h:∀k,Y k->X k):cB X w w':=⟨t.os,t.tape,t.output,t.size,fun k hk hx=>t.block k hk (fun hy=>hx (h k hy))⟩
theorem Dl (h:Mine X w b d):Calls Tryz.prog 96 #[ptr b] w fun e w'=>e=.returned (.int .i64 d.sure.length)∧w=w':=by
 obtain⟨⟨m,g,pv,br,lf,hM,_⟩,_⟩:=h;exact tB hM
theorem O9 (h:Mine X w b d)(i:Int):Calls Tryz.prog 62 #[ptr b,.int .i64 i] w fun e w'=>e=.returned (.tuple #[.string (d.get i).1.1,.int .i64 (d.get i).1.2])∧Goes X w w' b (d.get i).2:=by
 obtain⟨⟨m,g,pv,br,lf,hM,xb,xm,xg,xp⟩,hl⟩:=h;refine(O8 hM i).mono ?_;rintro e w' ⟨he,ht,hm⟩;exact⟨he,AW hl hm xb xm xg (fun k hk=>.inl (xp k hk)) (ht.sub (fun k hk=>by subst hk;exact xb))⟩
def One (B:Nat)(w0 w:World)(b:Nat)(d:Dk):Prop:=B<=w.heap.size∧Below B w0 w∧∃X,Mine X w b d∧∀k,X k->B<=k
end
end
section
open Go.RowKit
abbrev aO:=World->(Nat->Prop)->Prop
structure Good (r:aO):Prop where
 kept:∀w w' X,r w X->(∀k,X k->w'.heap[k]? =w.heap[k]?)->w.heap.size<=w'.heap.size->r w' X
 lt:∀w X,r w X->∀k,X k->k<w.heap.size
def Hp (w:World):List aO->(Nat->Prop)->Prop
 |[],Y=>∀k,¬Y k
 |r::l,Y=>Good r∧∃X Z,r w X∧Hp w l Z∧(∀k,X k->¬Z k)∧∀k,Y k↔X k∨Z k
def Sep (B:Nat)(w0 w:World)(l:List aO):Prop:=B<=w.heap.size∧Below B w0 w∧∃Y,Hp w l Y∧∀k,Y k->B<=k
theorem Hp.lt {w:World}:∀ {l:List aO} {Y:Nat->Prop},Hp w l Y->∀k,Y k->k<w.heap.size
 |[],_,h,k,hk=>absurd hk (h k)
 |r::l,_,⟨g,X,Z,hr,hl,_,hy⟩,k,hk=>by
  rcases(hy k).1 hk with h|h
  ·exact g.lt w X hr k h
  ·exact hl.lt k h
theorem Hp.kept {w w':World}(hs:w.heap.size<=w'.heap.size):∀ {l:List aO} {Y:Nat->Prop},Hp w l Y->(∀k,Y k->w'.heap[k]? =w.heap[k]?)->Hp w' l Y
 |[],_,h,_=>h
 |r::l,_,⟨g,X,Z,hr,hl,hd,hy⟩,hk=>⟨g,X,Z,g.kept w w' X hr (fun k h=>hk k ((hy k).2 (.inl h))) hs,hl.kept hs (fun k h=>hk k ((hy k).2 (.inr h))),hd,hy⟩
theorem Hp.swap {w:World}{a b:aO}{l:List aO}{Y:Nat->Prop}(h:Hp w (a::b::l) Y):Hp w (b::a::l) Y:=by
 obtain⟨ga,X,Z,ha,⟨gb,X2,Z2,hb,hl,hd2,hy2⟩,hd,hy⟩:=h;refine⟨gb,X2,fun k=>X k∨Z2 k,hb,⟨ga,X,Z2,ha,hl,fun k hk h2=>hd k hk ((hy2 k).2 (.inr h2)),fun k=>Iff.rfl⟩,fun k hk h2=>?_,fun k=>?_⟩
 ·rcases h2 with h2|h2
  ·exact hd k h2 ((hy2 k).2 (.inl hk))
  ·exact hd2 k hk h2
 ·rw[hy k,hy2 k];constructor
  ·rintro(h|h|h)
   ·exact .inr (.inl h)
   ·exact .inl h
   ·exact .inr (.inr h)
  ·rintro(h|h|h)
   ·exact .inr (.inl h)
   ·exact .inl h
   ·exact .inr (.inr h)
theorem Hp.under {w:World}{a:aO}{l l':List aO}{Y:Nat->Prop}(h:Hp w (a::l) Y)(f:∀Z,Hp w l Z->Hp w l' Z):Hp w (a::l') Y:=by
 obtain⟨ga,X,Z,ha,hl,hd,hy⟩:=h;exact⟨ga,X,Z,ha,f Z hl,hd,hy⟩
section
variable {B:Nat}{w0 w w':World}{a b c e:aO}{l:List aO}
theorem Sep.map {l l':List aO}(h:Sep B w0 w l)(f:∀Z,Hp w l Z->Hp w l' Z):Sep B w0 w l':=by
 obtain⟨hB,hb,Y,hl,hY⟩:=h;exact⟨hB,hb,Y,f Y hl,hY⟩
theorem Sep.ql (h:Sep B w0 w (a::b::l)):Sep B w0 w (b::a::l):=h.map fun _=>Hp.swap
theorem Sep.RN (h:Sep B w0 w (a::b::c::l)):Sep B w0 w (c::a::b::l):=(h.map fun _ h=>Hp.under h fun _=>Hp.swap).ql
theorem Sep.ZM (h:Sep B w0 w (a::b::c::e::l)):Sep B w0 w (e::a::b::c::l):=(h.map fun _ h=>Hp.under h fun _ h=>Hp.under h fun _=>Hp.swap).RN
theorem Sep.VS (h:Sep B w0 w (c::a::b::l)):Sep B w0 w (a::b::c::l):=h.ql.map fun _ h=>Hp.under h fun _=>Hp.swap
theorem Sep.X9 (h:Sep B w0 w (e::a::b::c::l)):Sep B w0 w (a::b::c::e::l):=h.VS.map fun _ h=>Hp.under h fun _ h=>Hp.under h fun _=>Hp.swap
theorem Sep.VT {f:aO}(h:Sep B w0 w (f::a::b::c::e::l)):Sep B w0 w (a::b::c::e::f::l):=h.X9.map fun _ h=>Hp.under h fun _ h=>Hp.under h fun _ h=>Hp.under h fun _=>Hp.swap
theorem Sep.AX (h:Sep B w0 w l):Below B w0 w:=h.2.1
theorem Sep.below {l:List aO}(h:Sep B w0 w l)(hb:Below w.heap.size w w'):Sep B w0 w' l:=by
 obtain⟨hB,hb0,Y,hl,hY⟩:=h;exact⟨Nat.le_trans hB hb.size,hb0.trans (hb.mono hB),Y,hl.kept hb.size (fun k hk=>hb.block k (hl.lt k hk)),hY⟩
theorem Sep.alloc {l:List aO}(h:Sep B w0 w l)(o:Obj):Sep B w0 (w.alloc o) l:=h.below ((Below.refl _ _).alloc (Nat.le_refl _) o)
theorem Sep.drew {l:List aO}(h:Sep B w0 w l):Sep B w0 w.drew l:=h.below (Below.refl _ _).drew
theorem Sep.nil (hB:B<=w.heap.size)(hb:Below B w0 w):Sep B w0 w []:=⟨hB,hb,fun _=>False,fun _ h=>h,fun _ h=>h.elim⟩
theorem Sep.step {a':aO}(h:Sep B w0 w (a::l))(g':Good a')(f:∀X,a w X->∃X',a' w' X'∧cB X w w'∧∀k,X' k->X k∨w.heap.size<=k):Sep B w0 w' (a'::l):=by
 obtain⟨hB,hb,Y,⟨ga,X,Z,ha,hl,hd,hy⟩,hY⟩:=h;obtain⟨X',ha',ht,hx⟩:=f X ha;have hlt:=hl.lt;refine⟨Nat.le_trans hB ht.size,ht.below hb hB (fun k hk=>hY k ((hy k).2 (.inl hk))),fun k=>X' k∨Z k,⟨g',X',Z,ha',hl.kept ht.size (fun k hk=>ht.block k (hlt k hk) (fun hx=>hd k hx hk)),fun k hk hz=>?_,fun k=>Iff.rfl⟩,fun k hk=>?_⟩
 ·rcases hx k hk with h1|h1
  ·exact hd k h1 hz
  ·have:=hlt k hz;omega
 ·rcases hk with h1|h1
  ·rcases hx k h1 with h2|h2
   ·exact hY k ((hy k).2 (.inl h2))
   ·omega
  ·exact hY k ((hy k).2 (.inr h1))
theorem Sep.add {a':aO}(h:Sep B w0 w l)(hb:Below w.heap.size w w')(g':Good a'){X:Nat->Prop}(ha:a' w' X)(hX:∀k,X k->w.heap.size<=k):Sep B w0 w' (a'::l):=by
 have h':=h.below hb;obtain⟨hB,_,Y,hl,hY⟩:=h;have hlt:=hl.lt;obtain⟨hB',hb',_⟩:=h';refine⟨hB',hb',fun k=>X k∨Y k,⟨g',X,Y,ha,hl.kept hb.size (fun k hk=>hb.block k (hlt k hk)),fun k hk hz=>?_,fun k=>Iff.rfl⟩,fun k hk=>?_⟩
 ·have:=hX k hk;have:=hlt k hz;omega
 ·rcases hk with h1|h1
  ·have:=hX k h1;omega
  ·exact hY k h1
end
def kv (b:Nat)(d:Dk):aO:=fun w X=>Mine X w b d
theorem mS (b:Nat)(d:Dk):Good (kv b d):=
 ⟨fun w w' X h hk hs=>by
  obtain⟨⟨m,g,pv,br,lf,hM,xb,xm,xg,xp⟩,hl⟩:=h
  exact⟨⟨m,g,pv,br,lf,hM.kept (hk _ xb) (hk _ xm) (hk _ xg) (fun k h=>hk k (xp k h)),xb,xm,xg,xp⟩,fun k hk=>Nat.lt_of_lt_of_le (hl k hk) hs⟩,fun w X h=>h.2⟩
section
variable {B:Nat}{w0 w w':World}{b:Nat}{d d':Dk}{l:List aO}
theorem Sep.mine (h:Sep B w0 w (kv b d::l)):∃X,Mine X w b d:=by
 obtain⟨_,_,Y,⟨_,X,_,ha,_⟩,_⟩:=h;exact⟨X,ha⟩
theorem Sep.ok (h:Sep B w0 w (kv b d::l)):d.Ok:=by
 obtain⟨X,⟨m,g,pv,br,lf,hM,_⟩,_⟩:=h.mine;exact hM.ok
theorem Calls.AY {P:Program}{f:Nat}{args:Array Value}{Q:Ending->World->Prop}{v:Value}(h:Sep B w0 w (kv b d::l))(hQ:∀X,Mine X w b d->Calls P f args w (fun e w'=>e=.returned v∧Goes X w w' b d')):Calls P f args w fun e w'=>e=.returned v∧Sep B w0 w' (kv b d'::l):=by
 obtain⟨hB,hb,Y,⟨ga,X,Z,ha,hl,hd,hy⟩,hY⟩:=h;refine(hQ X ha).mono ?_;rintro e w' ⟨he,X',hm,ht,hx⟩;refine⟨he,Nat.le_trans hB ht.size,ht.below hb hB (fun k hk=>hY k ((hy k).2 (.inl hk))),fun k=>X' k∨Z k,⟨mS b d',X',Z,hm,hl.kept ht.size (fun k hk=>ht.block k (hl.lt k hk) (fun hx=>hd k hx hk)),fun k hk hz=>?_,fun k=>Iff.rfl⟩,fun k hk=>?_⟩
 ·rcases hx k hk with h1|h1
  ·exact hd k h1 hz
  ·have:=hl.lt k hz;omega
 ·rcases hk with h1|h1
  ·rcases hx k h1 with h2|h2
   ·exact hY k ((hy k).2 (.inl h2))
   ·omega
  ·exact hY k ((hy k).2 (.inr h1))
theorem NF (n:Int)(h:Sep B w0 w l):Calls Tryz.prog 25 #[.int .i64 n] w fun e w'=>∃b,e=.returned (ptr b)∧Sep B w0 w' (kv b (Dk.new n)::l):=by
 refine(SJ n w).mono ?_;rintro e w' ⟨b,he,hbl,hm⟩;exact⟨b,he,h.add hbl (mS _ _) hm (fun k hk=>hk.1)⟩
theorem Dm (h:Sep B w0 w (kv b d::l)):Calls Tryz.prog 96 #[ptr b] w fun e w'=>e=.returned (.int .i64 d.sure.length)∧w=w':=by obtain⟨X,hm⟩:=h.mine;exact Dl hm
theorem Pa (h:Sep B w0 w (kv b d::l))(i:Int):Calls Tryz.prog 62 #[ptr b,.int .i64 i] w fun e w'=>e=.returned (.tuple #[.string (d.get i).1.1,.int .i64 (d.get i).1.2])∧Sep B w0 w' (kv b (d.get i).2::l):=Calls.AY (Q:=fun _ _=>True) h fun _ hm=>O9 hm i
end
def aM (e:TypeId)(v:Value)(cs:List Value):aO:=fun w X=>w.ownsRow 0 e 1 v cs.length cs∧∀k,X k↔v.ownBlock=some k
theorem good_row (e:TypeId)(v:Value)(cs:List Value):Good (aM e v cs):=
 ⟨fun w w' X h hk _=>⟨dW h.1 (fun k hk'=>hk k ((h.2 k).2 hk')),h.2⟩,fun w X h k hk=>(h.1.lt k ((h.2 k).1 hk)).2⟩
section
variable {B:Nat}{w0 w w':World}{l:List aO}{e:TypeId}{v:Value}{cs:List Value}
theorem Sep.qo (h:Sep B w0 w l)(e:TypeId):Sep B w0 w (aM e (.slice none 0 0) []::l):=
 h.add (Below.refl _ _) (good_row _ _ _) (X:=fun _=>False) ⟨by simpa using World.ownsRow_nil w 0 e 1,fun k=>by simp[Value.ownBlock]⟩ (fun _ h=>h.elim)
theorem Sep.row (h:Sep B w0 w (aM e v cs::l)):w.ownsRow 0 e 1 v cs.length cs:=by
 obtain⟨_,_,Y,⟨_,X,_,ha,_⟩,_⟩:=h;exact ha.1
theorem Sep.cell (h:Sep B w0 w (aM e v cs::l)){j:Nat}(hj:j<cs.length):∃r c,v=.slice (some ⟨r,0,none⟩) cs.length c∧cs.length<=c∧r<w.heap.size∧w.cell? ⟨r,j,none⟩=cs[j]? ∧w.frozen? ⟨r,j,none⟩=false:=by
 have hr:=h.row;rcases hr.2 with⟨_,h2⟩| ⟨g,cap,cur,h1,_,hg,hc,_⟩
 ·omega
 ·rw[h1]at hr;exact⟨g,cap,h1,hc,(Array.getElem?_eq_some_iff.1 hg).1,hr.cellAt j (by omega),hr.frozenAt j⟩
theorem Sep.shape (h:Sep B w0 w (aM e v cs::l)):∃ao c,v=.slice ao cs.length c:=by
 rcases h.row.2 with⟨h1,h2⟩| ⟨g,cap,cur,h1,_⟩
 ·exact⟨none,0,by rw[h1,h2]⟩
 ·exact⟨_,_,h1⟩
end
theorem lR:(Tryz.prog.info? 9).map (fun i=>(i.zero,i.size,i.bytes))=some (some (.string ByteArray.empty),1,16):=by kernel_rfl
theorem oT:(Tryz.prog.info? 3).map (fun i=>(i.zero,i.size,i.bytes))=some (some (.int .i64 0),1,8):=by kernel_rfl
section
variable {ops:Array Oper}{rest:List Oper}{o:Oper}{a:Act}{Q:Exit->Act->World->Prop}{B:Nat}{w0 w:World}{l:List aO}
theorem Sep.appended {e:TypeId}{v v':Value}{cs:List Value}{u:Value}{w':World}(h:Sep B w0 w (aM e v cs::l))(h2:w'.ownsRow 0 e 1 v' (cs.length+1) (cs++[u]))(hg:w.grownBy w' v.ownBlock)(hloc:v'.ownBlock=v.ownBlock∨v'.ownBlock=some w.heap.size):Sep B w0 w' (aM e v' (cs++[u])::l):=by
 refine h.step (good_row _ _ _) fun X hX=>⟨fun k=>v'.ownBlock=some k,⟨by rw[List.length_append];exact h2,fun k=>Iff.rfl⟩,cB.grown hg (fun k hk=>(hX.2 k).2 hk),fun k hk=>?_⟩;rcases hloc with e1|e1
 ·exact .inl ((hX.2 k).2 (e1▸hk))
 ·rw[e1]at hk;exact .inr (Nat.le_of_eq (Option.some.inj hk))
theorem wO {e:TypeId}{v:Value}{n:Nat}{cs:List Value}(h:w.ownsRow 0 e 1 v n cs):∃ao c,v=.slice ao n c:=by
 rcases h.2 with⟨h1,h2⟩| ⟨g,cap,cur,h1,_⟩
 ·exact⟨none,0,by rw[h1,h2]⟩
 ·exact⟨_,_,h1⟩
theorem Ke (hgd:o.guard=.none)(s x:Operand)(ho:o.op=.call {callee:=.builtin .append,args:=#[s,x],argTypes:=#[66,66]})(v:Value)(cs:List Value)(hs:a.eval s=v)(h:Sep B w0 w (aM 9 v cs::l))
  (r c:Nat)(t:ByteArray)(hx:a.eval x=.slice (some ⟨r,0,none⟩) 1 c)(c0:w.cell? ⟨r,0,none⟩=some (.string t))(hl:cs.length<100000)
  (hK:∀ao n' c' w',Sep B w0 w' (aM 9 (.slice ao n' c') (cs++[.string t])::l)->wpList Tryz.prog ops Q rest (a.put o.dst (.slice ao n' c')) w'):wpList Tryz.prog ops Q (o::rest) a w:=by
 obtain⟨i0,hi,hz0,hz1,hz2⟩:=info_parts lR;refine wpList_append_own_at w hgd s x 66 ho 0 9 i0 _ 1 16 Tryz.underlying66 hi hz0 hz1 hz2 rfl (by decide) v cs.length cs hs h.row ⟨r,0,none⟩ 1 c [.string t] hx rfl (fun j u hj=>?_) (fun u hu=>by simp at hu;subst hu;rfl) (by unfold maxLen;omega) (by omega) (Nat.zero_le _) ?_
 ·match j,hj with
  |0,hj=>simp at hj;subst hj;exact c0
  |j+1,hj=>simp at hj
 ·intro v' w' h2 h3 _ h5;obtain⟨ao,c',rfl⟩:=wO h2;exact hK _ _ _ _ (h.appended h2 h3 h5)
theorem lS (hgd:o.guard=.none)(s x:Operand)(ho:o.op=.call {callee:=.builtin .append,args:=#[s,x],argTypes:=#[56,56]})(v:Value)(cs:List Value)(hs:a.eval s=v)(h:Sep B w0 w (aM 3 v cs::l))
  (r c:Nat)(t:Int)(hx:a.eval x=.slice (some ⟨r,0,none⟩) 1 c)(c0:w.cell? ⟨r,0,none⟩=some (.int .i64 t))(hl:cs.length<100000)
  (hK:∀ao n' c' w',Sep B w0 w' (aM 3 (.slice ao n' c') (cs++[.int .i64 t])::l)->wpList Tryz.prog ops Q rest (a.put o.dst (.slice ao n' c')) w'):wpList Tryz.prog ops Q (o::rest) a w:=by
 obtain⟨i0,hi,hz0,hz1,hz2⟩:=info_parts oT;refine wpList_append_own_at w hgd s x 56 ho 0 3 i0 _ 1 8 Tryz.underlying56 hi hz0 hz1 hz2 rfl (by decide) v cs.length cs hs h.row ⟨r,0,none⟩ 1 c [.int .i64 t] hx rfl (fun j u hj=>?_) (fun u hu=>by simp at hu;subst hu;rfl) (by unfold maxLen;omega) (by omega) (Nat.zero_le _) ?_
 ·match j,hj with
  |0,hj=>simp at hj;subst hj;exact c0
  |j+1,hj=>simp at hj
 ·intro v' w' h2 h3 _ h5;obtain⟨ao,c',rfl⟩:=wO h2;exact hK _ _ _ _ (h.appended h2 h3 h5)
end
end
section
open Go.RowKit
structure Up (n:Nat)(d:Dk):Prop where
 dn:d.down=false
 br:d.brk=none
 sl:d.sure.length=n
end
section
open Go.RowKit
theorem Sep.drewN {B:Nat}{w0 w:World}{l:List aO}(h:Sep B w0 w l)(n:Nat):Sep B w0 (w.drewN n) l:=h.below ⟨rfl,rfl,rfl,Nat.le_refl _,fun _ _=>rfl⟩
end
section
open Go.RowKit
def Both (r s:aO):aO:=fun w X=>∃X1 X2,r w X1∧s w X2∧(∀k,X1 k->¬X2 k)∧∀k,X k↔X1 k∨X2 k
theorem aJ {r s:aO}(gr:Good r)(gs:Good s):Good (Both r s):=
 ⟨fun w w' X ⟨X1,X2,h1,h2,hd,hx⟩ hk hs=>⟨X1,X2,gr.kept w w' X1 h1 (fun k h=>hk k ((hx k).2 (.inl h))) hs,gs.kept w w' X2 h2 (fun k h=>hk k ((hx k).2 (.inr h))) hs,hd,hx⟩,
  fun w X ⟨X1,X2,h1,h2,_,hx⟩ k hk=>((hx k).1 hk).elim (gr.lt w X1 h1 k) (gs.lt w X2 h2 k)⟩
theorem Hp.join {w:World}{r s:aO}{l:List aO}{Y:Nat->Prop}(h:Hp w (r::s::l) Y):Hp w (Both r s::l) Y:=by
 obtain⟨gr,X1,Z1,hr,⟨gs,X2,Z2,hs,hl,hd2,hy2⟩,hd1,hy1⟩:=h;refine⟨aJ gr gs,fun k=>X1 k∨X2 k,Z2,⟨X1,X2,hr,hs,fun k h1 h2=>hd1 k h1 ((hy2 k).2 (.inl h2)),fun _=>Iff.rfl⟩,hl,fun k hk hz=>?_,fun k=>?_⟩
 ·rcases hk with h1|h1
  ·exact hd1 k h1 ((hy2 k).2 (.inr hz))
  ·exact hd2 k h1 hz
 ·rw[hy1 k,hy2 k,or_assoc]
theorem Hp.part {w:World}{r s:aO}{l:List aO}{Y:Nat->Prop}(gr:Good r)(gs:Good s)(h:Hp w (Both r s::l) Y):Hp w (r::s::l) Y:=by
 obtain⟨_,X,Z,⟨X1,X2,hr,hs,hd,hx⟩,hl,hdz,hy⟩:=h;refine⟨gr,X1,fun k=>X2 k∨Z k,hr,⟨gs,X2,Z,hs,hl,fun k h1 h2=>hdz k ((hx k).2 (.inr h1)) h2,fun _=>Iff.rfl⟩,fun k h1 h2=>?_,fun k=>?_⟩
 ·rcases h2 with h2|h2
  ·exact hd k h1 h2
  ·exact hdz k ((hx k).2 (.inl h1)) h2
 ·rw[hy k,hx k,or_assoc]
theorem Sep.join {B:Nat}{w0 w:World}{r s:aO}{l:List aO}(h:Sep B w0 w (r::s::l)):Sep B w0 w (Both r s::l):=h.map fun _=>Hp.join
def aF (q:Nat)(o:Obj):aO:=fun w X=>w.heap[q]? =some o∧∀k,X k↔k=q
theorem aZ (q:Nat)(o:Obj):Good (aF q o):=
 ⟨fun w w' X h hk _=>⟨(hk q ((h.2 q).2 rfl)).trans h.1,h.2⟩,fun w X h k hk=>by rw[(h.2 k).1 hk];exact(Array.getElem?_eq_some_iff.1 h.1).1⟩
theorem Sep.aP {B:Nat}{w0 w:World}{l:List aO}(h:Sep B w0 w l)(o:Obj):Sep B w0 (w.alloc o) (aF w.heap.size o::l):=
 h.add ((Below.refl _ _).alloc (Nat.le_refl _) _) (aZ _ _) (X:=fun k=>k=w.heap.size) ⟨heap_alloc_new w o,fun _=>Iff.rfl⟩ (fun k hk=>Nat.le_of_eq hk.symm)
theorem Sep.blk {B:Nat}{w0 w:World}{l:List aO}{q:Nat}{o:Obj}(h:Sep B w0 w (aF q o::l)):w.heap[q]? =some o:=by
 obtain⟨_,_,Y,⟨_,X,_,ha,_⟩,_⟩:=h;exact ha.1
theorem Sep.drop {B:Nat}{w0 w:World}{l:List aO}{a:aO}(h:Sep B w0 w (a::l)):Sep B w0 w l:=by
 obtain⟨hB,hb,Y,⟨_,X,Z,_,hl,_,hy⟩,hY⟩:=h;exact⟨hB,hb,Z,hl,fun k hk=>hY k ((hy k).2 (.inr hk))⟩
theorem Sep.Pb {B:Nat}{w0 w:World}{l:List aO}(h:Sep B w0 w l)(e:TypeId)(cs:List Value)(n:Nat)(hn:cs.length=n)(hm:n<=1000):Sep B w0 (w.alloc (.cells cs.toArray e)) (aM e (.slice (some ⟨w.heap.size,0,none⟩) n n) cs::l):=by
 subst hn;exact h.add ((Below.refl _ _).alloc (Nat.le_refl _) _) (good_row _ _ _) (X:=fun k=>k=w.heap.size) ⟨World.ownsRow_lit w _ cs.length (Nat.zero_le _) (by unfold maxLen;omega) (by simp),fun k=>by simp[Value.ownBlock,eq_comm]⟩ (fun k hk=>Nat.le_of_eq hk.symm)
def Ya (l:List Bool)(i:Nat):Bool:=l.getD i false
def ZN (l:List UInt8)(i:Nat):UInt8:=l.getD i 0
end
end
section
open Go.RowKit
open Go.ChangeMaps (setBlock)
structure C3 where
 there:Bool
 kind:UInt8
 body:ByteArray
def c0:C3:=⟨false,0,ByteArray.empty⟩
def cV (c:C3):Value:=.agg #[.bool c.there,.int .u8 (c.kind.toNat:Int),.string c.body]
def RC (v:Value):Option (DataW Value×List MemPlace):=some (.held v,[])
def Wf (k:Int):Prop:=-9223372036854775808<=k∧k<=9223372036854775807
theorem Wf.lit {k:Int}(h:Wf k):(Lit.int .i64 k).wf=true:=by
 have h1:=h.1;have h2:=h.2;have e1:IntKind.min .i64=-9223372036854775808:=by decide
 have e2:IntKind.max .i64=9223372036854775807:=by decide
 unfold Lit.wf;simp only[e1,e2];simp[h1,h2]
theorem Wf.key {k:Int}(h:Wf k):keyOf Tryz.prog 3 (.int .i64 k)=some (.int .i64 k):=Maps.keyOf_int_mk Tryz.underlying3 h.lit
theorem gN:Maps.Keyed Tryz.prog 3:=Maps.int_keyed Tryz.underlying3
theorem SK (w:World):(zeroValue 122).run Tryz.prog w=.ok (cV c0) w:=by kernel_rfl
abbrev Fr:=Int->Option C3
def View (D:DataW Value)(g:Fr):Prop:=∀k,Maps.has D (.int .i64 k)=(g k).isSome∧∀z,D.atKey (.int .i64 k) z=(g k).elim z fun c=>.held (cV c)
def gq (g:Fr)(k:Int)(c:C3):Fr:=fun q=>if q=k then some c else g q
def qu (g:Fr)(k:Int):Fr:=fun q=>if q=k then none else g q
theorem Fk:View (.map []) (fun _=>none):=fun k=>⟨rfl,fun z=>rfl⟩
theorem jF {q k:Int}(h:q≠k):(Lit.int .i64 q)≠.int .i64 k:=fun e=>h (by injection e)
theorem View.put {D:DataW Value}{g:Fr}(h:View D g)(hD:Maps.IsMap D)(k:Int)(c:C3):View (D.put (.int .i64 k) (.held (cV c))) (gq g k c):=by
 intro q;unfold gq;by_cases hq:q=k
 ·subst hq;rw[if_pos rfl];have hkl:WideAt.IsKeyLit (.int .i64 q):=by simp[WideAt.IsKeyLit]
  exact⟨Maps.has_put_same hD hkl _,fun z=>Maps.atKey_put_same hD hkl _ z⟩
 ·rw[if_neg hq];exact⟨(Maps.has_put_other (jF hq) _).trans (h q).1,fun z=>(Maps.atKey_put_other (jF hq) _ z).trans ((h q).2 z)⟩
theorem View.del {D:DataW Value}{g:Fr}(h:View D g)(k:Int):View (D.del (.int .i64 k)) (qu g k):=by
 intro q;unfold qu;by_cases hq:q=k
 ·subst hq;rw[if_pos rfl];exact⟨Maps.has_del_same,fun z=>Maps.atKey_del_same z⟩
 ·rw[if_neg hq];exact⟨(Maps.has_del_other (jF hq)).trans (h q).1,fun z=>(Maps.atKey_del_other (jF hq) z).trans ((h q).2 z)⟩
def lT (m:Nat)(g:Fr)(n:Nat):aO:=fun w X=>(∃D,w.ownsMap Tryz.prog 3 RC m n D∧View D g)∧∀k,X k↔k=m
theorem gO (m:Nat)(g:Fr)(n:Nat):Good (lT m g n):=
 ⟨fun w w' X h hk _=>by
  obtain⟨⟨D,⟨es,clock,hb,r⟩,hv⟩,hX⟩:=h
  exact⟨⟨D,⟨es,clock,(hk m ((hX m).2 rfl)).trans hb,r⟩,hv⟩,hX⟩,fun w X h k hk=>by
  obtain⟨⟨D,o,_⟩,hX⟩:=h
  rw[(hX k).1 hk];exact o.lt⟩
section
variable {B:Nat}{w0 w w':World}{l:List aO}{m n:Nat}{g:Fr}
theorem Sep.Kf (h:Sep B w0 w (lT m g n::l)):∃D,w.ownsMap Tryz.prog 3 RC m n D∧View D g:=by
 obtain⟨_,_,Y,⟨_,X,_,ha,_⟩,_⟩:=h;exact ha.1
theorem Sep.Pf (h:Sep B w0 w l):Sep B w0 (w.alloc (.map #[] 0)) (lT w.heap.size (fun _=>none) 0::l):=
 h.add ((Below.refl _ _).alloc (Nat.le_refl _) _) (gO _ _ _) (X:=fun k=>k=w.heap.size) ⟨⟨_,World.ownsMap_made w _ _ _,Fk⟩,fun _=>Iff.rfl⟩ (fun k hk=>Nat.le_of_eq hk.symm)
theorem Fl {v:Value}{z c:C3}{D:DataW Value}{ps:List MemPlace}{g:Option C3}(hv:RC v=some (D,ps))(hD:D=g.elim (.held (cV z)) fun c=>.held (cV c)):v=cV (g.getD z):=by
 unfold RC at hv;cases g with
 |none=>subst hD;simp at hv;exact hv.1
 |some c=>subst hD;simp at hv;exact hv.1
theorem Sep.Fo (h:Sep B w0 w (lT m g n::l)){k:Int}(hk:Wf k):(Instr.lookup 117 (.map (some m)) (.int .i64 k) true).run Tryz.prog w=.ok (.tuple #[cV ((g k).getD c0),.bool (g k).isSome]) w:=by
 obtain⟨D,o,hv⟩:=h.Kf;obtain⟨v,ps,hr,hR⟩:=o.look_ok gN Tryz.underlying117 (SK w) (zd:=.held (cV c0)) (zp:=[]) rfl hk.key;rw[hr,Fl (z:=c0) (c:=c0) hR ((hv k).2 _),(hv k).1]
theorem cB.mapTurned {X:Nat->Prop}{w w':World}{m:Nat}(hm:X m)(h:w.mapTurned w' m):cB X w w':=by
 obtain⟨es,clock,es',clock',hb,rfl⟩:=h;exact cB.setBlock w hm _
theorem Sep.Ph (h:Sep B w0 w (lT m g n::l)){k:Int}(hk:Wf k)(c:C3)(hn:n<1000000):∃w',(Instr.mapUpdate 117 (.map (some m)) (.int .i64 k) (cV c)).run Tryz.prog w=.ok () w'∧Sep B w0 w' (lT m (gq g k c) (n+1)::l):=by
 obtain⟨D,o,hv⟩:=h.Kf;obtain⟨w',hr,o',ht⟩:=o.store gN Tryz.underlying117 (Nat.lt_of_lt_of_le hn (by decide)) hk.key (val:=cV c) (d:=.held (cV c)) (ps:=[]) rfl;refine⟨w',hr,h.step (gO _ _ _) fun X hX=>⟨X,⟨⟨_,o',hv.put o.isMap k c⟩,hX.2⟩,cB.mapTurned ((hX.2 m).2 rfl) ht,fun k hk=>.inl hk⟩⟩
theorem Sep.Pj (h:Sep B w0 w (lT m g n::l)){k:Int}(hk:Wf k)(ty:TypeId):∃w',(Builtin.delete_ #[117,3] ty #[.map (some m),.int .i64 k]).run Tryz.prog w=.ok (.tuple #[]) w'∧Sep B w0 w' (lT m (qu g k) n::l):=by
 obtain⟨D,o,hv⟩:=h.Kf;obtain⟨w',hr,o',ht⟩:=o.drop gN Tryz.underlying117 hk.key ty;refine⟨w',hr,h.step (gO _ _ _) fun X hX=>⟨X,⟨⟨_,o',hv.del k⟩,hX.2⟩,cB.mapTurned ((hX.2 m).2 rfl) ht,fun k hk=>.inl hk⟩⟩
end
def KeysOf (g:Fr)(L:List Int):Prop:=L.Pairwise (· < ·)∧∀k,k∈L↔(g k).isSome=true
theorem wP {w:World}{m n:Nat}{g:Fr}{D:DataW Value}(o:w.ownsMap Tryz.prog 3 RC m n D)(hv:View D g){ss:List Int}(hp:ss.Perm (intKeys D)):KeysOf g (ss.mergeSort (fun x y=>decide (x<=y)))∧ss.length<=n:=by
 obtain⟨es,rfl,hpw,_⟩:=o.entries gN;obtain⟨es',hD',hko⟩:=o.keysOf;obtain rfl:es=es':=by simpa using hD'
 have hkk:∀p∈es,∃x,p.1=.int .i64 x:=fun p hp=>by obtain⟨v,hv⟩:=hko p hp;obtain⟨x,_,hx,_⟩:=Maps.keyOf_i64 Tryz.underlying3 hv;exact⟨x,hx⟩
 have hnd:(intKeys (.map es)).Nodup:=by
  show(es.map fun p=>Go.intOf p.1).Nodup;refine List.pairwise_map.2 (hpw.imp_of_mem fun {p q} hp' hq' hne e=>hne ?_);obtain⟨a,ha⟩:=hkk p hp';obtain⟨b,hb⟩:=hkk q hq';rw[ha,hb]at e⊢;exact congrArg _ e
 have hmem:∀x,x∈intKeys (.map es)↔(g x).isSome=true:=fun x=>by
  rw[<- (hv x).1,Maps.has_eq,List.any_eq_true];show x∈es.map (fun p=>Go.intOf p.1)↔_;rw[List.mem_map];constructor
  ·rintro⟨p,hp',rfl⟩;obtain⟨a,ha⟩:=hkk p hp';exact⟨p,hp',by rw[ha];simp[Lit.sameKey,Go.intOf]⟩
  ·rintro⟨p,hp',hs⟩;obtain⟨a,ha⟩:=hkk p hp';rw[ha]at hs;exact⟨p,hp',by rw[ha];simpa[Lit.sameKey,Go.intOf]using hs⟩
 refine⟨⟨?_,fun k=>?_⟩,?_⟩
 ·have tr:∀a b c:Int,leI a b=true->leI b c=true->leI a c=true:=fun a b c h1 h2=>by simp only[leI,decide_eq_true_eq]at*;exact Int.le_trans h1 h2
  have tt:∀a b:Int,(leI a b||leI b a)=true:=fun a b=>by simp only[leI,Bool.or_eq_true,decide_eq_true_eq];exact Int.le_total a b
  have h1:=List.pairwise_mergeSort tr tt ss;have h2:(ss.mergeSort leI).Nodup:=((List.mergeSort_perm ss leI).trans hp).nodup_iff.2 hnd;refine(List.pairwise_and_iff.2 ⟨h1,h2⟩).imp fun {a b} hab=>?_;have:=of_decide_eq_true hab.1;have h3:=hab.2;omega
 ·rw[((List.mergeSort_perm ss _).trans hp).mem_iff];exact hmem k
 ·rw[hp.length_eq];have:=o.size_le;simpa[intKeys,Maps.size]using this
end
section
open Go.RowKit
open Go.ChangeMaps (setBlock)
abbrev Gv:=Int->Option Value
def zN:Value:=.agg #[.bool false,.slice none 0 0,.slice none 0 0,.slice none 0 0]
theorem NG (w:World):(zeroValue 74).run Tryz.prog w=.ok zN w:=by kernel_rfl
def kG (D:DataW Value)(g:Gv):Prop:=∀k,Maps.has D (.int .i64 k)=(g k).isSome∧∀z,D.atKey (.int .i64 k) z=(g k).elim z fun c=>.held c
def wQ (g:Gv)(k:Int)(c:Value):Gv:=fun q=>if q=k then some c else g q
def Kg (g:Gv)(k:Int):Gv:=fun q=>if q=k then none else g q
theorem Dn:kG (.map []) (fun _=>none):=fun k=>⟨rfl,fun z=>rfl⟩
theorem kG.put {D:DataW Value}{g:Gv}(h:kG D g)(hD:Maps.IsMap D)(k:Int)(c:Value):kG (D.put (.int .i64 k) (.held c)) (wQ g k c):=by
 intro q;unfold wQ;by_cases hq:q=k
 ·subst hq;rw[if_pos rfl];have hkl:WideAt.IsKeyLit (.int .i64 q):=by simp[WideAt.IsKeyLit]
  exact⟨Maps.has_put_same hD hkl _,fun z=>Maps.atKey_put_same hD hkl _ z⟩
 ·rw[if_neg hq];exact⟨(Maps.has_put_other (jF hq) _).trans (h q).1,fun z=>(Maps.atKey_put_other (jF hq) _ z).trans ((h q).2 z)⟩
theorem kG.del {D:DataW Value}{g:Gv}(h:kG D g)(k:Int):kG (D.del (.int .i64 k)) (Kg g k):=by
 intro q;unfold Kg;by_cases hq:q=k
 ·subst hq;rw[if_pos rfl];exact⟨Maps.has_del_same,fun z=>Maps.atKey_del_same z⟩
 ·rw[if_neg hq];exact⟨(Maps.has_del_other (jF hq)).trans (h q).1,fun z=>(Maps.atKey_del_other (jF hq) z).trans ((h q).2 z)⟩
def cP (m:Nat)(g:Gv)(n:Nat):aO:=fun w X=>(∃D,w.ownsMap Tryz.prog 3 RC m n D∧kG D g)∧∀k,X k↔k=m
theorem cJ (m:Nat)(g:Gv)(n:Nat):Good (cP m g n):=
 ⟨fun w w' X h hk _=>by
  obtain⟨⟨D,⟨es,clock,hb,r⟩,hv⟩,hX⟩:=h
  exact⟨⟨D,⟨es,clock,(hk m ((hX m).2 rfl)).trans hb,r⟩,hv⟩,hX⟩,fun w X h k hk=>by
  obtain⟨⟨D,o,_⟩,hX⟩:=h
  rw[(hX k).1 hk];exact o.lt⟩
section
variable {B:Nat}{w0 w w':World}{l:List aO}{m n:Nat}{g:Gv}
theorem Sep.qw (h:Sep B w0 w (cP m g n::l)):∃D,w.ownsMap Tryz.prog 3 RC m n D∧kG D g:=by
 obtain⟨_,_,Y,⟨_,X,_,ha,_⟩,_⟩:=h;exact ha.1
theorem Sep.AZ (h:Sep B w0 w l):Sep B w0 (w.alloc (.map #[] 0)) (cP w.heap.size (fun _=>none) 0::l):=
 h.add ((Below.refl _ _).alloc (Nat.le_refl _) _) (cJ _ _ _) (X:=fun k=>k=w.heap.size) ⟨⟨_,World.ownsMap_made w _ _ _,Dn⟩,fun _=>Iff.rfl⟩ (fun k hk=>Nat.le_of_eq hk.symm)
theorem mU {v:Value}{z c:Value}{D:DataW Value}{ps:List MemPlace}{g:Option Value}(hv:RC v=some (D,ps))(hD:D=g.elim (.held z) fun c=>.held c):v=g.getD z:=by
 unfold RC at hv;cases g with
 |none=>subst hD;simp at hv;exact hv.1
 |some c=>subst hD;simp at hv;exact hv.1
theorem Sep.Kh (h:Sep B w0 w (cP m g n::l)){k:Int}(hk:Wf k):(Instr.lookup 145 (.map (some m)) (.int .i64 k) true).run Tryz.prog w=.ok (.tuple #[((g k).getD zN),.bool (g k).isSome]) w:=by
 obtain⟨D,o,hv⟩:=h.qw;obtain⟨v,ps,hr,hR⟩:=o.look_ok gN Tryz.underlying145 (NG w) (zd:=.held zN) (zp:=[]) rfl hk.key;rw[hr,mU (z:=zN) (c:=zN) hR ((hv k).2 _),(hv k).1]
theorem Sep.Pm (h:Sep B w0 w (cP m g n::l)){k:Int}(hk:Wf k):(Instr.lookup 145 (.map (some m)) (.int .i64 k) false).run Tryz.prog w=.ok (((g k).getD zN)) w:=by
 obtain⟨D,o,hv⟩:=h.qw;obtain⟨v,ps,hr,hR⟩:=o.lookup gN Tryz.underlying145 (NG w) (zd:=.held zN) (zp:=[]) rfl hk.key;rw[hr,mU (z:=zN) (c:=zN) hR ((hv k).2 _)]
theorem Sep.Ki (h:Sep B w0 w (cP m g n::l)){k:Int}(hk:Wf k)(c:Value)(hn:n<1000000):∃w',(Instr.mapUpdate 145 (.map (some m)) (.int .i64 k) c).run Tryz.prog w=.ok () w'∧Sep B w0 w' (cP m (wQ g k c) (n+1)::l):=by
 obtain⟨D,o,hv⟩:=h.qw;obtain⟨w',hr,o',ht⟩:=o.store gN Tryz.underlying145 (Nat.lt_of_lt_of_le hn (by decide)) hk.key (val:=c) (d:=.held c) (ps:=[]) rfl;refine⟨w',hr,h.step (cJ _ _ _) fun X hX=>⟨X,⟨⟨_,o',hv.put o.isMap k c⟩,hX.2⟩,cB.mapTurned ((hX.2 m).2 rfl) ht,fun k hk=>.inl hk⟩⟩
theorem Sep.Kj (h:Sep B w0 w (cP m g n::l)){k:Int}(hk:Wf k)(ty:TypeId):∃w',(Builtin.delete_ #[145,3] ty #[.map (some m),.int .i64 k]).run Tryz.prog w=.ok (.tuple #[]) w'∧Sep B w0 w' (cP m (Kg g k) n::l):=by
 obtain⟨D,o,hv⟩:=h.qw;obtain⟨w',hr,o',ht⟩:=o.drop gN Tryz.underlying145 hk.key ty;refine⟨w',hr,h.step (cJ _ _ _) fun X hX=>⟨X,⟨⟨_,o',hv.del k⟩,hX.2⟩,cB.mapTurned ((hX.2 m).2 rfl) ht,fun k hk=>.inl hk⟩⟩
end
def Fp (g:Gv)(L:List Int):Prop:=L.Pairwise (· < ·)∧∀k,k∈L↔(g k).isSome=true
theorem uB {w:World}{m n:Nat}{g:Gv}{D:DataW Value}(o:w.ownsMap Tryz.prog 3 RC m n D)(hv:kG D g){ss:List Int}(hp:ss.Perm (intKeys D)):Fp g (ss.mergeSort (fun x y=>decide (x<=y)))∧ss.length<=n:=by
 obtain⟨es,rfl,hpw,_⟩:=o.entries gN;obtain⟨es',hD',hko⟩:=o.keysOf;obtain rfl:es=es':=by simpa using hD'
 have hkk:∀p∈es,∃x,p.1=.int .i64 x:=fun p hp=>by obtain⟨v,hv⟩:=hko p hp;obtain⟨x,_,hx,_⟩:=Maps.keyOf_i64 Tryz.underlying3 hv;exact⟨x,hx⟩
 have hnd:(intKeys (.map es)).Nodup:=by
  show(es.map fun p=>Go.intOf p.1).Nodup;refine List.pairwise_map.2 (hpw.imp_of_mem fun {p q} hp' hq' hne e=>hne ?_);obtain⟨a,ha⟩:=hkk p hp';obtain⟨b,hb⟩:=hkk q hq';rw[ha,hb]at e⊢;exact congrArg _ e
 have hmem:∀x,x∈intKeys (.map es)↔(g x).isSome=true:=fun x=>by
  rw[<- (hv x).1,Maps.has_eq,List.any_eq_true];show x∈es.map (fun p=>Go.intOf p.1)↔_;rw[List.mem_map];constructor
  ·rintro⟨p,hp',rfl⟩;obtain⟨a,ha⟩:=hkk p hp';exact⟨p,hp',by rw[ha];simp[Lit.sameKey,Go.intOf]⟩
  ·rintro⟨p,hp',hs⟩;obtain⟨a,ha⟩:=hkk p hp';rw[ha]at hs;exact⟨p,hp',by rw[ha];simpa[Lit.sameKey,Go.intOf]using hs⟩
 refine⟨⟨?_,fun k=>?_⟩,?_⟩
 ·have tr:∀a b c:Int,leI a b=true->leI b c=true->leI a c=true:=fun a b c h1 h2=>by simp only[leI,decide_eq_true_eq]at*;exact Int.le_trans h1 h2
  have tt:∀a b:Int,(leI a b||leI b a)=true:=fun a b=>by simp only[leI,Bool.or_eq_true,decide_eq_true_eq];exact Int.le_total a b
  have h1:=List.pairwise_mergeSort tr tt ss;have h2:(ss.mergeSort leI).Nodup:=((List.mergeSort_perm ss leI).trans hp).nodup_iff.2 hnd;refine(List.pairwise_and_iff.2 ⟨h1,h2⟩).imp fun {a b} hab=>?_;have:=of_decide_eq_true hab.1;have h3:=hab.2;omega
 ·rw[((List.mergeSort_perm ss _).trans hp).mem_iff];exact hmem k
 ·rw[hp.length_eq];have:=o.size_le;simpa[intKeys,Maps.size]using this
end
end Go.Proofs.YtceoeaemenhbhaaGreatDoor
