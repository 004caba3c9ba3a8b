/- Walks of the package cowtree and of what it stands on: lemmas, made short. -/
import Derived.Shelf.Strings.OnBuilder
import Derived.Shelf.Strings.Repeat
import Derived.Ground.NamesProg
import Derived.Shelf.SlGeneric
import Derived.Shelf.SlicesG.Cmp
import Derived.Shelf.SlicesQ.IndexFunc
import Derived.Shelf.Spec.SlicesGrow
import Derived.Ground.SlgcProg
import Derived.Ground.SlgfProg
import Derived.Ground.Names8Prog
import Derived.Shelf.Small.Strs
import Derived.Shelf.SlicesE.Clone
import Derived.Ground.SlgnProg
import Derived.Test.YtceoeaemenhbhaaGreatDoorProg
import Derived.Test.YtceoeaemenhbhaaGreatDoorRows
import Derived.WalkKit
import Derived.WalkSpells
import Derived.WalkLawsBesides
import Derived.Laws.BitsAllLaws
import Derived.Test.YtceoeaemenhbhaaGreatDoorChecked
import Derived.Below
import Derived.LoopTactic
import Derived.Lib.LaidTab
import Derived.LaidMore
import Derived.MakeChecks
import Derived.OwnWalk
import Derived.Deep.QuietTactic
import Derived.Laws.OwnMore
import Derived.Laws.LoneSync
import Derived.ChangeMaps4
import Derived.Maps.Keyed
import Derived.BigRegion
import Derived.Maps.AppendAt
import Derived.Deep.RegionLaw
import Derived.Deep.LoopGhost
import Derived.BigQuiet
import Derived.Deep.RegionHeld3
import Derived.Maps.OwnIn
import Derived.Maps.OwnSet
import Derived.Lib.SlKeysI
set_option maxHeartbeats 16000000
set_option maxRecDepth 100000
set_option linter.unusedVariables false
set_option linter.unusedSimpArgs false
section
namespace Go.Proofs
open Go.Shelf
def Tryz.oq:Go.Shelf.Ren:=⟨fun|156=>145|165=>92|166=>93|169=>95|240=>134|241=>135|276=>165|277=>166|n=>n,fun|31=>66|9=>9|3=>3|4=>4|0=>0|20=>20|72=>167|76=>171|70=>164|37=>165|75=>170|127=>211|164=>234|5=>5|80=>173|n=>n,fun|n=>n⟩
theorem Tryz.Bz:Go.Proofs.Lays.n156 Tryz.prog Tryz.oq:={
 mixed:=by kernel_rfl
 f156:=Tryz.func145.trans (congrArg some (by kernel_rfl))
 f165:=Tryz.func92.trans (congrArg some (by kernel_rfl))
 f166:=Tryz.func93.trans (congrArg some (by kernel_rfl))
 f169:=Tryz.func95.trans (congrArg some (by kernel_rfl))
 f240:=Tryz.func134.trans (congrArg some (by kernel_rfl))
 f241:=Tryz.func135.trans (congrArg some (by kernel_rfl))
 f276:=Tryz.func165.trans (congrArg some (by kernel_rfl))
 f277:=Tryz.func166.trans (congrArg some (by kernel_rfl))
 t0:=Tryz.underlying0
 a0:=Tryz.isAgg0
 z0:=Tryz.sizeOf0
 v0:=Tryz.zeroValue0
 t3:=Tryz.underlying3
 a3:=Tryz.isAgg3
 z3:=Tryz.sizeOf3
 v3:=Tryz.zeroValue3
 t4:=Tryz.underlying4
 a4:=Tryz.isAgg4
 z4:=Tryz.sizeOf4
 v4:=Tryz.zeroValue4
 t9:=Tryz.underlying9
 a9:=Tryz.isAgg9
 z9:=Tryz.sizeOf9
 v9:=Tryz.zeroValue9
 t20:=Tryz.underlying20
 a20:=Tryz.isAgg20
 z20:=Tryz.sizeOf20
 v20:=Tryz.zeroValue20
 t31:=Tryz.underlying66
 a31:=Tryz.isAgg66
 z31:=Tryz.sizeOf66
 v31:=Tryz.zeroValue66
 t37:=Tryz.underlying165
 a37:=Tryz.isAgg165
 z37:=Tryz.sizeOf165
 v37:=Tryz.zeroValue165
 t70:=Tryz.underlying164
 a70:=Tryz.isAgg164
 z70:=Tryz.sizeOf164
 v70:=Tryz.zeroValue164
 t72:=Tryz.underlying167
 a72:=Tryz.isAgg167
 z72:=Tryz.sizeOf167
 v72:=Tryz.zeroValue167
 t75:=Tryz.underlying170
 a75:=Tryz.isAgg170
 z75:=Tryz.sizeOf170
 v75:=Tryz.zeroValue170
 t76:=Tryz.underlying171
 a76:=Tryz.isAgg171
 z76:=Tryz.sizeOf171
 v76:=Tryz.zeroValue171
 t127:=Tryz.underlying211
 a127:=Tryz.isAgg211
 z127:=Tryz.sizeOf211
 v127:=Tryz.zeroValue211
 t164:=Tryz.underlying234
 a164:=Tryz.isAgg234
 z164:=Tryz.sizeOf234
 v164:=Tryz.zeroValue234}
theorem Tryz.hZ:Builder.Extra Tryz.prog Tryz.oq:={
 sizeBuilder:=by kernel_rfl
 liesBuilder:=by kernel_rfl
 t5:=Tryz.underlying5
 a5:=Tryz.isAgg5
 z5:=Tryz.sizeOf5
 v5:=Tryz.zeroValue5
 infoByte:=by kernel_rfl
 cellsByte:=by kernel_rfl
 sizeByte:=by kernel_rfl
 neB5:=by decide}
open Go.RowKit in
theorem Tryz.strings_Join_none (a:Option Addr)(c:Nat)(sep:ByteArray)(w:World):
 Calls Tryz.prog 145 #[.slice a 0 c,.string sep] w fun e w'=>e=.returned (.string ⟨#[]⟩)∧w'=w:=Any.strings_Join_none Tryz.Bz Tryz.hZ a c sep w
open Go.RowKit in
theorem Tryz.strings_Join (bk o c:Nat)(xs:List ByteArray)(sep:ByteArray)(w:World)(hcells:∀(j:Nat) x,xs[j]? =some x->w.cell? ⟨bk,o+j,none⟩=some (.string x))(hbk:bk<w.heap.size)(hN:xs.length<=140737488355328)(hcap:xs.length<=c)(hlen:(Lib.join (xs.map (·.data.toList)) sep.data.toList).length<=140737488355328):
 Calls Tryz.prog 145 #[.slice (some ⟨bk,o,none⟩) xs.length c,.string sep] w fun e w'=>e=.returned (.string ⟨(Lib.join (xs.map (·.data.toList)) sep.data.toList).toArray⟩)∧Below w.heap.size w w':=Any.strings_Join Tryz.Bz Tryz.hZ bk o c xs sep w hcells hbk hN hcap hlen
def Tryz.ot:Go.Shelf.Ren:=⟨fun|105=>55|212=>90|99=>91|165=>92|166=>93|170=>94|169=>95|263=>131|264=>132|206=>133|240=>134|241=>135|276=>165|277=>166|n=>n,fun|9=>9|3=>3|4=>4|20=>20|0=>0|46=>161|109=>162|5=>5|72=>167|76=>171|51=>205|146=>206|53=>208|148=>209|70=>164|37=>165|75=>170|127=>211|164=>234|80=>173|n=>n,fun|n=>n⟩
theorem Tryz.Le:Go.Proofs.Lays.n105 Tryz.prog Tryz.ot:={
 mixed:=by kernel_rfl
 f99:=Tryz.func91.trans (congrArg some (by kernel_rfl))
 f105:=Tryz.func55.trans (congrArg some (by kernel_rfl))
 f165:=Tryz.func92.trans (congrArg some (by kernel_rfl))
 f166:=Tryz.func93.trans (congrArg some (by kernel_rfl))
 f169:=Tryz.func95.trans (congrArg some (by kernel_rfl))
 f170:=Tryz.func94.trans (congrArg some (by kernel_rfl))
 f206:=Tryz.func133.trans (congrArg some (by kernel_rfl))
 f212:=Tryz.func90.trans (congrArg some (by kernel_rfl))
 f240:=Tryz.func134.trans (congrArg some (by kernel_rfl))
 f241:=Tryz.func135.trans (congrArg some (by kernel_rfl))
 f263:=Tryz.func131.trans (congrArg some (by kernel_rfl))
 f264:=Tryz.func132.trans (congrArg some (by kernel_rfl))
 f276:=Tryz.func165.trans (congrArg some (by kernel_rfl))
 f277:=Tryz.func166.trans (congrArg some (by kernel_rfl))
 t0:=Tryz.underlying0
 a0:=Tryz.isAgg0
 z0:=Tryz.sizeOf0
 v0:=Tryz.zeroValue0
 t3:=Tryz.underlying3
 a3:=Tryz.isAgg3
 z3:=Tryz.sizeOf3
 v3:=Tryz.zeroValue3
 t4:=Tryz.underlying4
 a4:=Tryz.isAgg4
 z4:=Tryz.sizeOf4
 v4:=Tryz.zeroValue4
 t5:=Tryz.underlying5
 a5:=Tryz.isAgg5
 z5:=Tryz.sizeOf5
 v5:=Tryz.zeroValue5
 t9:=Tryz.underlying9
 a9:=Tryz.isAgg9
 z9:=Tryz.sizeOf9
 v9:=Tryz.zeroValue9
 t20:=Tryz.underlying20
 a20:=Tryz.isAgg20
 z20:=Tryz.sizeOf20
 v20:=Tryz.zeroValue20
 t37:=Tryz.underlying165
 a37:=Tryz.isAgg165
 z37:=Tryz.sizeOf165
 v37:=Tryz.zeroValue165
 t46:=Tryz.underlying161
 a46:=Tryz.isAgg161
 z46:=Tryz.sizeOf161
 v46:=Tryz.zeroValue161
 t51:=Tryz.underlying205
 a51:=Tryz.isAgg205
 z51:=Tryz.sizeOf205
 v51:=Tryz.zeroValue205
 t53:=Tryz.underlying208
 a53:=Tryz.isAgg208
 z53:=Tryz.sizeOf208
 v53:=Tryz.zeroValue208
 t70:=Tryz.underlying164
 a70:=Tryz.isAgg164
 z70:=Tryz.sizeOf164
 v70:=Tryz.zeroValue164
 t72:=Tryz.underlying167
 a72:=Tryz.isAgg167
 z72:=Tryz.sizeOf167
 v72:=Tryz.zeroValue167
 t75:=Tryz.underlying170
 a75:=Tryz.isAgg170
 z75:=Tryz.sizeOf170
 v75:=Tryz.zeroValue170
 t76:=Tryz.underlying171
 a76:=Tryz.isAgg171
 z76:=Tryz.sizeOf171
 v76:=Tryz.zeroValue171
 t109:=Tryz.underlying162
 a109:=Tryz.isAgg162
 z109:=Tryz.sizeOf162
 v109:=Tryz.zeroValue162
 t127:=Tryz.underlying211
 a127:=Tryz.isAgg211
 z127:=Tryz.sizeOf211
 v127:=Tryz.zeroValue211
 t146:=Tryz.underlying206
 a146:=Tryz.isAgg206
 z146:=Tryz.sizeOf206
 v146:=Tryz.zeroValue206
 t148:=Tryz.underlying209
 a148:=Tryz.isAgg209
 z148:=Tryz.sizeOf209
 v148:=Tryz.zeroValue209
 t164:=Tryz.underlying234
 a164:=Tryz.isAgg234
 z164:=Tryz.sizeOf234
 v164:=Tryz.zeroValue234}
theorem Tryz.lS:Builder.Extra Tryz.prog Tryz.ot:={
 sizeBuilder:=by kernel_rfl
 liesBuilder:=by kernel_rfl
 t5:=Tryz.underlying5
 a5:=Tryz.isAgg5
 z5:=Tryz.sizeOf5
 v5:=Tryz.zeroValue5
 infoByte:=by kernel_rfl
 cellsByte:=by kernel_rfl
 sizeByte:=by kernel_rfl
 neB5:=by decide}
open Go.RowKit in
theorem Tryz.strings_Repeat (s:ByteArray)(c:Nat)(w:World)(hc:c<=9223372036854775807)(hlen:s.size*c<=140737488355328):
 Calls Tryz.prog 55 #[.string s,.int .i64 c] w fun e w'=>e=.returned (.string ⟨(Lib.repeatL s.data.toList c).toArray⟩)∧Below w.heap.size w w':=Any.strings_Repeat Tryz.Le Tryz.lS s c w hc hlen
def Tryz.zP:Go.Shelf.Ren:=⟨fun|5=>141|7=>168|n=>n,fun|22=>3|3=>3|4=>4|n=>n,fun|n=>n⟩
theorem Tryz.PL:Go.Proofs.SlLaysC2.n5 Tryz.prog Tryz.zP:={
 mixed:=by kernel_rfl
 f5:=⟨Tryz.f141.name,by decide,Tryz.func141.trans (congrArg some (by kernel_rfl))⟩
 f7:=⟨Tryz.f168.name,by decide,Tryz.func168.trans (congrArg some (by kernel_rfl))⟩
 t3:=Tryz.underlying3
 a3:=Tryz.isAgg3
 z3:=Tryz.sizeOf3
 v3:=Tryz.zeroValue3
 t4:=Tryz.underlying4
 a4:=Tryz.isAgg4
 z4:=Tryz.sizeOf4
 v4:=Tryz.zeroValue4
 t22:=Tryz.underlying3
 a22:=Tryz.isAgg3
 z22:=Tryz.sizeOf3
 v22:=Tryz.zeroValue3}
def Tryz.oN:Go.Shelf.Ren:=⟨fun|8=>196|6=>232|n=>n,fun|22=>62|23=>116|25=>265|4=>4|3=>3|0=>0|n=>n,fun|n=>n⟩
theorem Tryz.xl:Go.Proofs.SlLaysH0.n8 Tryz.prog Tryz.oN:={
 mixed:=by kernel_rfl
 f6:=⟨Tryz.f232.name,by decide,Tryz.func232.trans (congrArg some (by kernel_rfl))⟩
 f8:=⟨Tryz.f196.name,by decide,Tryz.func196.trans (congrArg some (by kernel_rfl))⟩
 t0:=Tryz.underlying0
 a0:=Tryz.isAgg0
 z0:=Tryz.sizeOf0
 v0:=Tryz.zeroValue0
 t3:=Tryz.underlying3
 a3:=Tryz.isAgg3
 z3:=Tryz.sizeOf3
 v3:=Tryz.zeroValue3
 t4:=Tryz.underlying4
 a4:=Tryz.isAgg4
 z4:=Tryz.sizeOf4
 v4:=Tryz.zeroValue4
 t22:=Tryz.underlying62
 a22:=Tryz.isAgg62
 z22:=Tryz.sizeOf62
 v22:=Tryz.zeroValue62
 t25:=Tryz.underlying265
 a25:=Tryz.isAgg265
 z25:=Tryz.sizeOf265
 v25:=Tryz.zeroValue265}
def Tryz.fX:Go.Shelf.Ren:=⟨fun|4=>240|n=>n,fun|22=>62|25=>116|3=>3|4=>4|9=>9|20=>20|0=>0|2=>3|n=>n,fun|n=>n⟩
theorem Tryz.BA:Go.Proofs.Lays8.n4 Tryz.prog Tryz.fX:={
 mixed:=by kernel_rfl
 f4:=⟨Tryz.f240.name,by decide,Tryz.func240.trans (congrArg some (by kernel_rfl))⟩
 t0:=Tryz.underlying0
 a0:=Tryz.isAgg0
 z0:=Tryz.sizeOf0
 v0:=Tryz.zeroValue0
 t3:=Tryz.underlying3
 a3:=Tryz.isAgg3
 z3:=Tryz.sizeOf3
 v3:=Tryz.zeroValue3
 t4:=Tryz.underlying4
 a4:=Tryz.isAgg4
 z4:=Tryz.sizeOf4
 v4:=Tryz.zeroValue4
 t9:=Tryz.underlying9
 a9:=Tryz.isAgg9
 z9:=Tryz.sizeOf9
 v9:=Tryz.zeroValue9
 t20:=Tryz.underlying20
 a20:=Tryz.isAgg20
 z20:=Tryz.sizeOf20
 v20:=Tryz.zeroValue20
 t22:=Tryz.underlying62
 a22:=Tryz.isAgg62
 z22:=Tryz.sizeOf62
 v22:=Tryz.zeroValue62}
def Tryz.qy:Go.Shelf.Ren:=⟨fun|41=>82|n=>n,fun|22=>27|23=>45|4=>4|n=>n,fun|n=>n⟩
theorem Tryz.qz:Go.Proofs.SlLaysE0.n41 Tryz.prog Tryz.qy:={
 mixed:=by kernel_rfl
 f41:=⟨Tryz.f82.name,by decide,Tryz.func82.trans (congrArg some (by kernel_rfl))⟩
 t4:=Tryz.underlying4
 a4:=Tryz.isAgg4
 z4:=Tryz.sizeOf4
 v4:=Tryz.zeroValue4
 t22:=Tryz.underlying27
 a22:=Tryz.isAgg27
 z22:=Tryz.sizeOf27
 v22:=Tryz.zeroValue27}
def Tryz.xn:Go.Shelf.Ren:=⟨fun|106=>124|213=>160|265=>195|n=>n,fun|9=>9|3=>3|n=>n,fun|n=>n⟩
theorem Tryz.Lf:Go.Proofs.Lays.n106 Tryz.prog Tryz.xn:={
 mixed:=by kernel_rfl
 f106:=Tryz.func124.trans (congrArg some (by kernel_rfl))
 f213:=Tryz.func160.trans (congrArg some (by kernel_rfl))
 f265:=Tryz.func195.trans (congrArg some (by kernel_rfl))
 t3:=Tryz.underlying3
 a3:=Tryz.isAgg3
 z3:=Tryz.sizeOf3
 v3:=Tryz.zeroValue3
 t9:=Tryz.underlying9
 a9:=Tryz.isAgg9
 z9:=Tryz.sizeOf9
 v9:=Tryz.zeroValue9}
end Go.Proofs
end
namespace Go.Proofs.YtceoeaemenhbhaaGreatDoor
section
section
def beNat (l:List UInt8):Nat:=l.foldl (fun a c=>a*256+c.toNat) 0
def beBytes:Nat->Nat->List UInt8
 |0,_=>[]
 |k+1,n=>beBytes k (n/256)++[UInt8.ofNat (n%256)]
theorem jd (l:List UInt8)(c:UInt8):beNat (l++[c])=beNat l*256+c.toNat:=by simp[beNat]
theorem beBytes_length (k:Nat):∀n,(beBytes k n).length=k:=by
 induction k with
 |zero=>intro n;rfl
 |succ k ih=>intro n;simp[beBytes,ih]
theorem BB {α:Type}(l:List α)(k:Nat)(h:l.length=k+1):∃a c,l=a++[c]∧a.length=k:=by
 have hne:l≠[]:=by intro e;subst e;simp at h
 refine⟨l.dropLast,l.getLast hne,(List.dropLast_concat_getLast hne).symm,by simp[h]⟩
theorem uT (k:Nat):∀l:List UInt8,l.length=k->beNat l<256^k:=by
 induction k with
 |zero=>intro l h;rw[List.length_eq_zero_iff.1 h];decide
 |succ k ih=>
  intro l h;obtain⟨a,c,rfl,ha⟩:=BB l k h;have h1:=ih a ha;have h2:c.toNat<256:=UInt8.toNat_lt c;rw[jd,Nat.pow_succ];omega
theorem xo (l:List UInt8):beNat l<256^l.length:=uT _ l rfl
theorem jA (k:Nat):∀n,n<256^k->beNat (beBytes k n)=n:=by
 induction k with
 |zero=>intro n h;simp at h;subst h;rfl
 |succ k ih=>
  intro n h;rw[beBytes,jd,ih (n/256) (by rw[Nat.pow_succ]at h;omega)];have:(UInt8.ofNat (n%256)).toNat=n%256:=by simp
  omega
theorem xq (k:Nat):∀l:List UInt8,l.length=k->beBytes k (beNat l)=l:=by
 induction k with
 |zero=>intro l h;rw[List.length_eq_zero_iff.1 h];rfl
 |succ k ih=>
  intro l h;obtain⟨a,c,rfl,ha⟩:=BB l k h;have h2:c.toNat<256:=UInt8.toNat_lt c;rw[jd,beBytes];have e1:(beNat a*256+c.toNat)/256=beNat a:=by omega
  have e2:(beNat a*256+c.toNat)%256=c.toNat:=by omega
  rw[e1,e2,ih a ha];simp
theorem zQ (l:List UInt8)(k:Nat)(h:k<l.length):beNat (l.take (k+1))=beNat (l.take k)*256+(l[k]).toNat:=by
 rw[List.take_succ_eq_append_getElem h,jd]
theorem th (l:List UInt8)(k:Nat)(h:k<4):beNat (l.take k)<16777216:=by
 have h1:=xo (l.take k);have h2:(l.take k).length<=3:=by simp;omega
 have h3:256^(l.take k).length<=256^3:=Nat.pow_le_pow_right (by omega) h2;have h4:(256:Nat)^3=16777216:=by decide
 omega
end
section
open Go.RowKit
def bS (n:Int):Bool:=decide (n=1∨n=2∨n=4)
structure Rd (b:Nat)(s:ByteArray)(e:Int)(w:World):Prop where
 blk:w.heap[b]? =some (.cells #[.string s,.int .i64 e] 239 (0,0))
 sz:s.size<=maxLen
structure Only (b:Nat)(w w':World):Prop where
 os:w'.os=w.os
 tape:w'.tape=w.tape
 output:w'.output=w.output
 size:w'.heap.size=w.heap.size
 block:∀k,k≠b->w'.heap[k]? =w.heap[k]?
theorem Only.refl (b:Nat)(w:World):Only b w w:=⟨rfl,rfl,rfl,rfl,fun _ _=>rfl⟩
theorem Only.trans {b:Nat}{u v w:World}(h:Only b u v)(k:Only b v w):Only b u w:=
 ⟨k.os.trans h.os,k.tape.trans h.tape,k.output.trans h.output,k.size.trans h.size,fun i hi=>(k.block i hi).trans (h.block i hi)⟩
theorem Only.setCell (b o:Nat)(w:World)(v:Value):Only b w (w.setCell ⟨b,o,none⟩ v):=
 ⟨rfl,rfl,rfl,by simp[World.setCell],fun k hk=>Below.heap_setCell _ _ _ _ hk⟩
theorem Only.below {B b:Nat}{w w':World}(h:Only b w w')(hB:B<=b):Below B w w':=
 ⟨h.os,h.tape,h.output,Nat.le_of_eq h.size.symm,fun k hk=>h.block k (by omega)⟩
theorem Rd.lt {b:Nat}{s:ByteArray}{e:Int}{w:World}(h:Rd b s e w):b<w.heap.size:=by
 have:=h.blk;rw[Array.getElem?_eq_some_iff]at this;exact this.1
theorem Rd.c0 {b:Nat}{s:ByteArray}{e:Int}{w:World}(h:Rd b s e w):w.cell? ⟨b,0,none⟩=some (.string s):=by simp[World.cell?,h.blk]
theorem Rd.c1 {b:Nat}{s:ByteArray}{e:Int}{w:World}(h:Rd b s e w):w.cell? ⟨b,1,none⟩=some (.int .i64 e):=by simp[World.cell?,h.blk]
theorem Rd.f0 {b:Nat}{s:ByteArray}{e:Int}{w:World}(h:Rd b s e w):w.frozen? ⟨b,0,none⟩=false:=by simp[World.frozen?,h.blk]
theorem Rd.f1 {b:Nat}{s:ByteArray}{e:Int}{w:World}(h:Rd b s e w):w.frozen? ⟨b,1,none⟩=false:=by simp[World.frozen?,h.blk]
theorem Rd.set0 {b:Nat}{s:ByteArray}{e:Int}{w:World}(h:Rd b s e w)(t:ByteArray)(ht:t.size<=maxLen):Rd b t e (w.setCell ⟨b,0,none⟩ (.string t)):=
 ⟨by simp[World.setCell,Array.getElem?_modify,h.blk],ht⟩
theorem Rd.set1 {b:Nat}{s:ByteArray}{e:Int}{w:World}(h:Rd b s e w)(n:Int):Rd b s n (w.setCell ⟨b,1,none⟩ (.int .i64 n)):=
 ⟨by simp[World.setCell,Array.getElem?_modify,h.blk],h.sz⟩
theorem Rd.below {b B:Nat}{s:ByteArray}{e:Int}{w w':World}(h:Rd b s e w)(k:Below B w w')(hb:b<B):Rd b s e w':=⟨(k.block b hb).trans h.blk,h.sz⟩
theorem Rd.made (s:ByteArray)(hs:s.size<=maxLen)(w:World):Rd w.heap.size s 0 (w.alloc (.cells #[.string s,.int .i64 0] 239)):=
 ⟨by show(w.heap.push _)[w.heap.size]? =_;simp,hs⟩
theorem qC {a b:Bool}(h:a=b):Ending.returned (.bool a)=.returned (.bool b):=by rw[h]
theorem j5 {k:IntKind}{a b:Int}(h:a=b):Ending.returned (.int k a)=.returned (.int k b):=by rw[h]
theorem dw (n:Int)(w:World):
  Calls Tryz.prog 146 #[.int .i64 n] w fun e w'=>e=.returned (.bool (bS n))∧w=w':=by
 by_cases h1:n=1
 ·subst h1;go_enter Tryz.func146,Tryz.ntmps146;go_wp2;go_ret;exact⟨rfl,rfl⟩
 ·by_cases h2:n=2
  ·subst h2;go_enter Tryz.func146,Tryz.ntmps146;go_wp2;go_ret;exact⟨rfl,rfl⟩
  ·by_cases h4:n=4
   ·subst h4;go_enter Tryz.func146,Tryz.ntmps146;go_wp2;go_ret;exact⟨rfl,rfl⟩
   ·have e1:(n==1)=false:=beq_eq_false_iff_ne.2 h1;have e2:(n==2)=false:=beq_eq_false_iff_ne.2 h2;have e4:(n==4)=false:=beq_eq_false_iff_ne.2 h4;have hs:bS n=false:=by simp[bS,h1,h2,h4]
    have HS:Hid (bS n=false):=hs;clear hs h1 h2 h4;go_enter Tryz.func146,Tryz.ntmps146;go_wp2;go_ret;exact⟨qC HS.out.symm,rfl⟩
theorem jB (b:Nat)(s:ByteArray)(e:Int)(w:World)(h:Rd b s e w):
  Calls Tryz.prog 200 #[.pointer (some ⟨b,0,none⟩)] w fun r w'=>r=.returned (.int .i64 s.size)∧w=w':=by
 have c0:=h.c0;have c1:=h.c1;have f0:=h.f0;have f1:=h.f1;have lt:=h.lt;clear h;go_enter Tryz.func200,Tryz.ntmps200;go_wp2;go_ret;exact⟨rfl,rfl⟩
theorem lT (b:Nat)(s:ByteArray)(e:Int)(w:World)(h:Rd b s e w):
  Calls Tryz.prog 199 #[.pointer (some ⟨b,0,none⟩)] w fun r w'=>r=.returned (.int .i64 e)∧w=w':=by
 have c0:=h.c0;have c1:=h.c1;have f0:=h.f0;have f1:=h.f1;have lt:=h.lt;clear h;go_enter Tryz.func199,Tryz.ntmps199;go_wp2;go_ret;exact⟨rfl,rfl⟩
theorem qD (s:ByteArray)(w:World):
  Calls Tryz.prog 142 #[.string s] w fun r w'=>r=.returned (.pointer (some ⟨w.heap.size,0,none⟩))∧w'=w.alloc (.cells #[.string s,.int .i64 0] 239):=by
 go_enter Tryz.func142,Tryz.ntmps142;go_wp2;go_ret;exact⟨rfl,rfl⟩
theorem uU (b:Nat)(s:ByteArray)(n:Int)(w:World)(h:Rd b s 0 w):
  Calls Tryz.prog 169 #[.pointer (some ⟨b,0,none⟩),.int .i64 n] w fun r w'=>r=.returned (.tuple #[])∧w'=w.setCell ⟨b,1,none⟩ (.int .i64 n):=by
 have c0:=h.c0;have c1:=h.c1;have f0:=h.f0;have f1:=h.f1;have lt:=h.lt;clear h;go_enter Tryz.func169,Tryz.ntmps169;go_wp2
 go_end0
 exact⟨rfl,rfl⟩
theorem Lg (b:Nat)(s:ByteArray)(e n:Int)(w:World)(h:Rd b s e w)(he:e≠0):
  Calls Tryz.prog 169 #[.pointer (some ⟨b,0,none⟩),.int .i64 n] w fun r w'=>r=.returned (.tuple #[])∧w=w':=by
 have c0:=h.c0;have c1:=h.c1;have f0:=h.f0;have f1:=h.f1;have lt:=h.lt;clear h;have e1:(e==0)=false:=beq_eq_false_iff_ne.2 he;clear he;go_enter Tryz.func169,Tryz.ntmps169;go_wp2
 go_end0
 exact⟨rfl,rfl⟩
def aN (s:ByteArray)(e n:Int):ByteArray×ByteArray×Int:=
 if e≠0 then(ByteArray.empty,s,e)else if n<0 then(ByteArray.empty,s,1)else if(s.size:Int)<n then(ByteArray.empty,s,10)else(s.extract 0 n.toNat,s.extract n.toNat s.size,0)
theorem gG (b:Nat)(s:ByteArray)(e n:Int)(w:World)(h:Rd b s e w):
  Calls Tryz.prog 143 #[.pointer (some ⟨b,0,none⟩),.int .i64 n] w fun r w'=>r=.returned (.string (aN s e n).1)∧Rd b (aN s e n).2.1 (aN s e n).2.2 w'∧Only b w w':=by
 have c0:=h.c0;have c1:=h.c1;have f0:=h.f0;have f1:=h.f1;have lt:=h.lt;have sz:=h.sz;have H:Hid (Rd b s e w):=h;clear h;by_cases he:e=0
 ·subst he;by_cases hn:n<0
  ·have E:Hid (aN s 0 n=(ByteArray.empty,s,1)):=by simp[Hid,aN,hn]
   go_enter Tryz.func143,Tryz.ntmps143
   go_wp2_with (go_at_call 169;refine(uU b s _ _ H.out).mono ?_;rintro e w' ⟨rfl,rfl⟩)
   go_ret;rw[E.out];exact⟨rfl,H.out.set1 _,Only.setCell _ _ _ _⟩
  ·by_cases hl:(s.size:Int)<n
   ·have E:Hid (aN s 0 n=(ByteArray.empty,s,10)):=by simp[Hid,aN,hn,hl]
    go_enter Tryz.func143,Tryz.ntmps143
    go_wp2_with (go_at_call 169;refine(uU b s _ _ H.out).mono ?_;rintro e w' ⟨rfl,rfl⟩)
    go_ret;rw[E.out];exact⟨rfl,H.out.set1 _,Only.setCell _ _ _ _⟩
   ·have E:Hid (aN s 0 n=(s.extract 0 n.toNat,s.extract n.toNat s.size,0)):=by simp[Hid,aN,hn,hl]
    obtain⟨m,rfl⟩:=Int.eq_ofNat_of_zero_le (Int.not_lt.1 hn);have hm:m<=s.size:=by omega
    go_enter Tryz.func143,Tryz.ntmps143;go_wp2;go_ret;rw[E.out];refine⟨?_,?_,?_⟩
    ·rfl
    ·exact H.out.set0 _ (by simp;omega)
    ·exact Only.setCell _ _ _ _
 ·have E:Hid (aN s e n=(ByteArray.empty,s,e)):=by simp[Hid,aN,he]
  have e1:(e != 0)=true:=by rw[bne_iff_ne];exact he
  clear he;go_enter Tryz.func143,Tryz.ntmps143;go_wp2;go_ret;rw[E.out];exact⟨rfl,H.out,Only.refl _ _⟩
end
section
open Go.RowKit
theorem zR (a b:Nat)(ha:a<4611686018427387904)(hb:b<4611686018427387904):bits .or .i64 (a:Int) (b:Int)=((a|||b:Nat):Int):=by
 have hx:a|||b<2^62:=Nat.or_lt_two_pow (by omega) (by omega)
 show IntKind.i64.wrap ((BitVec.ofInt 64 (a:Int)|||BitVec.ofInt 64 (b:Int)).toNat:Int)=_;rw[BitVec.toNat_or,ofInt_u64 a (by omega),ofInt_u64 b (by omega),IntKind.wrap_i64];omega
theorem Lh (m c:Nat)(hm:m<16777216)(hc:c<256):Value.int .i64 (bits .or .i64 ((m:Int)*256) (wrap64 (c:Int)))=.int .i64 ((m*256+c:Nat):Int):=by
 have e1:wrap64 (c:Int)=(c:Int):=by unfold wrap64;omega
 have e2:((m:Int)*256)=((m*256:Nat):Int):=by omega
 rw[e1,e2,zR _ _ (by omega) (by omega),nat_join 8 _ _ (by omega) (by omega)]
def gP (s:ByteArray)(e:Int):Int:=if e≠0 then e else if s.size=0 then 0 else 11
theorem oZ (b:Nat)(s:ByteArray)(e:Int)(w:World)(h:Rd b s e w):
  Calls Tryz.prog 202 #[.pointer (some ⟨b,0,none⟩)] w fun r w'=>r=.returned (.int .i64 (gP s e))∧w=w':=by
 have H:Hid (Rd b s e w):=h;have sz:=h.sz;clear h;by_cases he:e=0
 ·subst he;by_cases hs:s.size=0
  ·have E:Hid (gP s 0=0):=by simp[Hid,gP,hs]
   have hs':¬(0:Int)< (s.size:Int):=by omega
   clear hs;go_enter Tryz.func202,Tryz.ntmps202
   go_wp2_with (first| (go_at_call 199;refine(lT b s _ _ H.out).mono ?_;rintro e w' ⟨rfl,rfl⟩)| (go_at_call 200;refine(jB b s _ _ H.out).mono ?_;rintro e w' ⟨rfl,rfl⟩))
   go_ret;exact⟨j5 E.out.symm,rfl⟩
  ·have E:Hid (gP s 0=11):=by simp[Hid,gP,hs]
   have hs':(0:Int)< (s.size:Int):=by omega
   clear hs;go_enter Tryz.func202,Tryz.ntmps202
   go_wp2_with (first| (go_at_call 199;refine(lT b s _ _ H.out).mono ?_;rintro e w' ⟨rfl,rfl⟩)| (go_at_call 200;refine(jB b s _ _ H.out).mono ?_;rintro e w' ⟨rfl,rfl⟩))
   go_ret;exact⟨j5 E.out.symm,rfl⟩
 ·have E:Hid (gP s e=e):=by simp[Hid,gP,he]
  have e1:(e != 0)=true:=by rw[bne_iff_ne];exact he
  clear he;go_enter Tryz.func202,Tryz.ntmps202
  go_wp2_with (first| (go_at_call 199;refine(lT b s _ _ H.out).mono ?_;rintro e w' ⟨rfl,rfl⟩)| (go_at_call 200;refine(jB b s _ _ H.out).mono ?_;rintro e w' ⟨rfl,rfl⟩))
  go_ret;exact⟨j5 E.out.symm,rfl⟩
def cA (s:ByteArray)(e n:Int):Int×ByteArray×Int:=
 if bS n=false then(0,s,if e≠0 then e else 1)else((beNat (aN s e n).1.data.toList:Int),(aN s e n).2.1,(aN s e n).2.2)
theorem xr (s:ByteArray)(e n:Int)(h:bS n=true):(aN s e n).1.size<=4:=by
 have:n=1∨n=2∨n=4:=by simpa[bS]using h
 unfold aN;split
 ·simp
 ·split
  ·simp
  ·split
   ·simp
   ·simp;omega
theorem lU (b:Nat)(s:ByteArray)(e n:Int)(w:World)(h:Rd b s e w):
  Calls Tryz.prog 144 #[.pointer (some ⟨b,0,none⟩),.int .i64 n] w fun r w'=>r=.returned (.int .i64 (cA s e n).1)∧Rd b (cA s e n).2.1 (cA s e n).2.2 w'∧Only b w w':=by
 have H:Hid (Rd b s e w):=h;have sz:=h.sz;clear h;cases hz:bS n
 ·by_cases he:e=0
  ·subst he;have E:Hid (cA s 0 n=(0,s,1)):=by simp[Hid,cA,hz]
   go_enter Tryz.func144,Tryz.ntmps144
   go_wp2_with (first| (go_at_call 146;refine(dw _ _).mono ?_;rintro e w' ⟨rfl,rfl⟩)| (go_at_call 169;refine(uU b s _ _ H.out).mono ?_;rintro e w' ⟨rfl,rfl⟩))
   go_ret;rw[E.out];exact⟨rfl,H.out.set1 _,Only.setCell _ _ _ _⟩
  ·have E:Hid (cA s e n=(0,s,e)):=by simp[Hid,cA,hz,he]
   go_enter Tryz.func144,Tryz.ntmps144
   go_wp2_with (first| (go_at_call 146;refine(dw _ _).mono ?_;rintro e w' ⟨rfl,rfl⟩)| (go_at_call 169;refine(Lg b s _ _ _ H.out he).mono ?_;rintro e w' ⟨rfl,rfl⟩))
   go_ret;rw[E.out];exact⟨rfl,H.out,Only.refl _ _⟩
 ·have E:Hid (cA s e n=((beNat (aN s e n).1.data.toList:Int),(aN s e n).2.1,(aN s e n).2.2)):=by simp[Hid,cA,hz]
  have h4:=xr s e n hz;have C:=gG b s e n w H.out
  revert C E h4
  generalize aN s e n=t;obtain⟨x,s',e'⟩:=t;intro E h4 C0;have C:Hid _:=C0;clear C0;simp only at h4;go_enter Tryz.func144,Tryz.ntmps144
  go_wp2_with (first| (go_at_call 146;refine(dw _ _).mono ?_;rintro e w' ⟨rfl,rfl⟩)| (go_at_call 143;refine Calls.mono C.out ?_;rintro e w' ⟨rfl,hr,ho⟩))
  go_loop [6,18] (fun v i=>∃k:Nat,k<=x.size∧i=.int .i64 k∧v=.int .i64 (beNat (x.data.toList.take k))) (fun _ i=>x.size- (intOf i).toNat)
  case atStart=>exact⟨0,Nat.zero_le _,rfl,rfl⟩
  case round=>
   obtain⟨k,hk,rfl,rfl⟩:=hrel;by_cases hlt:k<x.size
   ·have T:Hid (beNat (x.data.toList.take (k+1))=beNat (x.data.toList.take k)*256+x[k].toNat):=zQ x.data.toList k (by simpa using hlt);have B:=th x.data.toList k (by omega);go_wp2;have C8:x[k].toNat<256:=UInt8.toNat_lt _;refine⟨⟨k+1,by omega,by go_num,?_⟩,by simp[intOf];omega⟩;rw[T.out,Lh _ _ B C8]
   ·have T:Hid (x.data.toList.take k=x.data.toList):=List.take_of_length_le (by simp;omega);go_wp2;go_ret;rw[E.out];exact⟨j5 (by rw[T.out]),hr,ho⟩
end
section
open Go.RowKit
def fL (size n:Int):Bool:=bS size&&decide (0<=n∧n< ((256^size.toNat:Nat):Int))
def mW (size n:Int):List UInt8:=if fL size n=true then beBytes size.toNat n.toNat else []
def mX (size n:Int):Int:=if fL size n=true then 0 else 1
theorem FU (size n:Int)(w:World)(h:bS size=false):
  Calls Tryz.prog 109 #[.int .i64 size,.int .i64 n] w fun r w'=>r=.returned (.tuple #[.string ⟨#[]⟩,.int .i64 1])∧w=w':=by
 go_enter Tryz.func109,Tryz.ntmps109
 go_wp2_with (go_at_call 146;refine(dw _ _).mono ?_;rintro e w' ⟨rfl,rfl⟩)
 go_ret2;exact⟨rfl,rfl⟩
theorem Li (size n:Int)(w:World)(h:bS size=true)(hn:n<0):
  Calls Tryz.prog 109 #[.int .i64 size,.int .i64 n] w fun r w'=>r=.returned (.tuple #[.string ⟨#[]⟩,.int .i64 1])∧w=w':=by
 go_enter Tryz.func109,Tryz.ntmps109
 go_wp2_with (go_at_call 146;refine(dw _ _).mono ?_;rintro e w' ⟨rfl,rfl⟩)
 go_ret2;exact⟨rfl,rfl⟩
theorem FV (n:Int)(w:World)(hn:¬n<0)(hb:(n/256 != 0)=true):
  Calls Tryz.prog 109 #[.int .i64 1,.int .i64 n] w fun r w'=>r=.returned (.tuple #[.string ⟨#[]⟩,.int .i64 1])∧w=w':=by
 have h:bS 1=true:=rfl;go_enter Tryz.func109,Tryz.ntmps109
 go_wp2_with (go_at_call 146;refine(dw _ _).mono ?_;rintro e w' ⟨rfl,rfl⟩)
 go_ret2;exact⟨rfl,rfl⟩
theorem FW (n:Int)(w:World)(hn:¬n<0)(hb:(n/65536 != 0)=true):
  Calls Tryz.prog 109 #[.int .i64 2,.int .i64 n] w fun r w'=>r=.returned (.tuple #[.string ⟨#[]⟩,.int .i64 1])∧w=w':=by
 have h:bS 2=true:=rfl;go_enter Tryz.func109,Tryz.ntmps109
 go_wp2_with (go_at_call 146;refine(dw _ _).mono ?_;rintro e w' ⟨rfl,rfl⟩)
 go_ret2;exact⟨rfl,rfl⟩
theorem FX (n:Int)(w:World)(hn:¬n<0)(hb:(n/4294967296 != 0)=true):
  Calls Tryz.prog 109 #[.int .i64 4,.int .i64 n] w fun r w'=>r=.returned (.tuple #[.string ⟨#[]⟩,.int .i64 1])∧w=w':=by
 have h:bS 4=true:=rfl;go_enter Tryz.func109,Tryz.ntmps109
 go_wp2_with (go_at_call 146;refine(dw _ _).mono ?_;rintro e w' ⟨rfl,rfl⟩)
 go_ret2;exact⟨rfl,rfl⟩
theorem qE (l:List UInt8)(cs:Array Value)(w:World)(m c:Nat)(hcs:cs=(l.map fun b=>Value.int .u8 (b.toNat:Int)).toArray)(hm:m=l.length):
  Sem.run Tryz.prog (convert 165 9 (.slice (some ⟨w.heap.size,0,none⟩) m c)) (w.alloc (.cells cs 5))=.ok (.string ⟨l.toArray⟩) (w.alloc (.cells cs 5)):=by
 subst hm;refine run_convert_bytes_back _ 165 9 5 _ c l Tryz.underlying165 Tryz.underlying5 Tryz.underlying9 (fun j hj=>?_);have e:(⟨w.heap.size,0,none⟩:Addr).add j=⟨w.heap.size,j,none⟩:=by simp[Addr.add];intro h;omega
 rw[e,World.cell?_alloc_at cs 5 _ j rfl,hcs];simp[List.getElem?_eq_getElem hj]
theorem UO (n:Nat)(w:World)(hn:n<256):
  Calls Tryz.prog 109 #[.int .i64 1,.int .i64 n] w fun r w'=>r=.returned (.tuple #[.string ⟨(beBytes 1 n).toArray⟩,.int .i64 0])∧Below w.heap.size w w':=by
 have h:bS 1=true:=rfl;have hb:(((n:Int)/256) != 0)=false:=by simp;omega
 have hn0:¬(n:Int)<0:=by omega
 have hmk:∀w,(Instr.makeSlice 165 (.int .i64 1) (.int .i64 1)).run Tryz.prog w=.ok (.slice (some ⟨w.heap.size,0,none⟩) 1 1) (w.alloc (.cells #[.int .u8 0] 5)):=fun _=>by kernel_rfl
 have hcv:=qE (beBytes 1 n) #[.int .u8 (n:Int)] w 1 1 (by simp[beBytes];omega) (beBytes_length _ _).symm;go_enter Tryz.func109,Tryz.ntmps109
 go_wp2_with (go_at_call 146;refine(dw _ _).mono ?_;rintro e w' ⟨rfl,rfl⟩)
 refine wp_loop_rounds 2 ?_
 repeat any_goals (rw[rounds_succ];go_wp2)
 go_ret2;exact⟨rfl,(Below.refl _ _).alloc (Nat.le_refl _) _⟩
theorem UQ (n:Nat)(w:World)(hn:n<65536):
  Calls Tryz.prog 109 #[.int .i64 2,.int .i64 n] w fun r w'=>r=.returned (.tuple #[.string ⟨(beBytes 2 n).toArray⟩,.int .i64 0])∧Below w.heap.size w w':=by
 have h:bS 2=true:=rfl;have hb:(((n:Int)/65536) != 0)=false:=by simp;omega
 have hn0:¬(n:Int)<0:=by omega
 have hmk:∀w,(Instr.makeSlice 165 (.int .i64 2) (.int .i64 2)).run Tryz.prog w=.ok (.slice (some ⟨w.heap.size,0,none⟩) 2 2) (w.alloc (.cells #[.int .u8 0,.int .u8 0] 5)):=fun _=>by kernel_rfl
 have hcv:=qE (beBytes 2 n) #[.int .u8 ((n:Int)/256),.int .u8 ((n:Int)%256)] w 2 2 (by simp[beBytes];omega) (beBytes_length _ _).symm;go_enter Tryz.func109,Tryz.ntmps109
 go_wp2_with (go_at_call 146;refine(dw _ _).mono ?_;rintro e w' ⟨rfl,rfl⟩)
 refine wp_loop_rounds 3 ?_
 repeat any_goals (rw[rounds_succ];go_wp2)
 go_ret2;exact⟨rfl,(Below.refl _ _).alloc (Nat.le_refl _) _⟩
theorem PM (n:Nat)(w:World)(hn:n<4294967296):
  Calls Tryz.prog 109 #[.int .i64 4,.int .i64 n] w fun r w'=>r=.returned (.tuple #[.string ⟨(beBytes 4 n).toArray⟩,.int .i64 0])∧Below w.heap.size w w':=by
 have h:bS 4=true:=rfl;have hb:(((n:Int)/4294967296) != 0)=false:=by simp;omega
 have hn0:¬(n:Int)<0:=by omega
 have hmk:∀w,(Instr.makeSlice 165 (.int .i64 4) (.int .i64 4)).run Tryz.prog w=.ok (.slice (some ⟨w.heap.size,0,none⟩) 4 4) (w.alloc (.cells #[.int .u8 0,.int .u8 0,.int .u8 0,.int .u8 0] 5)):=fun _=>by kernel_rfl
 have hcv:=qE (beBytes 4 n) #[.int .u8 ((n:Int)/16777216),.int .u8 ((n:Int)/65536%256),.int .u8 ((n:Int)/256%256),.int .u8 ((n:Int)%256)] w 4 4 (by simp[beBytes];omega) (beBytes_length _ _).symm;go_enter Tryz.func109,Tryz.ntmps109
 go_wp2_with (go_at_call 146;refine(dw _ _).mono ?_;rintro e w' ⟨rfl,rfl⟩)
 refine wp_loop_rounds 5 ?_
 repeat any_goals (rw[rounds_succ];go_wp2)
 go_ret2;exact⟨rfl,(Below.refl _ _).alloc (Nat.le_refl _) _⟩
theorem qF {size n:Int}{r:Ending}{w w':World}(hp:fL size n=false)(h:r=.returned (.tuple #[.string ⟨#[]⟩,.int .i64 1])∧w=w'):
  r=.returned (.tuple #[.string ⟨(mW size n).toArray⟩,.int .i64 (mX size n)])∧Below w.heap.size w w':=by
 obtain⟨rfl,rfl⟩:=h;simp[mW,mX,hp,Below.refl]
theorem uV {size n:Int}{r:Ending}{w w':World}(k m:Nat)(hk:size=k)(hm:n=m)(hp:fL size n=true)(h:r=.returned (.tuple #[.string ⟨(beBytes k m).toArray⟩,.int .i64 0])∧Below w.heap.size w w'):
  r=.returned (.tuple #[.string ⟨(mW size n).toArray⟩,.int .i64 (mX size n)])∧Below w.heap.size w w':=by
 obtain⟨rfl,hb⟩:=h;subst hk hm;simp[mW,mX,hp,hb]
theorem lV (size n:Int)(w:World):
  Calls Tryz.prog 109 #[.int .i64 size,.int .i64 n] w fun r w'=>r=.returned (.tuple #[.string ⟨(mW size n).toArray⟩,.int .i64 (mX size n)])∧Below w.heap.size w w':=by
 cases hz:bS size
 ·exact(FU size n w hz).mono fun r w' h=>qF (by simp[fL,hz]) h
 ·by_cases hn:n<0
  ·exact(Li size n w hz hn).mono fun r w' h=>qF (by simp[fL];intro _ _;omega) h
  ·obtain⟨m,rfl⟩:=Int.eq_ofNat_of_zero_le (Int.not_lt.1 hn);have hs:size=1∨size=2∨size=4:=by simpa[bS]using hz
   rcases hs with rfl|rfl|rfl
   ·by_cases hb:m<256
    ·exact(UO m w hb).mono fun r w' h=>uV 1 m rfl rfl (by simp[fL,hz];omega) h
    ·exact(FV m w hn (by rw[bne_iff_ne];omega)).mono fun r w' h=>qF (by simp[fL];omega) h
   ·by_cases hb:m<65536
    ·exact(UQ m w hb).mono fun r w' h=>uV 2 m rfl rfl (by simp[fL,hz];omega) h
    ·exact(FW m w hn (by rw[bne_iff_ne];omega)).mono fun r w' h=>qF (by simp[fL];omega) h
   ·by_cases hb:m<4294967296
    ·exact(PM m w hb).mono fun r w' h=>uV 4 m rfl rfl (by simp[fL,hz];omega) h
    ·exact(FX m w hn (by rw[bne_iff_ne];omega)).mono fun r w' h=>qF (by simp[fL];omega) h
end
section
open Go.RowKit
def cat (xs:List ByteArray):List UInt8:=(xs.map (·.data.toList)).flatten
theorem xt (xs:List ByteArray):Lib.join (xs.map (·.data.toList)) (ByteArray.data ⟨#[]⟩).toList=cat xs:=by
 cases xs with
 |nil=>rfl
 |cons x r=>
  rw[List.map_cons,Lib.join_cons];simp[cat,Lib.joinTail];rfl
theorem qG (bk o c m:Nat)(xs:List ByteArray)(w:World)(hcells:∀(j:Nat) x,xs[j]? =some x->w.cell? ⟨bk,o+j,none⟩=some (.string x))(hbk:bk<w.heap.size)(hm:xs.length=m)(hN:xs.length<=140737488355328)(hcap:xs.length<=c)(hlen:(cat xs).length<=140737488355328):
  Calls Tryz.prog 108 #[.slice (some ⟨bk,o,none⟩) m c] w fun r w'=>r=.returned (.string ⟨(cat xs).toArray⟩)∧Below w.heap.size w w':=by
 subst hm;have C:Hid _:=Tryz.strings_Join bk o c xs ⟨#[]⟩ w hcells hbk hN hcap (by rw[xt];exact hlen);rw[xt]at C;clear hcells hlen;go_enter Tryz.func108,Tryz.ntmps108
 go_wp2_with (go_at_call 145;refine Calls.mono C.out ?_;rintro e w' ⟨rfl,hb⟩)
 go_ret;exact⟨rfl,hb⟩
theorem join_none (a:Option Addr)(c:Nat)(w:World):
  Calls Tryz.prog 108 #[.slice a 0 c] w fun r w'=>r=.returned (.string ⟨#[]⟩)∧w=w':=by
 go_enter Tryz.func108,Tryz.ntmps108
 go_wp2_with (go_at_call 145;refine(Tryz.strings_Join_none a c _ w).mono ?_;rintro e w' ⟨rfl,rfl⟩)
 go_ret;exact⟨rfl,rfl⟩
theorem UR (x y:ByteArray)(w:World)(hl:x.size+y.size<=140737488355328):
  Calls Tryz.prog 108 #[.slice (some ⟨w.heap.size,0,none⟩) 2 2] (w.alloc (.cells #[.string x,.string y] 9)) fun r w'=>r=.returned (.string ⟨(x.data.toList++y.data.toList).toArray⟩)∧Below w.heap.size w w':=by
 have hc:cat [x,y]=x.data.toList++y.data.toList:=by simp[cat]
 have h:=qG w.heap.size 0 2 2 [x,y] (w.alloc (.cells #[.string x,.string y] 9)) (fun j z hj=>?_) (by simp) rfl (by simp) (by simp) (by rw[hc];simpa using hl)
 ·rw[hc]at h;exact h.mono fun r w' ⟨a,b⟩=>⟨a,((Below.refl _ _).alloc (Nat.le_refl _) _).trans (b.mono (by simp))⟩
 ·rw[World.cell?_alloc_at _ 9 _ (0+j) rfl,Nat.zero_add]
  match j,hj with
  |0,hj=>simp at hj⊢;exact hj
  |1,hj=>simp at hj⊢;exact hj
end
section
open Go.RowKit
theorem PN (s:ByteArray):s=⟨s.data.toList.toArray⟩:=by cases s;simp
theorem lX (l:List UInt8):(⟨l.toArray⟩:ByteArray).size=l.length:=by simp[ByteArray.size]
theorem qH {s t:ByteArray}(h:s.data.toList=t.data.toList):s=t:=ByteArray.ext (Array.toList_inj.1 h)
theorem Lj (l r:List UInt8):(⟨(l++r).toArray⟩:ByteArray).extract 0 l.length=⟨l.toArray⟩:=by
 apply qH;rw[Lib.extract_data];simp
theorem Lk (l r:List UInt8):(⟨(l++r).toArray⟩:ByteArray).extract l.length (l.length+r.length)=⟨r.toArray⟩:=by
 apply qH;rw[Lib.extract_data];simp
theorem eo (l r:List UInt8)(n:Int)(h:n=l.length):aN ⟨(l++r).toArray⟩ 0 n=(⟨l.toArray⟩,⟨r.toArray⟩,0):=by
 subst h;have h1:¬(l.length:Int)<0:=by omega
 have h2:¬(((⟨(l++r).toArray⟩:ByteArray).size:Int)<l.length):=by rw[lX,List.length_append];omega
 have h3:(⟨(l++r).toArray⟩:ByteArray).size=l.length+r.length:=by rw[lX,List.length_append]
 unfold aN;rw[if_neg (by simp),if_neg h1,if_neg h2,Int.toNat_natCast,h3,Lj,Lk]
theorem gH (l r:List UInt8)(n:Int)(h:n=l.length)(hz:bS n=true):cA ⟨(l++r).toArray⟩ 0 n=((beNat l:Int),⟨r.toArray⟩,0):=by
 unfold cA;rw[eo l r n h];simp[hz]
theorem ov (s:ByteArray)(e n:Int)(h:(aN s e n).2.2=0):
  e=0∧∃l r:List UInt8,s=⟨(l++r).toArray⟩∧n=(l.length:Int)∧aN s e n=(⟨l.toArray⟩,⟨r.toArray⟩,0):=by
 by_cases he:e=0
 ·refine⟨he,?_⟩;subst he;by_cases h1:n<0
  ·simp[aN,h1]at h
  ·by_cases h2:(s.size:Int)<n
   ·simp[aN,h1,h2]at h
   ·obtain⟨k,rfl⟩:=Int.eq_ofNat_of_zero_le (Int.not_lt.1 h1);have hk:k<=s.data.toList.length:=by
     have:=Lib.size_eq s;omega
    have hl:(s.data.toList.take k).length=k:=by simp at hk⊢;omega
    have hs:s=⟨(s.data.toList.take k++s.data.toList.drop k).toArray⟩:=by rw[List.take_append_drop]
    refine⟨s.data.toList.take k,s.data.toList.drop k,hs,by rw[hl],?_⟩;have:=eo (s.data.toList.take k) (s.data.toList.drop k) (k:Int) (by rw[hl]);rw[<-hs]at this;exact this
 ·simp[aN,he]at h
theorem mY (s:ByteArray)(e n:Int)(h:(cA s e n).2.2=0):
  e=0∧bS n=true∧∃l r:List UInt8,s=⟨(l++r).toArray⟩∧n=(l.length:Int)∧cA s e n=((beNat l:Int),⟨r.toArray⟩,0):=by
 cases hz:bS n
 ·exfalso;by_cases he:e=0<;>simp[cA,hz,he]at h
 ·have h':(aN s e n).2.2=0:=by simpa[cA,hz]using h
  obtain⟨he,l,r,hs,hn,_⟩:=ov s e n h';subst he;refine⟨rfl,rfl,l,r,hs,hn,?_⟩;rw[hs];exact gH l r n hn hz
end
section
open Go.RowKit
end
section
def oO (c:Nat):Nat:=if c%2=1 then c/2^^^3988292384 else c/2
def je (c:Nat):Nat:=oO (oO (oO (oO c)))
def fj (c:Nat):Nat:=je (je c)
def gQ (c b:Nat):Nat:=fj (c^^^b)
def lY (c:Nat)(l:List UInt8):Nat:=l.foldl (fun c b=>gQ c b.toNat) c
def kT (l:List UInt8):Nat:=lY 4294967295 l^^^4294967295
theorem xor_left_comm (x y z:Nat):x^^^(y^^^z)=y^^^(x^^^z):=by
 rw[<-Nat.xor_assoc,Nat.xor_comm x y,Nat.xor_assoc]
theorem jC {x y:Nat}(hx:x<4294967296)(hy:y<4294967296):x^^^y<4294967296:=Nat.xor_lt_two_pow (n:=32) hx hy
theorem lZ (x y:Nat):oO (x^^^y)=oO x^^^oO y:=by
 have hm:=@Nat.xor_mod_two_eq_one x y;have hd:=@Nat.xor_div_two x y;unfold oO;rw[hd];by_cases h1:x%2=1<;>by_cases h2:y%2=1
 ·rw[if_neg (by rw[hm];simp[h1,h2]),if_pos h1,if_pos h2];rw[Nat.xor_assoc,xor_left_comm 3988292384,Nat.xor_self,Nat.xor_zero]
 ·rw[if_pos (by rw[hm];simp[h1,h2]),if_pos h1,if_neg h2];rw[Nat.xor_assoc,Nat.xor_assoc,Nat.xor_comm (y/2)]
 ·rw[if_pos (by rw[hm];simp[h1,h2]),if_neg h1,if_pos h2];rw[Nat.xor_assoc]
 ·rw[if_neg (by rw[hm];simp[h1,h2]),if_neg h1,if_neg h2]
theorem j6 (x:Nat):oO (2*x)=x:=by
 unfold oO;rw[if_neg (by omega)];omega
theorem o0 {c:Nat}(h:c<4294967296):oO c<4294967296:=by
 unfold oO;split
 ·exact jC (by omega) (by decide)
 ·omega
theorem qI (x y:Nat):je (x^^^y)=je x^^^je y:=by
 unfold je;rw[lZ,lZ,lZ,lZ]
theorem mZ (x:Nat):je (16*x)=x:=by
 unfold je;rw[show 16*x=2*(2*(2*(2*x))) by omega,j6,j6,j6,j6]
theorem po {c:Nat}(h:c<4294967296):je c<4294967296:=o0 (o0 (o0 (o0 h)))
theorem fY (x y:Nat):fj (x^^^y)=fj x^^^fj y:=by
 unfold fj;rw[qI,qI]
theorem gI (x:Nat):fj (256*x)=x:=by
 unfold fj;rw[show 256*x=16*(16*x) by omega,mZ,mZ]
theorem Ll {c:Nat}(h:c<4294967296):fj c<4294967296:=po (po h)
theorem Lm {i b:Nat}(h:b<2^i)(a:Nat):2^i*a+b=2^i*a^^^b:=by
 apply Nat.eq_of_testBit_eq;intro j;rw[Nat.testBit_two_pow_mul_add _ h,Nat.testBit_xor,Nat.testBit_two_pow_mul];by_cases hj:j<i
 ·simp[hj,Nat.not_le.2 hj]
 ·have hb:b.testBit j=false:=Nat.testBit_lt_two_pow (Nat.lt_of_lt_of_le h (Nat.pow_le_pow_right (by decide) (by omega)));simp[hj,hb,Nat.le_of_not_lt hj]
theorem nib (c:Nat):c=(16*(c/16))^^^(c%16):=by
 have h:2^4*(c/16)+c%16=2^4*(c/16)^^^c%16:=Lm (Nat.mod_lt _ (by decide)) _;have h2:=Nat.div_add_mod c 16;simp only[Nat.reducePow]at h;omega
theorem DR (c:Nat):c/16^^^je (c%16)=je c:=by
 conv=>rhs;rw[nib c,qI,mZ]
theorem xu {c b:Nat}(hc:c<4294967296)(hb:b<256):gQ c b<4294967296:=Ll (jC hc (by omega))
theorem tU (c:Nat)(l m:List UInt8):lY c (l++m)=lY (lY c l) m:=List.foldl_append
theorem FY {c:Nat}(hc:c<4294967296)(l:List UInt8):lY c l<4294967296:=by
 induction l generalizing c with
 |nil=>exact hc
 |cons b l ih=>exact ih (xu hc b.toNat_lt)
theorem Ln (l:List UInt8):kT l<4294967296:=jC (FY (by decide) l) (by decide)
theorem four (C x0 x1 x2 x3 a b c d:Nat):
  gQ (gQ (gQ (gQ C (x0^^^a)) (x1^^^b)) (x2^^^c)) (x3^^^d)
   =gQ (gQ (gQ (gQ C x0) x1) x2) x3^^^fj (fj (fj (fj (a^^^256*b^^^65536*c^^^16777216*d)))):=by
 have e1:fj (a^^^256*b^^^65536*c^^^16777216*d)=fj a^^^b^^^256*c^^^65536*d:=by
  rw[fY,fY,fY,gI,show 65536*c=256*(256*c) by omega,gI,show 16777216*d=256*(65536*d) by omega,gI]
 have e2:fj (fj a^^^b^^^256*c^^^65536*d)=fj (fj a^^^b)^^^c^^^256*d:=by
  rw[fY,fY,gI,show 65536*d=256*(256*d) by omega,gI]
 have e3:fj (fj (fj a^^^b)^^^c^^^256*d)=fj (fj (fj a^^^b)^^^c)^^^d:=by
  rw[fY,gI]
 rw[e1,e2,e3];unfold gQ;have s (C x a D:Nat):fj ((C^^^D)^^^(x^^^a))=fj (C^^^x)^^^fj (D^^^a):=by
  rw[<-fY]
  congr 1
  rw[Nat.xor_assoc,Nat.xor_assoc,xor_left_comm D]
 have s0:fj (C^^^(x0^^^a))=fj (C^^^x0)^^^fj a:=by rw[<-Nat.xor_assoc,fY]
 rw[s0,s,s,s]
end
section
open Go.RowKit
structure tV (w:World):Prop where
 lt:1<w.heap.size
 cell:∀i,i<16->w.cell? ⟨1,i,none⟩=some (.int .u32 ((je i:Nat):Int))
theorem tV.below {w w':World}(h:tV w)(hb:Below w.heap.size w w'):tV w':=
 ⟨Nat.lt_of_lt_of_le h.lt hb.size,fun i hi=>by rw[hb.cell h.lt];exact h.cell i hi⟩
theorem UT (c:Nat)(h:c<4294967296):bits .and .u32 (c:Int) 15=((c%16:Nat):Int):=by
 have:=u32_and_nat c 15 h (by decide);rw[show((15:Nat):Int)=15 from rfl]at this;rw[this,Nat.and_two_pow_sub_one_eq_mod c 4]
theorem FZ (c:Nat)(h:c<4294967296):bits .xor .u32 ((c:Int)/16) ((je (c%16):Nat):Int)=((je c:Nat):Int):=by
 have:=u32_xor_nat (c/16) (je (c%16)) (by omega) (po (by omega));rw[DR]at this;exact this
theorem l7 (c:Nat)(hc:c<4294967296)(w:World)(h:tV w):
  Calls Tryz.prog 170 #[.int .u32 c] w fun r w'=>r=.returned (.int .u32 ((je c:Nat):Int))∧w=w':=by
 have e1:=UT c hc;have e2:=FZ c hc;have hcell:=h.cell (c%16) (Nat.mod_lt _ (by decide));go_enter Tryz.func170,Tryz.ntmps170;go_wp2;go_ret;exact⟨rfl,rfl⟩
theorem F3 (c b:Nat)(hc:c<4294967296)(hb:b<256)(w:World)(h:tV w):
  Calls Tryz.prog 147 #[.int .u32 c,.int .u8 b] w fun r w'=>r=.returned (.int .u32 ((gQ c b:Nat):Int))∧w=w':=by
 have e1:=u32_xor_nat c b hc (by omega);have hx:c^^^b<4294967296:=jC hc (by omega);unfold gQ fj;generalize c^^^b=x at*;have H1:Hid _:=l7 x hx w h;have H2:Hid _:=l7 (je x) (po hx) w h;clear h;go_enter Tryz.func147,Tryz.ntmps147
 go_wp2_with fail
 refine Calls.mono H1.out ?_;rintro e w' ⟨rfl,rfl⟩
 go_wp2_with fail
 refine Calls.mono H2.out ?_;rintro e w' ⟨rfl,rfl⟩;go_wp2;go_ret;exact⟨rfl,rfl⟩
end
section
open Go.RowKit
theorem F4 (xs:List ByteArray)(k:Nat)(h:k<xs.length):cat (xs.take (k+1))=cat (xs.take k)++(xs.getD k ByteArray.empty).data.toList:=by
 have e:xs.take (k+1)=xs.take k++[xs.getD k ByteArray.empty]:=by
  rw[List.take_succ_eq_append_getElem h,List.getD_eq_getElem?_getD,List.getElem?_eq_getElem h];rfl
 rw[e];unfold cat;rw[List.map_append,List.flatten_append];simp
structure zS (w:World)(a:Option Addr)(len cap:Nat)(xs:List ByteArray):Prop where
 F5:xs.length=len
 XJ:len<=cap
 small:len<=maxLen
 sizes:∀k,k<len->(xs.getD k ByteArray.empty).size<=maxLen
 cells:∀k,k<len->∃b o,a=some ⟨b,o,none⟩∧b<w.heap.size∧w.cell? ⟨b,o+k,none⟩=some (.string (xs.getD k ByteArray.empty))
theorem zT (c:Nat)(x:ByteArray)(i:Nat)(h:i<x.size):lY c (x.data.toList.take (i+1))=gQ (lY c (x.data.toList.take i)) x[i].toNat:=by
 have h':i<x.data.toList.length:=by simpa using h
 rw[List.take_succ_eq_append_getElem h',tU];rfl
theorem Lp (a:Option Addr)(len cap:Nat)(xs:List ByteArray)(w:World)(h:tV w)(row:zS w a len cap xs):
  Calls Tryz.prog 111 #[.slice a len cap] w fun r w'=>r=.returned (.int .i64 ((kT (cat xs):Nat):Int))∧w=w':=by
 have hm:=row.small;unfold maxLen at hm;have ROW:Hid (zS w a len cap xs):=row;have PO:Hid (tV w):=h;clear row h;go_enter Tryz.func111,Tryz.ntmps111;go_wp2
 go_loop [3,9] (fun c i=>∃(k C:Nat),k<=len∧i=.int .i64 k∧c=.int .u32 C∧C<4294967296∧Hid (C=lY 4294967295 (cat (xs.take k)))) (fun _ i=>len- (intOf i).toNat)
 case atStart=>exact⟨0,4294967295,Nat.zero_le _,rfl,rfl,by decide,rfl⟩
 case round=>
  obtain⟨k,C,hk,rfl,rfl,hC,eC⟩:=hrel;by_cases hlt:k<len
  ·obtain⟨bx,o,rfl,hbx,hc⟩:=ROW.out.cells k hlt;have hz:=ROW.out.sizes k hlt;unfold maxLen at hz;have eT:Hid (cat (xs.take (k+1))=cat (xs.take k)++(xs.getD k ByteArray.empty).data.toList):=F4 xs k (by rw[ROW.out.F5];exact hlt);generalize xs.getD k ByteArray.empty=x at*;go_wp2
   go_loop [3,15] (fun c i=>∃(j D:Nat),j<=x.size∧i=.int .i64 j∧c=.int .u32 D∧D<4294967296∧Hid (D=lY C (x.data.toList.take j))) (fun _ i=>x.size- (intOf i).toNat)
   case atStart=>exact⟨0,C,Nat.zero_le _,rfl,rfl,hC,rfl⟩
   case round=>
    obtain⟨j,D,hj,rfl,rfl,hD,eD⟩:=hrel;by_cases hlj:j<x.size
    ·have T:Hid _:=zT C x j hlj;have S:Hid _:=F3 D x[j].toNat hD (UInt8.toNat_lt _) w PO.out;have hS:gQ D x[j].toNat<4294967296:=xu hD (UInt8.toNat_lt _)
     go_wp2_with fail
     refine Calls.mono S.out ?_;rintro e w' ⟨rfl,rfl⟩;go_wp2;refine⟨⟨j+1,_,by omega,by go_num,rfl,hS,?_⟩,by simp[intOf];omega⟩;rw[Hid,T.out,<-eD.out]
    ·have T:Hid (x.data.toList.take j=x.data.toList):=List.take_of_length_le (by simp;omega);go_wp2;refine⟨⟨k+1,D,by omega,by go_num,rfl,hD,?_⟩,by simp[intOf];omega⟩;rw[Hid,eT.out,tU,<-eC.out,eD.out,T.out]
  ·have e1:bits .xor .u32 (C:Int) 4294967295=((C^^^4294967295:Nat):Int):=u32_xor_nat C 4294967295 hC (by decide);have e2:Hid (kT (cat xs)=C^^^4294967295):=by
    rw[Hid,kT,eC.out,List.take_of_length_le (by rw[ROW.out.F5];omega)]
   have e3:C^^^4294967295<4294967296:=jC hC (by decide);generalize C^^^4294967295=S at*;go_wp2;go_ret;rw[e2.out];exact⟨rfl,rfl⟩
theorem Lq (xs:List ByteArray)(vs:Array Value)(w:World)(n:Nat)(hn:xs.length=n)(hv:vs=(xs.map Value.string).toArray)(hs:n<=8)(hz:∀x∈xs,x.size<=maxLen):
  zS (w.alloc (.cells vs 9)) (some ⟨w.heap.size,0,none⟩) n n xs:=by
 subst hn hv;refine⟨rfl,Nat.le_refl _,by unfold maxLen;omega,fun k hk=>?_,fun k hk=>⟨_,_,rfl,by simp,?_⟩⟩
 ·rw[List.getD_eq_getElem?_getD,List.getElem?_eq_getElem hk];exact hz _ (List.getElem_mem hk)
 ·rw[World.cell?_alloc_at _ 9 _ (0+k) rfl,Nat.zero_add,List.getD_eq_getElem?_getD,List.getElem?_eq_getElem hk];simp[hk]
theorem Lr (xs:List ByteArray)(vs:Array Value)(w:World)(n:Nat)(h:tV w)(hn:xs.length=n)(hv:vs=(xs.map Value.string).toArray)(hs:n<=8)(hz:∀x∈xs,x.size<=maxLen):
  Calls Tryz.prog 111 #[.slice (some ⟨w.heap.size,0,none⟩) n n] (w.alloc (.cells vs 9)) fun r w'=>r=.returned (.int .i64 ((kT (cat xs):Nat):Int))∧w.alloc (.cells vs 9)=w':=
 Lp _ n n xs _ (h.below ((Below.refl _ _).alloc (Nat.le_refl _) _)) (Lq xs vs w n hn hv hs hz)
theorem XK (x:ByteArray)(w:World)(h:tV w)(hx:x.size<=maxLen):
  Calls Tryz.prog 111 #[.slice (some ⟨w.heap.size,0,none⟩) 1 1] (w.alloc (.cells #[.string x] 9)) fun r w'=>r=.returned (.int .i64 ((kT x.data.toList:Nat):Int))∧w.alloc (.cells #[.string x] 9)=w':=by
 have:=Lr [x] #[.string x] w 1 h rfl rfl (by decide) (by simpa using hx);rw[show cat [x]=x.data.toList by simp[cat]]at this;exact this
end
section
open Go.RowKit Go.WideShapes
theorem own:ownKnob Tryz.prog.godebug=none:=by kernel_rfl
end
section
open Go.RowKit
end
section
open Go.RowKit
def fC (n:Nat)(k:UInt8)(b:List UInt8):List UInt8:=
 beBytes 4 n++([k]++([0]++(beBytes 2 b.length++(List.replicate 4 0++(b++List.replicate (240-b.length) 0)))))
def cL (n:Nat)(k:UInt8)(b:List UInt8):List UInt8:=beBytes 4 (kT (fC n k b))++fC n k b
theorem l8 (n:Nat)(k:UInt8)(b:List UInt8)(h:b.length<=240):(fC n k b).length=252:=by
 simp[fC,beBytes_length];omega
theorem uW (n:Nat)(k:UInt8)(b:List UInt8)(h:b.length<=240):(cL n k b).length=256:=by
 rw[cL,List.length_append,beBytes_length,l8 n k b h]
def fp (id:Int)(n:Nat):Int:=if 240<n then 50 else if fL 4 id=true then 0 else 1
def iC (id:Int)(k:UInt8)(b:List UInt8):List UInt8:=if fp id b.length=0 then cL id.toNat k b else []
theorem OO (id:Int):fL 4 id=true↔0<=id∧id<4294967296:=by simp[fL,bS]
theorem jf {id:Int}{n:Nat}:fp id n=0↔n<=240∧0<=id∧id<4294967296:=by
 rw[<-OO];unfold fp;by_cases h:240<n
 ·rw[if_pos h];constructor
  ·intro e;cases e
  ·intro e;omega
 ·rw[if_neg h];cases hp:fL 4 id
  ·simp
  ·simp;omega
def UU (s:List UInt8):UInt8:=s.getD 8 0
def XL (s:List UInt8):Nat:=beNat ((s.drop 10).take 2)
def PQ (s:List UInt8):List UInt8:=(s.drop 16).take (XL s)
theorem BC (a b:List UInt8)(k:Nat)(h:a.length=k):(a++b).drop k=b:=by subst h;simp
theorem BD (a b:List UInt8)(k:Nat)(h:a.length=k):(a++b).take k=a:=by subst h;simp
theorem l9 (n:Nat)(k:UInt8)(b:List UInt8):(cL n k b).drop 10=beBytes 2 b.length++(List.replicate 4 0++(b++List.replicate (240-b.length) 0)):=by
 have e:cL n k b=(beBytes 4 (kT (fC n k b))++(beBytes 4 n++([k]++[0])))++(beBytes 2 b.length++(List.replicate 4 0++(b++List.replicate (240-b.length) 0))):=by
  conv=>lhs;rw[cL]
  conv=>lhs;rhs;rw[fC]
  simp only[List.append_assoc]
 rw[e];exact BC _ _ 10 (by simp[beBytes_length])
theorem F6 (n:Nat)(k:UInt8)(b:List UInt8)(h:b.length<=240):XL (cL n k b)=b.length:=by
 unfold XL;rw[l9,BD _ _ 2 (beBytes_length _ _),jA 2 _ (by omega)]
theorem xv (n:Nat)(k:UInt8)(b:List UInt8)(h:b.length<=240):PQ (cL n k b)=b:=by
 unfold PQ;rw[F6 n k b h,show 16=10+6 from rfl,<-List.drop_drop,l9,<-List.append_assoc,BC _ _ 6 (by simp[beBytes_length]),BD _ _ _ rfl]
theorem xw (n:Nat)(k:UInt8)(b:List UInt8):UU (cL n k b)=k:=by
 have e:cL n k b=(beBytes 4 (kT (fC n k b))++beBytes 4 n)++(k::([0]++(beBytes 2 b.length++(List.replicate 4 0++(b++List.replicate (240-b.length) 0))))):=by
  conv=>lhs;rw[cL]
  conv=>lhs;rhs;rw[fC]
  simp only[List.append_assoc,List.cons_append,List.nil_append]
 unfold UU;rw[e,List.getD_eq_getElem?_getD,List.getElem?_append_right (by simp[beBytes_length])];simp[beBytes_length]
def opn (id:Int)(s:List UInt8):UInt8×List UInt8×Int:=
 if fp id (PQ s).length=0∧s=cL id.toNat (UU s) (PQ s)then(UU s,PQ s,0)else(0,[],3)
theorem F7 (id:Int)(k:UInt8)(b:List UInt8)(h:fp id b.length=0):opn id (cL id.toNat k b)=(k,b,0):=by
 have hl:=(jf.1 h).1;unfold opn;rw[xv _ _ _ hl,xw,if_pos ⟨h,rfl⟩]
theorem nc (id:Int)(s:List UInt8):(∃k b,fp id b.length=0∧s=cL id.toNat k b∧opn id s=(k,b,0))∨((∀k b,fp id b.length=0->s≠cL id.toNat k b)∧opn id s=(0,[],3)):=by
 by_cases c:fp id (PQ s).length=0∧s=cL id.toNat (UU s) (PQ s)
 ·exact .inl ⟨_,_,c.1,c.2,by rw[opn,if_pos c]⟩
 ·refine .inr ⟨fun k b h e=>c ?_,by rw[opn,if_neg c]⟩;subst e;have hl:=(jf.1 h).1;rw[xv _ _ _ hl,xw];exact⟨h,rfl⟩
def F8 (s:ByteArray):ByteArray×ByteArray×Int:=aN s 0 8
def BG (s:ByteArray):Int×ByteArray×Int:=cA (F8 s).2.1 (F8 s).2.2 1
def Ls (s:ByteArray):ByteArray×ByteArray×Int:=aN (BG s).2.1 (BG s).2.2 1
def F9 (s:ByteArray):Int×ByteArray×Int:=cA (Ls s).2.1 (Ls s).2.2 2
def Lt (s:ByteArray):ByteArray×ByteArray×Int:=aN (F9 s).2.1 (F9 s).2.2 4
def PR (s:ByteArray):ByteArray×ByteArray×Int:=aN (Lt s).2.1 (Lt s).2.2 (F9 s).1
def zH (s:ByteArray):UInt8:=UInt8.ofNat (BG s).1.toNat
def pq (s:ByteArray):ByteArray:=(PR s).1
theorem Ga (s:ByteArray):(BG s).1=((zH s).toNat:Int):=by
 have h:0<=(BG s).1∧(BG s).1<256:=by
  unfold BG cA;rw[if_neg (by decide)];generalize(F8 s).2.1=t;generalize(F8 s).2.2=e;have hl:(aN t e 1).1.size<=1:=by
   unfold aN;split
   ·simp
   ·split
    ·simp
    ·split
     ·simp
     ·simp;omega
  have h1:=xo (aN t e 1).1.data.toList;have h2:256^(aN t e 1).1.data.toList.length<=256^1:=Nat.pow_le_pow_right (by omega) (by simpa using hl);dsimp only;omega
 unfold zH;simp;omega
theorem Lu (n:Nat)(k:UInt8)(b:List UInt8)(h:b.length<=240):zH ⟨(cL n k b).toArray⟩=k∧pq ⟨(cL n k b).toArray⟩=⟨b.toArray⟩:=by
 have e:cL n k b=(beBytes 4 (kT (fC n k b))++beBytes 4 n)++([k]++([0]++(beBytes 2 b.length++(List.replicate 4 0++(b++List.replicate (240-b.length) 0))))):=by
  conv=>lhs;rw[cL]
  conv=>lhs;rhs;rw[fC]
  simp only[List.append_assoc]
 have e1:F8 ⟨(cL n k b).toArray⟩=(⟨(beBytes 4 (kT (fC n k b))++beBytes 4 n).toArray⟩,⟨([k]++([0]++(beBytes 2 b.length++(List.replicate 4 0++(b++List.replicate (240-b.length) 0))))).toArray⟩,0):=by
  rw[F8,e];exact eo _ _ 8 (by simp[beBytes_length])
 have e2:BG ⟨(cL n k b).toArray⟩=((beNat [k]:Int),⟨([0]++(beBytes 2 b.length++(List.replicate 4 0++(b++List.replicate (240-b.length) 0)))).toArray⟩,0):=by
  rw[BG,e1];exact gH _ _ 1 rfl rfl
 have e3:Ls ⟨(cL n k b).toArray⟩=(⟨[0].toArray⟩,⟨(beBytes 2 b.length++(List.replicate 4 0++(b++List.replicate (240-b.length) 0))).toArray⟩,0):=by
  rw[Ls,e2];exact eo _ _ 1 rfl
 have e4:F9 ⟨(cL n k b).toArray⟩=((beNat (beBytes 2 b.length):Int),⟨(List.replicate 4 0++(b++List.replicate (240-b.length) 0)).toArray⟩,0):=by
  rw[F9,e3];exact gH _ _ 2 (by rw[beBytes_length];rfl) rfl
 rw[jA 2 _ (by omega)]at e4;have e5:Lt ⟨(cL n k b).toArray⟩=(⟨(List.replicate 4 0).toArray⟩,⟨(b++List.replicate (240-b.length) 0).toArray⟩,0):=by
  rw[Lt,e4];exact eo _ _ 4 rfl
 have e6:PR ⟨(cL n k b).toArray⟩=(⟨b.toArray⟩,⟨(List.replicate (240-b.length) 0).toArray⟩,0):=by
  rw[PR,e5,e4];exact eo _ _ _ rfl
 refine⟨?_,by rw[pq,e6]⟩;rw[zH,e2];simp[beNat]
theorem DT (id:Int)(s:ByteArray):
    (if fp id (pq s).size=0∧(⟨(iC id (zH s) (pq s).data.toList).toArray⟩:ByteArray)=s then(zH s,(pq s).data.toList,(0:Int))else(0,[],3))=opn id s.data.toList:=by
  have hsz:(pq s).size=(pq s).data.toList.length:=by simp
  by_cases c:fp id (pq s).size=0∧(⟨(iC id (zH s) (pq s).data.toList).toArray⟩:ByteArray)=s
  · rw[if_pos c];have h0:fp id (pq s).data.toList.length=0:=by rw[<-hsz];exact c.1
    have hs:s.data.toList=cL id.toNat (zH s) (pq s).data.toList:=by
      have:=c.2;rw[iC,if_pos h0]at this
      conv=>lhs;rw[<-this]
    rw[hs,F7 _ _ _ h0]
  · rw[if_neg c];rcases nc id s.data.toList with⟨k,b,h1,h2,h3⟩| ⟨_,h⟩
    · exfalso;apply c;have e:s=⟨(cL id.toNat k b).toArray⟩:=by rw[<-h2]
      obtain⟨hk,hb⟩:=Lu id.toNat k b (jf.1 h1).1;rw[e,hk,hb];refine⟨by rw[lX];exact h1,?_⟩;rw[iC,if_pos (by simpa using h1)]
    · exact h.symm
end
section
open Go.RowKit
theorem xx (n:Nat):Lib.repeatL [0] n=List.replicate n (0:UInt8):=by
 have:=Lib.repeatL_replicate 0 1 n;simpa using this
theorem jD (n:Nat)(w:World)(hn:n<=1000):
  Calls Tryz.prog 110 #[.int .i64 n] w fun e w'=>e=.returned (.string ⟨(List.replicate n (0:UInt8)).toArray⟩)∧Below w.heap.size w w':=by
 have C:Hid (Calls Tryz.prog 55 #[.string ⟨#[0]⟩,.int .i64 n] w fun e w'=>e=.returned (.string ⟨(Lib.repeatL [0] n).toArray⟩)∧Below w.heap.size w w'):=Tryz.strings_Repeat ⟨#[0]⟩ n w (by omega) (by show 1*n<=_;omega);rw[xx]at C;go_enter Tryz.func110,Tryz.ntmps110
 go_wp2_with (go_at_call 55;refine Calls.mono C.out ?_;rintro e w' ⟨rfl,hb⟩)
 go_ret;exact⟨rfl,hb⟩
theorem xy (xs:List ByteArray)(vs:Array Value)(w:World)(n:Nat)(hn:xs.length=n)(hv:vs=(xs.map Value.string).toArray)(hs:n<=8)(hl:(cat xs).length<=140737488355328):
  Calls Tryz.prog 108 #[.slice (some ⟨w.heap.size,0,none⟩) n n] (w.alloc (.cells vs 9)) fun r w'=>r=.returned (.string ⟨(cat xs).toArray⟩)∧Below w.heap.size w w':=by
 subst hn hv;have h:=qG w.heap.size 0 xs.length xs.length xs (w.alloc (.cells (xs.map Value.string).toArray 9)) (fun j z hj=>?_) (by simp) rfl (by omega) (Nat.le_refl _) hl
 ·exact h.mono fun r w' ⟨a,b⟩=>⟨a,((Below.refl _ _).alloc (Nat.le_refl _) _).trans (b.mono (by simp))⟩
 ·rw[World.cell?_alloc_at _ 9 _ (0+j) rfl,Nat.zero_add];simp[hj]
theorem one_byte (k:UInt8):beBytes 1 k.toNat=[k]:=by simp[beBytes]
theorem Gc (n:Nat)(k:UInt8)(b:ByteArray):
  cat [⟨(beBytes 4 n).toArray⟩,⟨(beBytes 1 k.toNat).toArray⟩,⟨(List.replicate 1 (0:UInt8)).toArray⟩,⟨(beBytes 2 b.size).toArray⟩,⟨(List.replicate 4 (0:UInt8)).toArray⟩,b,⟨(List.replicate (240-b.size) (0:UInt8)).toArray⟩]=fC n k b.data.toList:=by
 rw[one_byte];simp only[cat,List.map_cons,List.map_nil,List.flatten_cons,List.flatten_nil,List.append_nil,fC];rw[show b.data.toList.length=b.size by simp];rfl
theorem Gd (n:Nat)(k:UInt8)(b:List UInt8):cat [⟨(beBytes 4 (kT (fC n k b))).toArray⟩,⟨(fC n k b).toArray⟩]=cL n k b:=by
 simp only[cat,List.map_cons,List.map_nil,List.flatten_cons,List.flatten_nil,List.append_nil,cL]
theorem Lv (n:Nat)(k:UInt8)(b:ByteArray)(w:World)(T:tV w)(hn:n<4294967296)(hb:b.size<=240):
  Calls Tryz.prog 73 #[.int .i64 n,.int .u8 (k.toNat:Int),.string b] w fun e w'=>e=.returned (.tuple #[.string ⟨(cL n k b.data.toList).toArray⟩,.int .i64 0])∧Below w.heap.size w w':=by
 have PO:Hid (tV w):=T;have C1:Hid _:=PM n w hn;have hk:k.toNat<256:=UInt8.toNat_lt k;have hl:(fC n k b.data.toList).length=252:=l8 _ _ _ (by simpa using hb);have ER:Hid (_=fC n k b.data.toList):=Gc n k b;have EP:Hid (_=cL n k b.data.toList):=Gd n k b.data.toList;have hS:kT (fC n k b.data.toList)<4294967296:=Ln _;have hP:(cL n k b.data.toList).length=256:=uW _ _ _ (by simpa using hb);generalize fC n k b.data.toList=R at*;generalize cL n k b.data.toList=G at*;clear T;go_enter Tryz.func73,Tryz.ntmps73
 go_wp2_with fail
 refine Calls.mono C1.out ?_;rintro e w1 ⟨rfl,b1⟩;have B1:Hid (Below w.heap.size w w1):=b1;clear b1 C1;have C2:Hid _:=UO k.toNat w1 hk
 go_wp2_with fail
 refine Calls.mono C2.out ?_;rintro e w2 ⟨rfl,b2⟩;have B2:Hid (Below w.heap.size w w2):=B1.out.trans (b2.mono B1.out.size);clear b2 C2;have C3:Hid _:=UQ b.size w2 (by omega)
 go_wp2_with fail
 refine Calls.mono C3.out ?_;rintro e w3 ⟨rfl,b3⟩;have B3:Hid (Below w.heap.size w w3):=B2.out.trans (b3.mono B2.out.size);clear b3 C3;have C4:Hid (Calls Tryz.prog 110 #[.int .i64 1] w3 fun e w'=>e=.returned (.string ⟨(List.replicate 1 (0:UInt8)).toArray⟩)∧Below w3.heap.size w3 w'):=jD 1 w3 (by omega)
 go_wp2_with fail
 refine Calls.mono C4.out ?_;rintro e w4 ⟨rfl,b4⟩;have B4:Hid (Below w.heap.size w w4):=B3.out.trans (b4.mono B3.out.size);clear b4 C4;have C5:Hid (Calls Tryz.prog 110 #[.int .i64 4] w4 fun e w'=>e=.returned (.string ⟨(List.replicate 4 (0:UInt8)).toArray⟩)∧Below w4.heap.size w4 w'):=jD 4 w4 (by omega)
 go_wp2_with fail
 refine Calls.mono C5.out ?_;rintro e w5 ⟨rfl,b5⟩;have B5:Hid (Below w.heap.size w w5):=B4.out.trans (b5.mono B4.out.size);clear b5 C5;have C6:Hid _:=jD (240-b.size) w5 (by omega);rw[show(((240-b.size:Nat):Int))=240- (b.size:Int) by omega]at C6
 go_wp2_with fail
 refine Calls.mono C6.out ?_;rintro e w6 ⟨rfl,b6⟩;have B6:Hid (Below w.heap.size w w6):=B5.out.trans (b6.mono B5.out.size);clear b6 C6;have C7:Hid _:=xy [⟨(beBytes 4 n).toArray⟩,⟨(beBytes 1 k.toNat).toArray⟩,⟨(List.replicate 1 (0:UInt8)).toArray⟩,⟨(beBytes 2 b.size).toArray⟩,⟨(List.replicate 4 (0:UInt8)).toArray⟩,b,⟨(List.replicate (240-b.size) (0:UInt8)).toArray⟩] _ w6 7 rfl rfl (by omega) (by rw[ER.out,hl];omega);rw[ER.out]at C7
 go_wp2_with fail
 refine Calls.mono C7.out ?_;rintro e w7 ⟨rfl,b7⟩;have B7:Hid (Below w.heap.size w w7):=B6.out.trans (b7.mono B6.out.size);clear b7 C7;have C8:Hid _:=XK ⟨R.toArray⟩ w7 (PO.out.below B7.out) (by rw[lX];unfold maxLen;omega);rw[show(⟨R.toArray⟩:ByteArray).data.toList=R from rfl]at C8
 go_wp2_with fail
 refine Calls.mono C8.out ?_;rintro e w8 ⟨rfl,hw8⟩;have B8:Hid (Below w.heap.size w w8):=by subst hw8;exact B7.out.alloc B7.out.size _
 clear hw8 C8;have C9:Hid _:=PM (kT R) w8 hS
 go_wp2_with fail
 refine Calls.mono C9.out ?_;rintro e w9 ⟨rfl,b9⟩;have B9:Hid (Below w.heap.size w w9):=B8.out.trans (b9.mono B8.out.size);clear b9 C9;have XN:Hid _:=xy [⟨(beBytes 4 (kT R)).toArray⟩,⟨R.toArray⟩] _ w9 2 rfl rfl (by omega) (by rw[EP.out,hP];omega);rw[EP.out]at XN
 go_wp2_with fail
 refine Calls.mono XN.out ?_;rintro e Uv ⟨rfl,b10⟩;have B10:Hid (Below w.heap.size w Uv):=B9.out.trans (b10.mono B9.out.size);clear b10 XN;go_wp2;go_ret2;exact⟨rfl,B10.out⟩
theorem DU (id:Int)(k:UInt8)(b:ByteArray)(w:World)(hb:240<b.size)(hm:b.size<=maxLen):
  Calls Tryz.prog 73 #[.int .i64 id,.int .u8 (k.toNat:Int),.string b] w fun e w'=>e=.returned (.tuple #[.string ⟨#[]⟩,.int .i64 50])∧w=w':=by
 unfold maxLen at hm;go_enter Tryz.func73,Tryz.ntmps73;go_wp2;go_ret2;exact⟨rfl,rfl⟩
theorem Ge (id:Int)(k:UInt8)(b:ByteArray)(w:World)(hb:b.size<=240)(hp:fL 4 id=false):
  Calls Tryz.prog 73 #[.int .i64 id,.int .u8 (k.toNat:Int),.string b] w fun e w'=>e=.returned (.tuple #[.string ⟨#[]⟩,.int .i64 1])∧Below w.heap.size w w':=by
 have C:Hid _:=lV 4 id w;rw[show mW 4 id=[] by simp[mW,hp],show mX 4 id=1 by simp[mX,hp]]at C;clear hp;go_enter Tryz.func73,Tryz.ntmps73
 go_wp2_with fail
 refine Calls.mono C.out ?_;rintro e w1 ⟨rfl,b1⟩;go_wp2;go_ret2;exact⟨rfl,b1⟩
theorem Gf (id:Int)(k:UInt8)(b:ByteArray)(w:World)(T:tV w)(hm:b.size<=maxLen):
  Calls Tryz.prog 73 #[.int .i64 id,.int .u8 (k.toNat:Int),.string b] w fun e w'=>e=.returned (.tuple #[.string ⟨(iC id k b.data.toList).toArray⟩,.int .i64 (fp id b.size)])∧Below w.heap.size w w':=by
 have hsz:b.data.toList.length=b.size:=by simp
 by_cases hb:240<b.size
 ·have e1:fp id b.size=50:=by rw[fp,if_pos hb]
  have e2:iC id k b.data.toList=[]:=by rw[iC,hsz,e1,if_neg (by decide)]
  rw[e1,e2];exact(DU id k b w hb hm).mono fun e w' ⟨h1,h2⟩=>⟨h1,by subst h2;exact Below.refl _ _⟩
 ·cases hp:fL 4 id
  ·have e1:fp id b.size=1:=by rw[fp,if_neg hb,hp,if_neg (by decide)]
   have e2:iC id k b.data.toList=[]:=by rw[iC,hsz,e1,if_neg (by decide)]
   rw[e1,e2];exact Ge id k b w (by omega) hp
  ·have e1:fp id b.size=0:=by rw[fp,if_neg hb,hp,if_pos rfl]
   have e2:iC id k b.data.toList=cL id.toNat k b.data.toList:=by rw[iC,hsz,e1,if_pos rfl]
   obtain⟨h0,h1⟩:=(OO id).1 hp;rw[e1,e2];have:=Lv id.toNat k b w T (by omega) (by omega);rw[show((id.toNat:Nat):Int)=id by omega]at this;exact this
end
section
open Go.RowKit
theorem PS {a b:ByteArray}(h:¬a=b):(a.toList==b.toList)=false:=by
 rw[beq_eq_false_iff_ne,Lib.toList_data,Lib.toList_data];intro e;exact h (qH e)
theorem tj (s:ByteArray)(e n:Int)(h:s.size<=maxLen):(aN s e n).1.size<=maxLen:=by
 unfold aN;split
 ·unfold maxLen;simp
 ·split
  ·unfold maxLen;simp
  ·split
   ·unfold maxLen;simp
   ·simp;omega
theorem DV (s:ByteArray)(w:World)(hs:s.size<=maxLen):
  Calls Tryz.prog 100 #[.string s] w fun e w'=>e=.returned (.tuple #[.int .u8 ((zH s).toNat:Int),.string (pq s)])∧(pq s).size<=maxLen∧Below w.heap.size w w':=by
 have C0:Hid _:=qD s w;have R0:Hid _:=Rd.made s hs w;have bl:Hid (Below w.heap.size w (w.alloc (.cells #[.string s,.int .i64 0] 239))):=(Below.refl _ _).alloc (Nat.le_refl _) _;have hK:=Ga s;have hk:(zH s).toNat<256:=UInt8.toNat_lt _;unfold pq;generalize(zH s).toNat=K at*;go_enter Tryz.func100,Tryz.ntmps100
 go_wp2_with fail
 refine Calls.mono C0.out ?_;rintro e w0 ⟨rfl,h0⟩;rw[<-h0]at R0 bl;clear h0 C0;have C1:Hid (Calls Tryz.prog 143 #[.pointer (some ⟨w.heap.size,0,none⟩),.int .i64 8] w0 fun r w'=>r=.returned (.string (F8 s).1)∧Rd w.heap.size (F8 s).2.1 (F8 s).2.2 w'∧Only w.heap.size w0 w'):=gG w.heap.size s 0 8 w0 R0.out
 go_wp2_with fail
 refine Calls.mono C1.out ?_;rintro e w1 ⟨rfl,r1,o1⟩;have R1:Hid (Rd w.heap.size (F8 s).2.1 (F8 s).2.2 w1):=r1;have O1:Hid (Only w.heap.size w0 w1):=o1;clear r1 o1 C1;have C2:Hid (Calls Tryz.prog 144 #[.pointer (some ⟨w.heap.size,0,none⟩),.int .i64 1] w1 fun r w'=>r=.returned (.int .i64 (BG s).1)∧Rd w.heap.size (BG s).2.1 (BG s).2.2 w'∧Only w.heap.size w1 w'):=lU w.heap.size _ _ 1 w1 R1.out;rw[hK]at C2
 go_wp2_with fail
 refine Calls.mono C2.out ?_;rintro e w2 ⟨rfl,r2,o2⟩;have R2:Hid (Rd w.heap.size (BG s).2.1 (BG s).2.2 w2):=r2;have O2:Hid (Only w.heap.size w0 w2):=O1.out.trans o2;clear r2 o2 C2;have C3:Hid (Calls Tryz.prog 143 #[.pointer (some ⟨w.heap.size,0,none⟩),.int .i64 1] w2 fun r w'=>r=.returned (.string (Ls s).1)∧Rd w.heap.size (Ls s).2.1 (Ls s).2.2 w'∧Only w.heap.size w2 w'):=gG w.heap.size _ _ 1 w2 R2.out
 go_wp2_with fail
 refine Calls.mono C3.out ?_;rintro e w3 ⟨rfl,r3,o3⟩;have R3:Hid (Rd w.heap.size (Ls s).2.1 (Ls s).2.2 w3):=r3;have O3:Hid (Only w.heap.size w0 w3):=O2.out.trans o3;clear r3 o3 C3;have C4:Hid (Calls Tryz.prog 144 #[.pointer (some ⟨w.heap.size,0,none⟩),.int .i64 2] w3 fun r w'=>r=.returned (.int .i64 (F9 s).1)∧Rd w.heap.size (F9 s).2.1 (F9 s).2.2 w'∧Only w.heap.size w3 w'):=lU w.heap.size _ _ 2 w3 R3.out
 go_wp2_with fail
 refine Calls.mono C4.out ?_;rintro e w4 ⟨rfl,r4,o4⟩;have R4:Hid (Rd w.heap.size (F9 s).2.1 (F9 s).2.2 w4):=r4;have O4:Hid (Only w.heap.size w0 w4):=O3.out.trans o4;clear r4 o4 C4;have C5:Hid (Calls Tryz.prog 143 #[.pointer (some ⟨w.heap.size,0,none⟩),.int .i64 4] w4 fun r w'=>r=.returned (.string (Lt s).1)∧Rd w.heap.size (Lt s).2.1 (Lt s).2.2 w'∧Only w.heap.size w4 w'):=gG w.heap.size _ _ 4 w4 R4.out
 go_wp2_with fail
 refine Calls.mono C5.out ?_;rintro e w5 ⟨rfl,r5,o5⟩;have R5:Hid (Rd w.heap.size (Lt s).2.1 (Lt s).2.2 w5):=r5;have O5:Hid (Only w.heap.size w0 w5):=O4.out.trans o5;clear r5 o5 C5;have C6:Hid (Calls Tryz.prog 143 #[.pointer (some ⟨w.heap.size,0,none⟩),.int .i64 (F9 s).1] w5 fun r w'=>r=.returned (.string (PR s).1)∧Rd w.heap.size (PR s).2.1 (PR s).2.2 w'∧Only w.heap.size w5 w'):=gG w.heap.size _ _ _ w5 R5.out;have Z:Hid ((PR s).1.size<=maxLen):=tj _ _ _ R5.out.sz
 go_wp2_with fail
 refine Calls.mono C6.out ?_;rintro e w6 ⟨rfl,r6,o6⟩;have O6:Hid (Only w.heap.size w0 w6):=O5.out.trans o6;clear r6 o6 C6;go_wp2;go_ret2;exact⟨rfl,Z.out,bl.out.trans (O6.out.below (Nat.le_refl _))⟩
theorem Gg (id:Int)(s:ByteArray)(w:World)(T:tV w)(hs:s.size<=maxLen):
  Calls Tryz.prog 63 #[.int .i64 id,.string s] w fun e w'=>e=.returned (.tuple #[.int .u8 ((opn id s.data.toList).1.toNat:Int),.string ⟨(opn id s.data.toList).2.1.toArray⟩,.int .i64 (opn id s.data.toList).2.2])∧Below w.heap.size w w':=by
 have PO:Hid (tV w):=T;have C0:Hid _:=DV s w hs;have EO:Hid _:=DT id s;clear T;have SE:Hid (∀w1,tV w1->(pq s).size<=maxLen->Calls Tryz.prog 73 #[.int .i64 id,.int .u8 ((zH s).toNat:Int),.string (pq s)] w1 fun e w'=>e=.returned (.tuple #[.string ⟨(iC id (zH s) (pq s).data.toList).toArray⟩,.int .i64 (fp id (pq s).size)])∧Below w1.heap.size w1 w'):=fun w1 h1 h2=>Gf id (zH s) (pq s) w1 h1 h2;generalize(⟨(iC id (zH s) (pq s).data.toList).toArray⟩:ByteArray)=A at*;generalize fp id (pq s).size=E at*;generalize hO:opn id s.data.toList=O at*;have hb:pq s=⟨(pq s).data.toList.toArray⟩:=rfl;by_cases h1:E=0
 ·subst h1;by_cases h2:A=s
  ·subst h2;have UW:Hid ((zH A,(pq A).data.toList,(0:Int))=O):=by
    have:=EO.out
    rwa [if_pos ⟨rfl,rfl⟩]at this
   clear EO;go_enter Tryz.func63,Tryz.ntmps63
   go_wp2_with fail
   refine Calls.mono C0.out ?_;rintro e w1 ⟨rfl,z1,b1⟩;have B1:Hid (Below w.heap.size w w1):=b1;have C1:Hid _:=SE.out w1 (PO.out.below b1) z1;clear b1 C0 SE z1
   go_wp2_with fail
   refine Calls.mono C1.out ?_;rintro e w2 ⟨rfl,b2⟩;have B2:Hid (Below w.heap.size w w2):=B1.out.trans (b2.mono B1.out.size);clear b2 C1;go_wp2
   go_ret3
   rw[<-UW.out];exact⟨rfl,B2.out⟩
  ·have UW:Hid (((0:UInt8),([]:List UInt8),(3:Int))=O):=by
    have:=EO.out
    rwa [if_neg (fun c=>h2 c.2)]at this
   have hne:=PS h2;clear EO;go_enter Tryz.func63,Tryz.ntmps63
   go_wp2_with fail
   refine Calls.mono C0.out ?_;rintro e w1 ⟨rfl,z1,b1⟩;have B1:Hid (Below w.heap.size w w1):=b1;have C1:Hid _:=SE.out w1 (PO.out.below b1) z1;clear b1 C0 SE z1
   go_wp2_with fail
   refine Calls.mono C1.out ?_;rintro e w2 ⟨rfl,b2⟩;have B2:Hid (Below w.heap.size w w2):=B1.out.trans (b2.mono B1.out.size);clear b2 C1;go_wp2
   go_ret3
   rw[<-UW.out];exact⟨rfl,B2.out⟩
 ·have UW:Hid (((0:UInt8),([]:List UInt8),(3:Int))=O):=by
   have:=EO.out
   rwa [if_neg (fun c=>h1 c.1)]at this
  have hne:(E != 0)=true:=by rw[bne_iff_ne];exact h1
  clear EO h1;go_enter Tryz.func63,Tryz.ntmps63
  go_wp2_with fail
  refine Calls.mono C0.out ?_;rintro e w1 ⟨rfl,z1,b1⟩;have B1:Hid (Below w.heap.size w w1):=b1;have C1:Hid _:=SE.out w1 (PO.out.below b1) z1;clear b1 C0 SE z1
  go_wp2_with fail
  refine Calls.mono C1.out ?_;rintro e w2 ⟨rfl,b2⟩;have B2:Hid (Below w.heap.size w w2):=B1.out.trans (b2.mono B1.out.size);clear b2 C1;go_wp2
  go_ret3
  rw[<-UW.out];exact⟨rfl,B2.out⟩
end
section
open Go.RowKit
end
section
open Go.RowKit
theorem Lx {id:Int}{s:List UInt8}(h:(opn id s).2.2≠0):opn id s=(0,[],3):=by
 rcases nc id s with⟨k,b,_,_,h3⟩| ⟨_,h3⟩
 ·rw[h3]at h;exact absurd rfl h
 ·exact h3
end
section
open Go.RowKit
end
end
section
open Go.RowKit Go.WideShapes
def tab:List Int:=[0,498536548,997073096,651767980,1994146192,1802195444,1303535960,1342533948,3988292384,4027552580,3604390888,3412177804,2607071920,2262029012,2685067896,3183342108]
theorem Gh:∀n,n<16->tab.getD n 0=((je n:Nat):Int):=by decide
theorem BH:Tryz.prog.globalNamed "rootstock/crc.halves" =some 1:=by kernel_rfl
theorem Lz:(Tryz.prog.globals[1]?).map (·.type)=some 272:=by kernel_rfl
theorem LA {w:World}{p:Addr}{v:Value}(h:w.cell? p=some v):p.block<w.heap.size:=by
 unfold World.cell? at h;by_cases hb:p.block<w.heap.size
 ·exact hb
 ·rw[Array.getElem?_eq_none (by omega)]at h;simp at h
theorem tab_of_laid {W:World}(h:laidMetH Tryz.prog [("rootstock/crc.halves",Rows.laid_rootstock_crc_halves)] W):tV W:=by
 rw[MakeChecks.laidMetH_plain _ _ _ (by kernel_rfl)]at h;have hT:Lib.TabIs Tryz.prog W "rootstock/crc.halves" .u32 tab:=
  Lib.tabIs_of_head BH Lz Tryz.underlying272 Tryz.underlying205 (by kernel_rfl) (by kernel_rfl) (rest:=[]) h
 have hc:∀i,i<16->W.cell? ⟨1,i,none⟩=some (.int .u32 ((je i:Nat):Int)):=fun i hi=>by
  rw[<-Gh i hi];exact hT.cell BH i hi
 exact⟨LA (hc 0 (by decide)),hc⟩
theorem door_met (os:Os)(args:Array Value):laidMetH Tryz.prog [("rootstock/crc.halves",Rows.laid_rootstock_crc_halves)] ((World.doorLaid Tryz.prog 400 os).forCall (fun _ _=>0) ⟨#[],args,[]⟩).memory:=
 laidMetH_of_parts3 (fuel:=8) (laidMet_of_run' 8 (by kernel_rfl) (by kernel_rfl)) (by kernel_rfl) (by kernel_rfl)
end
section
section
open Go.RowKit
abbrev Wr:=Nat×ByteArray
structure Dk where
 sure:List ByteArray
 pend:List Wr
 brk:Option Nat
 down:Bool
 reads:Int
 writes:Int
def Gi (l:List Wr)(k:Nat):Wr:=l.getD k (0,ByteArray.empty)
def FD (l:List ByteArray)(i:Nat):ByteArray:=l.getD i ByteArray.empty
def tW (sure:List ByteArray)(pend:List Wr)(i:Nat)(n:Nat):ByteArray:=(List.range n).foldl (fun s k=>if(Gi pend k).1=i then(Gi pend k).2 else s) (FD sure i)
def Dk.now (d:Dk)(i:Nat):ByteArray:=tW d.sure d.pend i d.pend.length
def jg (pend:List Wr)(i:Nat)(n:Nat):Option ByteArray:=(List.range n).foldl (fun s k=>if(Gi pend k).1=i then some (Gi pend k).2 else s) none
def jE:ByteArray:=⟨Array.replicate 256 0⟩
def Dk.new (n:Int):Dk:=⟨List.replicate (min (max n 0) 16384).toNat jE,[],none,false,0,0⟩
def Dk.has (d:Dk)(i:Int):Bool:=decide (0<=i∧i<d.sure.length)
def Dk.get (d:Dk)(i:Int):(ByteArray×Int)×Dk:=
 if d.down then((ByteArray.empty,4),d)else if d.has i then((d.now i.toNat,0),{d with reads:=wrap64 (d.reads+1)})else((ByteArray.empty,40),d)
structure Dk.Ok (d:Dk):Prop where
 len:d.sure.length<=16384
 sz:∀s∈d.sure,s.size=256
 pd:∀p∈d.pend,p.1<d.sure.length∧p.2.size=256
 brk:∀k,d.brk=some k->k<=9223372036854775807
theorem Gj {l:List ByteArray}(h:∀s∈l,s.size=256){i:Nat}(hi:i<l.length):(FD l i).size=256:=by
 unfold FD;rw[List.getD_eq_getElem?_getD,List.getElem?_eq_getElem hi];exact h _ (List.getElem_mem hi)
theorem PT {d:Dk}(h:d.Ok){k:Nat}(hk:k<d.pend.length):(Gi d.pend k).1<d.sure.length∧(Gi d.pend k).2.size=256:=by
 unfold Gi;rw[List.getD_eq_getElem?_getD,List.getElem?_eq_getElem hk];exact h.pd _ (List.getElem_mem hk)
theorem qJ (s:List ByteArray)(p:List Wr)(i n:Nat):tW s p i (n+1)=if(Gi p n).1=i then(Gi p n).2 else tW s p i n:=by simp[tW,List.range_succ]
theorem xz (p:List Wr)(i n:Nat):jg p i (n+1)=if(Gi p n).1=i then some (Gi p n).2 else jg p i n:=by simp[jg,List.range_succ]
theorem qK (s:List ByteArray)(p:List Wr)(i:Nat):∀n,tW s p i n=(jg p i n).getD (FD s i)
 |0=>rfl
 |n+1=>by rw[qJ,xz,qK s p i n];split<;>rfl
theorem zU:jE.size=256:=by decide+kernel
theorem Dk.zV (n:Int):(Dk.new n).Ok:=by
 refine⟨?_,fun s hs=>?_,fun p hp=>?_,fun k hk=>?_⟩
 ·simp[Dk.new];omega
 ·simp only[Dk.new,List.mem_replicate]at hs;rw[hs.2];exact zU
 ·simp[Dk.new]at hp
 ·simp[Dk.new]at hk
end
section
open Go.RowKit
open Go.ChangeMaps (setBlock)
def isKey (k:Int)(e:MapEntry):Bool:=match e.key with| .int .i64 j=>k==j|_=>false
def jF (w:World)(m:Nat)(g:Int->Option Value):Prop:=
 ∃es clock,w.heap[m]? =some (.map es clock)∧(∀e∈es.toList,∃k,e.key=.int .i64 k)∧∀k,(es.toList.find? (isKey k)).map (·.val)=g k
theorem ox (k:Int):∀(es:List MapEntry) (i:Nat),(∀e∈es,∃k,e.key=.int .i64 k)->
  (es.find? (isKey k)=none∧Instr.findNow (.int .i64) (.int .i64 k) es i=some none)∨
  ∃j e,es[j]? =some e∧es.find? (isKey k)=some e∧(∀n,n<j->∀x,es[n]? =some x->isKey k x=false)∧Instr.findNow (.int .i64) (.int .i64 k) es i=some (some (i+j,e.val))
 |[],_,_=>.inl ⟨rfl,rfl⟩
 |e::es,i,h=>by
  obtain⟨q,hq⟩:=h e (by simp);by_cases hk:k=q
  ·refine .inr ⟨0,e,rfl,?_,(fun n hn=>by omega),?_⟩
   ·simp[List.find?,isKey,hq,hk]
   ·simp[Instr.findNow,Instr.sameNow,hq,hk]
  ·have hkq:(k==q)=false:=beq_eq_false_iff_ne.2 hk;have hik:isKey k e=false:=by simp[isKey,hq,hkq]
   rcases ox k es (i+1) (fun x hx=>h x (by simp[hx]))with⟨h1,h2⟩| ⟨j,x,h1,h2,h3,h4⟩
   ·refine .inl ⟨?_,?_⟩
    ·rw[List.find?_cons,hik];exact h1
    ·simpa[Instr.findNow,Instr.sameNow,hq,hkq]using h2
   ·refine .inr ⟨j+1,x,by simpa using h1,?_,?_,?_⟩
    ·rw[List.find?_cons,hik];exact h2
    ·intro n hn y hy;cases n with
     |zero=>simp at hy;subst hy;exact hik
     |succ n=>exact h3 n (by omega) y (by simpa using hy)
    ·have e1:i+(j+1)=i+1+j:=by omega
     rw[e1];simpa[Instr.findNow,Instr.sameNow,hq,hkq]using h4
theorem oy (k:Int)(es:List MapEntry)(w:World)(r:Option (Nat×Value))(h:Instr.findNow (.int .i64) (.int .i64 k) es 0=some r):(Instr.findKey 3 (.int .i64 k) es).run Tryz.prog w=.ok r w:=by
 simp[Instr.findKey,run_underlying Tryz.underlying3,h,Result.andThen]
theorem ma (k:Int)(b:Bool)(w:World):(Instr.checkKey b 10000 3 (.int .i64 k)).run Tryz.prog w=.ok () w:=by
 exact MapKept.run_checkKey (n:=9999) Tryz.underlying3 (by simp[MapKept.IsKey]) b
def UX:Value:=.agg #[.int .i64 0,.string ByteArray.empty]
theorem jF.look {w:World}{m:Nat}{g:Int->Option Value}(h:jF w m g)(k:Int):
  (Instr.lookup 102 (.map (some m)) (.int .i64 k) true).run Tryz.prog w=.ok (.tuple #[(g k).getD UX,.bool (g k).isSome]) w:=by
 obtain⟨es,clock,hb,hk,hg⟩:=h;rcases ox k es.toList 0 hk with⟨h1,h2⟩| ⟨j,e,h1,h2,h3,h4⟩
 ·have e:=hg k;rw[h1]at e;rw[<-e];simp[Instr.lookup,run_underlying Tryz.underlying102,MapKept.run_getObj_map hb,ma,oy k _ w _ h2,Result.andThen];rfl
 ·have e1:=hg k;rw[h2]at e1;rw[<-e1];simp[Instr.lookup,run_underlying Tryz.underlying102,MapKept.run_getObj_map hb,ma,oy k _ w _ h4,Result.andThen]
theorem jF.kept {w w':World}{m:Nat}{g:Int->Option Value}(h:jF w m g)(e:w'.heap[m]? =w.heap[m]?):jF w' m g:=by
 obtain⟨es,clock,hb,r⟩:=h;exact⟨es,clock,e.trans hb,r⟩
theorem jF.lt {w:World}{m:Nat}{g:Int->Option Value}(h:jF w m g):m<w.heap.size:=by
 obtain⟨es,clock,hb,_⟩:=h;exact(Array.getElem?_eq_some_iff.1 hb).1
theorem jF.empty {w:World}{m clock:Nat}(h:w.heap[m]? =some (.map #[] clock)):jF w m (fun _=>none):=⟨_,_,h,(fun e he=>by simp at he),fun k=>by simp⟩
theorem qL (w:World){m k:Nat}(h:k≠m)(o:Obj):(setBlock w m o).heap[k]? =w.heap[k]? :=by simp[setBlock,Ne.symm h]
def UY (l:List Wr):List Value:=l.flatMap fun p=>[.int .i64 p.1,.string p.2]
def mapOf (pend:List Wr)(k:Int):Option Value:=if k<0 then none else(jg pend k.toNat pend.length).map fun s=>.agg #[.int .i64 k,.string s]
theorem DW:mapOf []=fun _=>none:=by funext k;simp[mapOf,jg]
structure Mem (w:World)(b m g:Nat)(pv:Value)(br:Bool)(lf:Int)(d:Dk):Prop where
 blk:w.heap[b]? =some (.cells #[.slice (some ⟨g,0,none⟩) d.sure.length d.sure.length,pv,.map (some m),.bool br,.int .i64 lf,.bool d.down,.int .i64 d.reads,.int .i64 d.writes] 110 (0,0))
 row:w.heap[g]? =some (.cells (d.sure.map Value.string).toArray 9 (0,0))
 XO:w.ownsRow 0 127 2 pv d.pend.length (UY d.pend)
 map:jF w m (mapOf d.pend)
 enc:d.down=false->(d.brk=none∧br=false)∨∃k:Nat,d.brk=some k∧br=true∧lf=k
 ok:d.Ok
 bg:b≠g
 bm:b≠m
 gm:g≠m
 pb:pv.ownBlock≠some b
 pg:pv.ownBlock≠some g
 pm:pv.ownBlock≠some m
structure cY (X:Nat->Prop)(w w':World):Prop where
 os:w'.os=w.os
 tape:w'.tape=w.tape
 output:w'.output=w.output
 size:w.heap.size<=w'.heap.size
 block:∀k,k<w.heap.size->¬X k->w'.heap[k]? =w.heap[k]?
def Mine (X:Nat->Prop)(w:World)(b:Nat)(d:Dk):Prop:=
 (∃m g pv br lf,Mem w b m g pv br lf d∧X b∧X m∧X g∧∀k,pv.ownBlock=some k->X k)∧∀k,X k->k<w.heap.size
theorem cY.refl (X:Nat->Prop)(w:World):cY X w w:=⟨rfl,rfl,rfl,Nat.le_refl _,fun _ _ _=>rfl⟩
theorem cY.trans {X Y:Nat->Prop}{u v w:World}(h:cY X u v)(k:cY Y v w)(hY:∀k,Y k->X k∨u.heap.size<=k):cY X u w:=
 ⟨k.os.trans h.os,k.tape.trans h.tape,k.output.trans h.output,Nat.le_trans h.size k.size,fun i hi hx=>(k.block i (Nat.lt_of_lt_of_le hi h.size) (fun hy=>(hY i hy).elim hx (fun h1=>by omega))).trans (h.block i hi hx)⟩
theorem cY.alloc (X:Nat->Prop)(w:World)(o:Obj):cY X w (w.alloc o):=⟨rfl,rfl,rfl,by simp,fun k hk _=>Below.heap_alloc _ _ _ hk⟩
theorem cY.setCell {X:Nat->Prop}(w:World){b o:Nat}(hb:X b)(v:Value):cY X w (w.setCell ⟨b,o,none⟩ v):=
 ⟨rfl,rfl,rfl,by simp[World.setCell],fun k _ hx=>Below.heap_setCell _ _ _ _ (fun e=>hx (by rw[e];exact hb))⟩
theorem cY.setBlock {X:Nat->Prop}(w:World){b:Nat}(hb:X b)(o:Obj):cY X w (setBlock w b o):=
 ⟨rfl,rfl,rfl,by simp[Go.ChangeMaps.setBlock],fun k _ hx=>qL w (fun e=>hx (by rw[e];exact hb)) o⟩
theorem cY.grown {X:Nat->Prop}{w w':World}{row:Option Nat}(h:w.grownBy w' row)(hX:∀k,row=some k->X k):cY X w w':=
 ⟨h.os,h.tape,h.output,h.size,fun k hk hx=>h.block k hk (fun e=>hx (hX k e.symm))⟩
theorem cY.below {X:Nat->Prop}{B:Nat}{a w w':World}(hb:Below B a w)(h:cY X w w')(hB:B<=w.heap.size)(hX:∀k,X k->B<=k):Below B a w':=
 hb.trans ⟨h.os,h.tape,h.output,h.size,fun k hk=>h.block k (by omega) (fun hx=>by have:=hX k hx;omega)⟩
theorem fR {w w':World}{base:Nat}{e:TypeId}{size:Nat}{v:Value}{n:Nat}{xs:List Value}(h:w.ownsRow base e size v n xs)(hk:∀k,v.ownBlock=some k->w'.heap[k]? =w.heap[k]?):w'.ownsRow base e size v n xs:=by
 refine⟨h.1,?_⟩;rcases h.2 with hn| ⟨g,cap,cur,rfl,hb,hg,rest⟩
 ·exact .inl hn
 ·exact .inr ⟨g,cap,cur,rfl,hb,(hk g rfl).trans hg,rest⟩
theorem Mem.kept {w w':World}{b m g:Nat}{pv:Value}{br:Bool}{lf:Int}{d:Dk}(h:Mem w b m g pv br lf d)(hb:w'.heap[b]? =w.heap[b]?)(hm:w'.heap[m]? =w.heap[m]?)(hg:w'.heap[g]? =w.heap[g]?)(hp:∀k,pv.ownBlock=some k->w'.heap[k]? =w.heap[k]?):Mem w' b m g pv br lf d:=
 ⟨hb.trans h.blk,hg.trans h.row,fR h.XO hp,h.map.kept hm,h.enc,h.ok,h.bg,h.bm,h.gm,h.pb,h.pg,h.pm⟩
theorem Mem.pk {w:World}{b m g:Nat}{pv:Value}{br:Bool}{lf:Int}{d:Dk}(h:Mem w b m g pv br lf d){k:Nat}(hk:pv.ownBlock=some k):k<w.heap.size∧k≠b∧k≠g∧k≠m:=
 ⟨(h.XO.lt k hk).2,fun e=>h.pb (by rw[hk,e]),fun e=>h.pg (by rw[hk,e]),fun e=>h.pm (by rw[hk,e])⟩
theorem Mem.bl {w:World}{b m g:Nat}{pv:Value}{br:Bool}{lf:Int}{d:Dk}(h:Mem w b m g pv br lf d):b<w.heap.size:=(Array.getElem?_eq_some_iff.1 h.blk).1
theorem Mem.gl {w:World}{b m g:Nat}{pv:Value}{br:Bool}{lf:Int}{d:Dk}(h:Mem w b m g pv br lf d):g<w.heap.size:=(Array.getElem?_eq_some_iff.1 h.row).1
end
section
open Go.RowKit
open Go.ChangeMaps (setBlock)
abbrev ptr (b:Nat):Value:=.pointer (some ⟨b,0,none⟩)
theorem tX {a b:Bool}(h:a=b):Ending.returned (.bool a)=.returned (.bool b):=by rw[h]
section
variable {w:World}{b m g:Nat}{pv:Value}{br:Bool}{lf:Int}{d:Dk}
theorem Mem.c0 (h:Mem w b m g pv br lf d):w.cell? ⟨b,0,none⟩=some (.slice (some ⟨g,0,none⟩) d.sure.length d.sure.length):=by simp[World.cell?,h.blk]
theorem Mem.c2 (h:Mem w b m g pv br lf d):w.cell? ⟨b,2,none⟩=some (.map (some m)):=by simp[World.cell?,h.blk]
theorem Mem.c5 (h:Mem w b m g pv br lf d):w.cell? ⟨b,5,none⟩=some (.bool d.down):=by simp[World.cell?,h.blk]
theorem Mem.c6 (h:Mem w b m g pv br lf d):w.cell? ⟨b,6,none⟩=some (.int .i64 d.reads):=by simp[World.cell?,h.blk]
theorem Mem.fz (h:Mem w b m g pv br lf d)(o:Nat):w.frozen? ⟨b,o,none⟩=false:=by simp[World.frozen?,h.blk]
theorem PU (h:Mem w b m g pv br lf d):Calls Tryz.prog 64 #[ptr b] w fun e w'=>e=.returned (.bool d.down)∧w=w':=by
 have c5:=h.c5;have lt:=h.bl;clear h;go_enter Tryz.func64,Tryz.ntmps64;go_wp2;go_ret;exact⟨rfl,rfl⟩
theorem tY (h:Mem w b m g pv br lf d):Calls Tryz.prog 96 #[ptr b] w fun e w'=>e=.returned (.int .i64 d.sure.length)∧w=w':=by
 have c0:=h.c0;have lt:=h.bl;clear h;go_enter Tryz.func96,Tryz.ntmps96;go_wp2;go_ret;exact⟨rfl,rfl⟩
theorem UZ (h:Mem w b m g pv br lf d)(i:Int):Calls Tryz.prog 65 #[ptr b,.int .i64 i] w fun e w'=>e=.returned (.bool (d.has i))∧w=w':=by
 have C:Hid (Calls Tryz.prog 96 #[ptr b] w fun e w'=>e=.returned (.int .i64 d.sure.length)∧w=w'):=tY h;have lt:=h.bl;clear h;by_cases h0:0<=i
 ·go_enter Tryz.func65,Tryz.ntmps65
  go_wp2_with fail
  refine Calls.mono C.out ?_;rintro e w1 ⟨rfl,rfl⟩;go_wp2;go_ret;exact⟨tX (by unfold Dk.has;simp[h0]),rfl⟩
 ·have h1:i<0:=by omega
  go_enter Tryz.func65,Tryz.ntmps65;go_wp2;go_ret;exact⟨tX (by unfold Dk.has;simp;omega),rfl⟩
theorem Mem.U0 (h:Mem w b m g pv br lf d){i:Nat}(hi:i<d.sure.length):w.cell? ⟨g,i,none⟩=some (.string (FD d.sure i)):=by
 simp[World.cell?,h.row,hi,FD]
theorem U4 (o:Nat)(x y:Int)(c:w.cell? ⟨b,o,none⟩=some (.int .i64 x))(f:w.frozen? ⟨b,o,none⟩=false):Calls Tryz.prog 66 #[.pointer (some ⟨b,o,none⟩),.int .i64 y] w fun e w'=>e=.returned (.int .i64 (wrap64 (x+y)))∧w'=w.setCell ⟨b,o,none⟩ (.int .i64 (wrap64 (x+y))):=by
 have hl:=run_call_add (P:=Tryz.prog) Tryz.func101 (by kernel_rfl) (by kernel_rfl) (by kernel_rfl) .i64 (by kernel_rfl) (y:=y) (s:=wrap64 (x+y)) c f (by simp[go_sem,wrap64,IntKind.wrap_i64]);go_enter Tryz.func66,Tryz.ntmps66;go_wp2;go_ret;exact⟨rfl,rfl⟩
end
end
section
open Go.RowKit
open Go.ChangeMaps (setBlock)
structure iD (b:Nat)(w w':World):Prop where
 os:w'.os=w.os
 tape:w'.tape=w.tape
 output:w'.output=w.output
 size:w'.heap.size=w.heap.size
 block:∀k,k≠b->w'.heap[k]? =w.heap[k]?
theorem iD.refl (b:Nat)(w:World):iD b w w:=⟨rfl,rfl,rfl,rfl,fun _ _=>rfl⟩
theorem iD.trans {b:Nat}{u v w:World}(h:iD b u v)(k:iD b v w):iD b u w:=
 ⟨k.os.trans h.os,k.tape.trans h.tape,k.output.trans h.output,k.size.trans h.size,fun i hi=>(k.block i hi).trans (h.block i hi)⟩
theorem iD.setCell (b o:Nat)(w:World)(v:Value):iD b w (w.setCell ⟨b,o,none⟩ v):=
 ⟨rfl,rfl,rfl,by simp[World.setCell],fun k hk=>Below.heap_setCell _ _ _ _ hk⟩
section
variable {w w':World}{b m g:Nat}{pv:Value}{br:Bool}{lf:Int}{d:Dk}
theorem Mem.upd (h:Mem w b m g pv br lf d)(o:iD b w w'){WS:Bool}{zW:Int}{d':Dk}(hs:d'.sure=d.sure)(hp:d'.pend=d.pend)
  (hb:w'.heap[b]? =some (.cells #[.slice (some ⟨g,0,none⟩) d.sure.length d.sure.length,pv,.map (some m),.bool WS,.int .i64 zW,.bool d'.down,.int .i64 d'.reads,.int .i64 d'.writes] 110 (0,0)))
  (enc:d'.down=false->(d'.brk=none∧WS=false)∨∃k:Nat,d'.brk=some k∧WS=true∧zW=k)(ok:d'.Ok):Mem w' b m g pv WS zW d':=
 ⟨by rw[hs];exact hb,by rw[hs];exact(o.block g h.bg.symm).trans h.row,by rw[hp];exact fR h.XO (fun k hk=>o.block k (h.pk hk).2.1),by rw[hp];exact h.map.kept (o.block m h.bm.symm),enc,ok,h.bg,h.bm,h.gm,h.pb,h.pg,h.pm⟩
def U5 (w:World)(b m g:Nat)(pv:Value)(d:Dk):Prop:=∃br lf,Mem w b m g pv br lf d
theorem Mem.XP (h:Mem w b m g pv br lf d)(x:Int):Mem (w.setCell ⟨b,6,none⟩ (.int .i64 x)) b m g pv br lf {d with reads:=x}:=
 h.upd (iD.setCell b 6 w _) rfl rfl (by simp[World.setCell,Array.getElem?_modify,h.blk]) h.enc ⟨h.ok.len,h.ok.sz,h.ok.pd,h.ok.brk⟩
theorem Mem.alloc (h:Mem w b m g pv br lf d)(o:Obj):Mem (w.alloc o) b m g pv br lf d:=
 h.kept (Below.heap_alloc _ _ _ h.bl) (Below.heap_alloc _ _ _ h.map.lt) (Below.heap_alloc _ _ _ h.gl) (fun k hk=>Below.heap_alloc _ _ _ (h.pk hk).1)
end
end
section
open Go.RowKit
open Go.ChangeMaps (setBlock)
section
variable {w w':World}{b m g:Nat}{pv:Value}{br:Bool}{lf:Int}{d:Dk}
theorem PV (h:Mem w b m g pv br lf d)(i:Int):Calls Tryz.prog 62 #[ptr b,.int .i64 i] w fun e w'=>e=.returned (.tuple #[.string (d.get i).1.1,.int .i64 (d.get i).1.2])∧cY (fun k=>k=b) w w'∧U5 w' b m g pv (d.get i).2:=by
 have H:Hid (Mem w b m g pv br lf d):=h;have C1:Hid (Calls Tryz.prog 64 #[ptr b] w fun e w'=>e=.returned (.bool d.down)∧w=w'):=PU h;have C2:Hid (Calls Tryz.prog 65 #[ptr b,.int .i64 i] w fun e w'=>e=.returned (.bool (d.has i))∧w=w'):=UZ h i;have lt:=h.bl;have hl:=h.ok.len;by_cases hd:d.down=true
 ·have HG:Hid (d.get i=((ByteArray.empty,4),d)):=by show d.get i=_;unfold Dk.get;rw[if_pos hd]
  clear h;go_enter Tryz.func62,Tryz.ntmps62
  go_wp2_with fail
  refine Calls.mono C1.out ?_;rintro e w1 ⟨rfl,rfl⟩;go_wp2;go_ret2;rw[HG.out];exact⟨rfl,cY.refl _ _,br,lf,H.out⟩
 ·have hf:d.down=false:=by simpa using hd
  by_cases hi:d.has i=true
  ·have HG:Hid (d.get i=((d.now i.toNat,0),{d with reads:=wrap64 (d.reads+1)})):=by show d.get i=_;unfold Dk.get;rw[if_neg hd,if_pos hi]
   obtain⟨h0,h1⟩:=of_decide_eq_true hi;obtain⟨n,rfl⟩:∃n:Nat,i=n:=⟨i.toNat,by omega⟩;have hn:n<d.sure.length:=by omega
   have C3:Hid (Calls Tryz.prog 66 #[.pointer (some ⟨b,6,none⟩),.int .i64 1] w fun e w'=>e=.returned (.int .i64 (wrap64 (d.reads+1)))∧w'=w.setCell ⟨b,6,none⟩ (.int .i64 (wrap64 (d.reads+1)))):=U4 6 _ _ h.c6 (h.fz 6);obtain⟨w2,e2⟩:∃w2,w2=w.setCell ⟨b,6,none⟩ (.int .i64 (wrap64 (d.reads+1))):=⟨_,rfl⟩;have h2:Mem w2 b m g pv br lf {d with reads:=wrap64 (d.reads+1)}:=by rw[e2];exact h.XP _
   have H2:Hid (Mem w2 b m g pv br lf {d with reads:=wrap64 (d.reads+1)}):=h2;have T2:Hid (cY (fun k=>k=b) w w2):=by show cY _ _ _;rw[e2];exact cY.setCell (X:=fun k=>k=b) w rfl _
   rw[<-e2]at C3;have c0:=h2.c0;have c2:=h2.c2;have lt2:=h2.bl;have gl2:=h2.gl;have cg:=h2.U0 (i:=n) hn;have hlk:=h2.map.look n;have HN:Hid (d.now (n:Int).toNat=(jg d.pend n d.pend.length).getD (FD d.sure n)):=qK _ _ _ _;have em:mapOf d.pend n=(jg d.pend n d.pend.length).map fun s=>.agg #[.int .i64 n,.string s]:=by unfold mapOf;rw[if_neg (by omega)];rfl
   clear h h2 e2;cases hlast:jg d.pend n d.pend.length with
   |none=>
    rw[hlast]at em HN;rw[em]at hlk;have HLK:(Instr.lookup 102 (.map (some m)) (.int .i64 n) true).run Tryz.prog w2=.ok (.tuple #[.agg #[.int .i64 0,.string ByteArray.empty],.bool false]) w2:=hlk;clear hlast em hlk;go_enter Tryz.func62,Tryz.ntmps62
    go_wp2_with fail
    refine Calls.mono C1.out ?_;rintro e w1 ⟨rfl,rfl⟩
    go_wp2_with fail
    refine Calls.mono C2.out ?_;rintro e w1 ⟨rfl,rfl⟩
    go_wp2_with fail
    refine Calls.mono C3.out ?_;rintro e w1 ⟨rfl,rfl⟩;go_wp2;go_ret2;rw[HG.out];refine⟨?_,T2.out.trans (cY.alloc (fun k=>k=b) _ _) (fun _ hk=>.inl hk),br,lf,H2.out.alloc _⟩;rw[HN.out];rfl
   |some s=>
    rw[hlast]at em HN;rw[em]at hlk;have HLK:(Instr.lookup 102 (.map (some m)) (.int .i64 n) true).run Tryz.prog w2=.ok (.tuple #[.agg #[.int .i64 n,.string s],.bool true]) w2:=hlk;clear hlast em hlk;go_enter Tryz.func62,Tryz.ntmps62
    go_wp2_with fail
    refine Calls.mono C1.out ?_;rintro e w1 ⟨rfl,rfl⟩
    go_wp2_with fail
    refine Calls.mono C2.out ?_;rintro e w1 ⟨rfl,rfl⟩
    go_wp2_with fail
    refine Calls.mono C3.out ?_;rintro e w1 ⟨rfl,rfl⟩;go_wp2;go_ret2;rw[HG.out];refine⟨?_,T2.out.trans (cY.alloc (fun k=>k=b) _ _) (fun _ hk=>.inl hk),br,lf,H2.out.alloc _⟩;rw[HN.out];rfl
  ·have hif:d.has i=false:=by simpa using hi
   have HG:Hid (d.get i=((ByteArray.empty,40),d)):=by show d.get i=_;unfold Dk.get;rw[if_neg hd,if_neg hi]
   clear h;go_enter Tryz.func62,Tryz.ntmps62
   go_wp2_with fail
   refine Calls.mono C1.out ?_;rintro e w1 ⟨rfl,rfl⟩
   go_wp2_with fail
   refine Calls.mono C2.out ?_;rintro e w1 ⟨rfl,rfl⟩;go_wp2;go_ret2;rw[HG.out];exact⟨rfl,cY.refl _ _,br,lf,H.out⟩
end
end
section
open Go.RowKit
open Go.ChangeMaps (setBlock)
section
variable {w w':World}{b m g:Nat}{pv:Value}{br:Bool}{lf:Int}{d:Dk}
abbrev bx (n:Nat)(s:ByteArray):Obj:=.cells #[.int .i64 n,.string s] 127
end
end
section
open Go.RowKit
open Go.ChangeMaps (setBlock)
section
variable {w w':World}{b m g:Nat}{pv:Value}{br:Bool}{lf:Int}{d:Dk}
end
end
section
open Go.RowKit
open Go.ChangeMaps (setBlock)
def ng (w:World)(v:Value)(l:List Int):Prop:=
 ∃ao cap,v=.slice ao l.length cap∧(l≠[]->∃r o,ao=some ⟨r,o,none⟩∧r<w.heap.size∧∀j,j<l.length->w.cell? ⟨r,o+j,none⟩=some (.int .i64 (l.getD j 0)))
theorem tZ {keep:List Int}{t:Nat}(ht:t<keep.length):keep.take (t+1)=keep.take t++[keep.getD t 0]:=by
 rw[List.take_add_one,List.getElem?_eq_getElem ht,List.getD_eq_getElem?_getD,List.getElem?_eq_getElem ht];rfl
section
variable {w w':World}{b m g:Nat}{pv:Value}{br:Bool}{lf:Int}{d:Dk}
end
end
section
open Go.RowKit
end
section
open Go.RowKit
open Go.ChangeMaps (setBlock)
theorem zX:(Tryz.prog.info? 9).map (fun i=>(i.zero,i.size,i.bytes))=some (some (.string ByteArray.empty),1,16):=by kernel_rfl
def dQ (N t:Nat):List ByteArray:=List.replicate t jE++List.replicate (N-t) ByteArray.empty
theorem tu {N t:Nat}(h:t<=N):(dQ N t).length=N:=by simp[dQ];omega
theorem zY {N t:Nat}(h:t<N):dQ N (t+1)=(dQ N t).set t jE:=by
 unfold dQ;rw[List.set_append_right _ _ (by simp),show N-t=(N- (t+1))+1 by omega,List.replicate_succ' (n:=t),List.replicate_succ (n:=N- (t+1))];simp
theorem zZ (N:Nat):dQ N N=List.replicate N jE:=by simp[dQ]
theorem DX (w:World)(N:Nat)(hN:N<1000000):(Instr.makeSlice 66 (.int .i64 N) (.int .i64 N)).run Tryz.prog w=.ok (.slice (some ⟨w.heap.size,0,none⟩) N N) (w.alloc (.cells ((dQ N 0).map Value.string).toArray 9)):=by
 obtain⟨i0,hi,hz0,hz1,hz2⟩:=info_parts zX;have h:=run_make (P:=Tryz.prog) w 66 9 i0 _ Tryz.underlying66 hi hz0 .i64 .i64 N N (by omega) (Int.le_refl _) (by rw[hz2];omega) (by omega);rw[h];have e:madeCells (Value.string ByteArray.empty).cells ((N:Int).toNat*i0.size)=((dQ N 0).map Value.string).toArray:=by
  rw[hz1,Int.toNat_natCast,Nat.mul_one];apply Array.toList_inj.1;rw[show(Value.string ByteArray.empty).cells=#[Value.string ByteArray.empty]from rfl,toList_madeCells_one];simp[dQ]
 rw[e];simp
theorem uX:(⟨(Lib.repeatL [0] 256).toArray⟩:ByteArray)=jE:=by decide+kernel
theorem U6 (n:Int)(w:World):Calls Tryz.prog 25 #[.int .i64 n] w fun e w'=>∃b,e=.returned (ptr b)∧Below w.heap.size w w'∧Mine (fun k=>w.heap.size<=k∧k<w'.heap.size) w' b (Dk.new n):=by
 obtain⟨N,hN⟩:∃N:Nat,N=(min (max n 0) 16384).toNat:=⟨_,rfl⟩;have hNl:N<=16384:=by omega
 have HD:Hid (Dk.new n=⟨List.replicate N jE,[],none,false,0,0⟩):=by show Dk.new n=_;unfold Dk.new;rw[hN]
 have OKD:Hid ((Dk.new n).Ok):=Dk.zV n;have hmk:=DX w N (by omega);have hmm:=@run_makeMap Tryz.prog;obtain⟨w1,e1⟩:∃w1,w1=w.alloc (.cells ((dQ N 0).map Value.string).toArray 9):=⟨_,rfl⟩;rw[<-e1]at hmk;have Q1:Hid (w1.heap[w.heap.size]? =some (.cells ((dQ N 0).map Value.string).toArray 9 (0,0))):=by show _=_;rw[e1];exact heap_alloc_new w _
 have B1:Hid (Below w.heap.size w w1):=by show Below _ _ _;rw[e1];exact(Below.refl _ _).alloc (Nat.le_refl _) _
 have S1:w1.heap.size=w.heap.size+1:=by rw[e1];simp
 clear e1;have hmx:min (max n 0) 16384=(N:Int):=by omega
 clear hN;go_enter Tryz.func25,Tryz.ntmps25
 go_wp2_with fail
 obtain⟨w3,e3⟩:∃w3,w3=(w1.alloc (.map #[] 0)).alloc (.cells #[.slice (some ⟨w.heap.size,0,none⟩) N N,.slice none 0 0,.map (some (w.heap.size+1)),.bool false,.int .i64 0,.bool false,.int .i64 0,.int .i64 0] 110):=⟨_,rfl⟩;rw[<-e3];have hA:(w1.alloc (.map #[] 0)).heap.size=w.heap.size+1+1:=by simp[S1]
 have P3:Hid (w3.heap[w.heap.size+1+1]? =some (.cells #[.slice (some ⟨w.heap.size,0,none⟩) N N,.slice none 0 0,.map (some (w.heap.size+1)),.bool false,.int .i64 0,.bool false,.int .i64 0,.int .i64 0] 110 (0,0))):=by
  show _=_;rw[e3,<-hA];exact heap_alloc_new _ _
 have K3:Hid (∀k,k<w1.heap.size->w3.heap[k]? =w1.heap[k]?):=fun k hk=>by
  rw[e3];exact(Below.heap_alloc _ _ k (by rw[hA];omega)).trans (Below.heap_alloc _ _ k hk)
 have N3:Hid (w3.heap[w.heap.size+1]? =some (.map #[] 0)):=by
  show _=_;rw[e3,Below.heap_alloc _ _ _ (by rw[hA];omega),<-S1];exact heap_alloc_new _ _
 have S3:w3.heap.size=w.heap.size+3:=by rw[e3];simp[S1]
 have B3:Hid (Below w.heap.size w w3):=by show Below _ _ _;rw[e3];exact(B1.out.alloc (by omega) _).alloc (by rw[hA];omega) _
 clear e3 hA;have RC:Hid (Calls Tryz.prog 55 #[.string ⟨#[0]⟩,.int .i64 (256:Nat)] w3 fun e w'=>e=.returned (.string ⟨(Lib.repeatL [0] 256).toArray⟩)∧Below w3.heap.size w3 w'):=Tryz.strings_Repeat ⟨#[0]⟩ 256 w3 (by omega) (by show 1*256<=_;omega);refine Calls.mono RC.out ?_;rintro e w4 ⟨rfl,b4⟩;rw[uX];have B4:Hid (Below w3.heap.size w3 w4):=b4;have s4:w.heap.size+3<=w4.heap.size:=by rw[<-S3];exact b4.size
 have P4:Hid (w4.heap[w.heap.size+1+1]? =some (.cells #[.slice (some ⟨w.heap.size,0,none⟩) N N,.slice none 0 0,.map (some (w.heap.size+1)),.bool false,.int .i64 0,.bool false,.int .i64 0,.int .i64 0] 110 (0,0))):=(b4.block _ (by omega)).trans P3.out;have N4:Hid (w4.heap[w.heap.size+1]? =some (.map #[] 0)):=(b4.block _ (by omega)).trans N3.out;have Q4:Hid (w4.heap[w.heap.size]? =some (.cells ((dQ N 0).map Value.string).toArray 9 (0,0))):=(b4.block _ (by omega)).trans ((K3.out _ (by omega)).trans Q1.out);have c0:w4.cell? ⟨w.heap.size+1+1,0,none⟩=some (.slice (some ⟨w.heap.size,0,none⟩) N N):=by simp[World.cell?,P4.out]
 have lt4:w.heap.size+1+1<w4.heap.size:=by omega
 clear b4 RC hmm hmk hmx;obtain⟨z,hz⟩:∃z,z=jE:=⟨_,rfl⟩;rw[<-hz];have HZ:Hid (z=jE):=hz;clear hz;go_wp2
 go_loopg [19] N (fun gk s19 wr=>∃t:Nat,s19=.int .i64 t∧t<=N∧N-t<=gk∧Aside (wr.heap[w.heap.size]? =some (.cells ((dQ N t).map Value.string).toArray 9 (0,0)))∧Hid (iD w.heap.size w4 wr))
 case atStart=>exact⟨0,rfl,Nat.zero_le _,Nat.le_refl _,Q4.out,iD.refl _ _⟩
 case round=>
  obtain⟨t,rfl,ht,hgt,HQ,HO⟩:=hrel;have cr:wr.cell? ⟨w.heap.size+1+1,0,none⟩=some (.slice (some ⟨w.heap.size,0,none⟩) N N):=(World.cell?_of_block (a:=⟨w.heap.size+1+1,0,none⟩) (HO.out.block _ (by show w.heap.size+1+1≠w.heap.size;omega))).trans c0;have ltr:w.heap.size+1+1<wr.heap.size:=by rw[HO.out.size];exact lt4
  by_cases htl:t<N
  ·have htz:(t:Int)< (N:Int):=by omega
   have q0:wr.cell? ⟨w.heap.size,t,none⟩=some (.string (FD (dQ N t) t)):=by
    have hl:t< (dQ N t).length:=by rw[tu ht];exact htl
    simp only[World.cell?,HQ.out];simp[FD,hl]
   have qf:wr.frozen? ⟨w.heap.size,t,none⟩=false:=by simp[World.frozen?,HQ.out]
   have Hfs:Hid (dQ N (t+1)=(dQ N t).set t jE):=zY htl;generalize FD (dQ N t) t=old at*;go_wp2
   go_roundg (N- (t+1))
   case measure=>omega
   case rel=>
    refine⟨t+1,by go_num,by omega,Nat.le_refl _,?_,HO.out.trans (iD.setCell _ _ _ _)⟩;show _=_;rw[Hfs.out,HZ.out];simp[World.setCell,Array.getElem?_modify,HQ.out]
  ·have htz:¬(t:Int)< (N:Int):=by omega
   obtain rfl:t=N:=by omega
   have fin:Below w.heap.size w wr∧Mine (fun k=>w.heap.size<=k∧k<wr.heap.size) wr (w.heap.size+1+1) (Dk.new n):=by
    refine⟨B3.out.trans ⟨HO.out.os.trans B4.out.os,HO.out.tape.trans B4.out.tape,HO.out.output.trans B4.out.output,by rw[HO.out.size];omega,fun k hk=>(HO.out.block k (by omega)).trans (B4.out.block k (by omega))⟩,⟨w.heap.size+1,w.heap.size,.slice none 0 0,false,0,?_,by omega,by omega,by omega,fun k hk=>by simp[Value.ownBlock]at hk⟩,fun k hk=>hk.2⟩;have OK:=OKD.out;rw[HD.out]at OK⊢;refine⟨?_,?_,World.ownsRow_nil _ _ _ _,?_,fun _=>.inl ⟨rfl,rfl⟩,OK,by omega,by omega,by omega,by simp[Value.ownBlock],by simp[Value.ownBlock],by simp[Value.ownBlock]⟩
    ·rw[HO.out.block _ (by omega),P4.out];simp
    ·rw[HQ.out,zZ]
    ·rw[DW];exact jF.empty ((HO.out.block _ (by omega)).trans N4.out)
   have FIN:Hid (Below w.heap.size w wr∧Mine (fun k=>w.heap.size<=k∧k<wr.heap.size) wr (w.heap.size+1+1) (Dk.new n)):=fin;clear fin HQ HO;go_wp2;go_ret;exact⟨_,rfl,FIN.out⟩
end
section
open Go.RowKit
def Goes (X:Nat->Prop)(w w':World)(b:Nat)(d':Dk):Prop:=∃X',Mine X' w' b d'∧cY X w w'∧∀k,X' k->X k∨w.heap.size<=k
section
variable {X:Nat->Prop}{w w':World}{b m g:Nat}{pv pv':Value}{br:Bool}{lf:Int}{d d':Dk}
theorem LB (hl:∀k,X k->k<w.heap.size)(hM:U5 w' b m g pv' d')(xb:X b)(xm:X m)(xg:X g)(hp:∀k,pv'.ownBlock=some k->X k∨w.heap.size<=k)(ht:cY X w w'):Goes X w w' b d':=by
 obtain⟨br,lf,h⟩:=hM;refine⟨fun k=>X k∨(w.heap.size<=k∧k<w'.heap.size),⟨⟨m,g,pv',br,lf,h,.inl xb,.inl xm,.inl xg,fun k hk=>(hp k hk).elim .inl (fun h1=>.inr ⟨h1,(h.pk hk).1⟩)⟩,fun k hk=>?_⟩,ht,fun k hk=>hk.elim .inl (fun h=>.inr h.1)⟩;rcases hk with h1|h1
 ·exact Nat.lt_of_lt_of_le (hl k h1) ht.size
 ·exact h1.2
theorem cY.sub {Y:Nat->Prop}(t:cY Y w w')(h:∀k,Y k->X k):cY X w w':=⟨t.os,t.tape,t.output,t.size,fun k hk hx=>t.block k hk (fun hy=>hx (h k hy))⟩
theorem DY (h:Mine X w b d):Calls Tryz.prog 96 #[ptr b] w fun e w'=>e=.returned (.int .i64 d.sure.length)∧w=w':=by
 obtain⟨⟨m,g,pv,br,lf,hM,_⟩,_⟩:=h;exact tY hM
theorem PW (h:Mine X w b d)(i:Int):Calls Tryz.prog 62 #[ptr b,.int .i64 i] w fun e w'=>e=.returned (.tuple #[.string (d.get i).1.1,.int .i64 (d.get i).1.2])∧Goes X w w' b (d.get i).2:=by
 obtain⟨⟨m,g,pv,br,lf,hM,xb,xm,xg,xp⟩,hl⟩:=h;refine(PV hM i).mono ?_;rintro e w' ⟨he,ht,hm⟩;exact⟨he,LB hl hm xb xm xg (fun k hk=>.inl (xp k hk)) (ht.sub (fun k hk=>by subst hk;exact xb))⟩
end
end
section
open Go.RowKit
abbrev aP:=World->(Nat->Prop)->Prop
structure Good (r:aP):Prop where
 kept:∀w w' X,r w X->(∀k,X k->w'.heap[k]? =w.heap[k]?)->w.heap.size<=w'.heap.size->r w' X
 lt:∀w X,r w X->∀k,X k->k<w.heap.size
def Hp (w:World):List aP->(Nat->Prop)->Prop
 |[],Y=>∀k,¬Y k
 |r::l,Y=>Good r∧∃X Z,r w X∧Hp w l Z∧(∀k,X k->¬Z k)∧∀k,Y k↔X k∨Z k
def Sep (B:Nat)(w0 w:World)(l:List aP):Prop:=B<=w.heap.size∧Below B w0 w∧∃Y,Hp w l Y∧∀k,Y k->B<=k
theorem Hp.lt {w:World}:∀ {l:List aP} {Y:Nat->Prop},Hp w l Y->∀k,Y k->k<w.heap.size
 |[],_,h,k,hk=>absurd hk (h k)
 |r::l,_,⟨g,X,Z,hr,hl,_,hy⟩,k,hk=>by
  rcases(hy k).1 hk with h|h
  ·exact g.lt w X hr k h
  ·exact hl.lt k h
theorem Hp.kept {w w':World}(hs:w.heap.size<=w'.heap.size):∀ {l:List aP} {Y:Nat->Prop},Hp w l Y->(∀k,Y k->w'.heap[k]? =w.heap[k]?)->Hp w' l Y
 |[],_,h,_=>h
 |r::l,_,⟨g,X,Z,hr,hl,hd,hy⟩,hk=>⟨g,X,Z,g.kept w w' X hr (fun k h=>hk k ((hy k).2 (.inl h))) hs,hl.kept hs (fun k h=>hk k ((hy k).2 (.inr h))),hd,hy⟩
theorem Hp.swap {w:World}{a b:aP}{l:List aP}{Y:Nat->Prop}(h:Hp w (a::b::l) Y):Hp w (b::a::l) Y:=by
 obtain⟨ga,X,Z,ha,⟨gb,X2,Z2,hb,hl,hd2,hy2⟩,hd,hy⟩:=h;refine⟨gb,X2,fun k=>X k∨Z2 k,hb,⟨ga,X,Z2,ha,hl,fun k hk h2=>hd k hk ((hy2 k).2 (.inr h2)),fun k=>Iff.rfl⟩,fun k hk h2=>?_,fun k=>?_⟩
 ·rcases h2 with h2|h2
  ·exact hd k h2 ((hy2 k).2 (.inl hk))
  ·exact hd2 k hk h2
 ·rw[hy k,hy2 k];constructor
  ·rintro(h|h|h)
   ·exact .inr (.inl h)
   ·exact .inl h
   ·exact .inr (.inr h)
  ·rintro(h|h|h)
   ·exact .inr (.inl h)
   ·exact .inl h
   ·exact .inr (.inr h)
theorem Hp.under {w:World}{a:aP}{l l':List aP}{Y:Nat->Prop}(h:Hp w (a::l) Y)(f:∀Z,Hp w l Z->Hp w l' Z):Hp w (a::l') Y:=by
 obtain⟨ga,X,Z,ha,hl,hd,hy⟩:=h;exact⟨ga,X,Z,ha,f Z hl,hd,hy⟩
section
variable {B:Nat}{w0 w w':World}{a b c e:aP}{l:List aP}
theorem Sep.map {l l':List aP}(h:Sep B w0 w l)(f:∀Z,Hp w l Z->Hp w l' Z):Sep B w0 w l':=by
 obtain⟨hB,hb,Y,hl,hY⟩:=h;exact⟨hB,hb,Y,f Y hl,hY⟩
theorem Sep.qM (h:Sep B w0 w (a::b::l)):Sep B w0 w (b::a::l):=h.map fun _=>Hp.swap
theorem Sep.U7 (h:Sep B w0 w (a::b::c::l)):Sep B w0 w (c::a::b::l):=(h.map fun _ h=>Hp.under h fun _=>Hp.swap).qM
theorem Sep.up3 (h:Sep B w0 w (a::b::c::e::l)):Sep B w0 w (e::a::b::c::l):=(h.map fun _ h=>Hp.under h fun _ h=>Hp.under h fun _=>Hp.swap).U7
theorem Sep.XQ (h:Sep B w0 w (c::a::b::l)):Sep B w0 w (a::b::c::l):=h.qM.map fun _ h=>Hp.under h fun _=>Hp.swap
theorem Sep.dn3 (h:Sep B w0 w (e::a::b::c::l)):Sep B w0 w (a::b::c::e::l):=h.XQ.map fun _ h=>Hp.under h fun _ h=>Hp.under h fun _=>Hp.swap
theorem Sep.XS {f:aP}(h:Sep B w0 w (f::a::b::c::e::l)):Sep B w0 w (a::b::c::e::f::l):=h.dn3.map fun _ h=>Hp.under h fun _ h=>Hp.under h fun _ h=>Hp.under h fun _=>Hp.swap
theorem Sep.PY (h:Sep B w0 w l):Below B w0 w:=h.2.1
theorem Sep.below {l:List aP}(h:Sep B w0 w l)(hb:Below w.heap.size w w'):Sep B w0 w' l:=by
 obtain⟨hB,hb0,Y,hl,hY⟩:=h;exact⟨Nat.le_trans hB hb.size,hb0.trans (hb.mono hB),Y,hl.kept hb.size (fun k hk=>hb.block k (hl.lt k hk)),hY⟩
theorem Sep.alloc {l:List aP}(h:Sep B w0 w l)(o:Obj):Sep B w0 (w.alloc o) l:=h.below ((Below.refl _ _).alloc (Nat.le_refl _) o)
theorem Sep.drew {l:List aP}(h:Sep B w0 w l):Sep B w0 w.drew l:=h.below (Below.refl _ _).drew
theorem Sep.nil (hB:B<=w.heap.size)(hb:Below B w0 w):Sep B w0 w []:=⟨hB,hb,fun _=>False,fun _ h=>h,fun _ h=>h.elim⟩
theorem Sep.step {a':aP}(h:Sep B w0 w (a::l))(g':Good a')(f:∀X,a w X->∃X',a' w' X'∧cY X w w'∧∀k,X' k->X k∨w.heap.size<=k):Sep B w0 w' (a'::l):=by
 obtain⟨hB,hb,Y,⟨ga,X,Z,ha,hl,hd,hy⟩,hY⟩:=h;obtain⟨X',ha',ht,hx⟩:=f X ha;have hlt:=hl.lt;refine⟨Nat.le_trans hB ht.size,ht.below hb hB (fun k hk=>hY k ((hy k).2 (.inl hk))),fun k=>X' k∨Z k,⟨g',X',Z,ha',hl.kept ht.size (fun k hk=>ht.block k (hlt k hk) (fun hx=>hd k hx hk)),fun k hk hz=>?_,fun k=>Iff.rfl⟩,fun k hk=>?_⟩
 ·rcases hx k hk with h1|h1
  ·exact hd k h1 hz
  ·have:=hlt k hz;omega
 ·rcases hk with h1|h1
  ·rcases hx k h1 with h2|h2
   ·exact hY k ((hy k).2 (.inl h2))
   ·omega
  ·exact hY k ((hy k).2 (.inr h1))
theorem Sep.add {a':aP}(h:Sep B w0 w l)(hb:Below w.heap.size w w')(g':Good a'){X:Nat->Prop}(ha:a' w' X)(hX:∀k,X k->w.heap.size<=k):Sep B w0 w' (a'::l):=by
 have h':=h.below hb;obtain⟨hB,_,Y,hl,hY⟩:=h;have hlt:=hl.lt;obtain⟨hB',hb',_⟩:=h';refine⟨hB',hb',fun k=>X k∨Y k,⟨g',X,Y,ha,hl.kept hb.size (fun k hk=>hb.block k (hlt k hk)),fun k hk hz=>?_,fun k=>Iff.rfl⟩,fun k hk=>?_⟩
 ·have:=hX k hk;have:=hlt k hz;omega
 ·rcases hk with h1|h1
  ·have:=hX k h1;omega
  ·exact hY k h1
end
def oP (b:Nat)(d:Dk):aP:=fun w X=>Mine X w b d
theorem nh (b:Nat)(d:Dk):Good (oP b d):=
 ⟨fun w w' X h hk hs=>by
  obtain⟨⟨m,g,pv,br,lf,hM,xb,xm,xg,xp⟩,hl⟩:=h
  exact⟨⟨m,g,pv,br,lf,hM.kept (hk _ xb) (hk _ xm) (hk _ xg) (fun k h=>hk k (xp k h)),xb,xm,xg,xp⟩,fun k hk=>Nat.lt_of_lt_of_le (hl k hk) hs⟩,fun w X h=>h.2⟩
section
variable {B:Nat}{w0 w w':World}{b:Nat}{d d':Dk}{l:List aP}
theorem Sep.mine (h:Sep B w0 w (oP b d::l)):∃X,Mine X w b d:=by
 obtain⟨_,_,Y,⟨_,X,_,ha,_⟩,_⟩:=h;exact⟨X,ha⟩
theorem Sep.ok (h:Sep B w0 w (oP b d::l)):d.Ok:=by
 obtain⟨X,⟨m,g,pv,br,lf,hM,_⟩,_⟩:=h.mine;exact hM.ok
theorem Calls.LC {P:Program}{f:Nat}{args:Array Value}{Q:Ending->World->Prop}{v:Value}(h:Sep B w0 w (oP b d::l))(hQ:∀X,Mine X w b d->Calls P f args w (fun e w'=>e=.returned v∧Goes X w w' b d')):Calls P f args w fun e w'=>e=.returned v∧Sep B w0 w' (oP b d'::l):=by
 obtain⟨hB,hb,Y,⟨ga,X,Z,ha,hl,hd,hy⟩,hY⟩:=h;refine(hQ X ha).mono ?_;rintro e w' ⟨he,X',hm,ht,hx⟩;refine⟨he,Nat.le_trans hB ht.size,ht.below hb hB (fun k hk=>hY k ((hy k).2 (.inl hk))),fun k=>X' k∨Z k,⟨nh b d',X',Z,hm,hl.kept ht.size (fun k hk=>ht.block k (hl.lt k hk) (fun hx=>hd k hx hk)),fun k hk hz=>?_,fun k=>Iff.rfl⟩,fun k hk=>?_⟩
 ·rcases hx k hk with h1|h1
  ·exact hd k h1 hz
  ·have:=hl.lt k hz;omega
 ·rcases hk with h1|h1
  ·rcases hx k h1 with h2|h2
   ·exact hY k ((hy k).2 (.inl h2))
   ·omega
  ·exact hY k ((hy k).2 (.inr h1))
theorem U8 (n:Int)(h:Sep B w0 w l):Calls Tryz.prog 25 #[.int .i64 n] w fun e w'=>∃b,e=.returned (ptr b)∧Sep B w0 w' (oP b (Dk.new n)::l):=by
 refine(U6 n w).mono ?_;rintro e w' ⟨b,he,hbl,hm⟩;exact⟨b,he,h.add hbl (nh _ _) hm (fun k hk=>hk.1)⟩
theorem DZ (h:Sep B w0 w (oP b d::l)):Calls Tryz.prog 96 #[ptr b] w fun e w'=>e=.returned (.int .i64 d.sure.length)∧w=w':=by obtain⟨X,hm⟩:=h.mine;exact DY hm
theorem PZ (h:Sep B w0 w (oP b d::l))(i:Int):Calls Tryz.prog 62 #[ptr b,.int .i64 i] w fun e w'=>e=.returned (.tuple #[.string (d.get i).1.1,.int .i64 (d.get i).1.2])∧Sep B w0 w' (oP b (d.get i).2::l):=Calls.LC (Q:=fun _ _=>True) h fun _ hm=>PW hm i
end
def aQ (e:TypeId)(v:Value)(cs:List Value):aP:=fun w X=>w.ownsRow 0 e 1 v cs.length cs∧∀k,X k↔v.ownBlock=some k
theorem good_row (e:TypeId)(v:Value)(cs:List Value):Good (aQ e v cs):=
 ⟨fun w w' X h hk _=>⟨fR h.1 (fun k hk'=>hk k ((h.2 k).2 hk')),h.2⟩,fun w X h k hk=>(h.1.lt k ((h.2 k).1 hk)).2⟩
section
variable {B:Nat}{w0 w w':World}{l:List aP}{e:TypeId}{v:Value}{cs:List Value}
theorem Sep.qN (h:Sep B w0 w l)(e:TypeId):Sep B w0 w (aQ e (.slice none 0 0) []::l):=
 h.add (Below.refl _ _) (good_row _ _ _) (X:=fun _=>False) ⟨by simpa using World.ownsRow_nil w 0 e 1,fun k=>by simp[Value.ownBlock]⟩ (fun _ h=>h.elim)
theorem Sep.row (h:Sep B w0 w (aQ e v cs::l)):w.ownsRow 0 e 1 v cs.length cs:=by
 obtain⟨_,_,Y,⟨_,X,_,ha,_⟩,_⟩:=h;exact ha.1
theorem Sep.cell (h:Sep B w0 w (aQ e v cs::l)){j:Nat}(hj:j<cs.length):∃r c,v=.slice (some ⟨r,0,none⟩) cs.length c∧cs.length<=c∧r<w.heap.size∧w.cell? ⟨r,j,none⟩=cs[j]? ∧w.frozen? ⟨r,j,none⟩=false:=by
 have hr:=h.row;rcases hr.2 with⟨_,h2⟩| ⟨g,cap,cur,h1,_,hg,hc,_⟩
 ·omega
 ·rw[h1]at hr;exact⟨g,cap,h1,hc,(Array.getElem?_eq_some_iff.1 hg).1,hr.cellAt j (by omega),hr.frozenAt j⟩
theorem Sep.shape (h:Sep B w0 w (aQ e v cs::l)):∃ao c,v=.slice ao cs.length c:=by
 rcases h.row.2 with⟨h1,h2⟩| ⟨g,cap,cur,h1,_⟩
 ·exact⟨none,0,by rw[h1,h2]⟩
 ·exact⟨_,_,h1⟩
end
theorem mb:(Tryz.prog.info? 9).map (fun i=>(i.zero,i.size,i.bytes))=some (some (.string ByteArray.empty),1,16):=by kernel_rfl
theorem py:(Tryz.prog.info? 3).map (fun i=>(i.zero,i.size,i.bytes))=some (some (.int .i64 0),1,8):=by kernel_rfl
section
variable {ops:Array Oper}{rest:List Oper}{o:Oper}{a:Act}{Q:Exit->Act->World->Prop}{B:Nat}{w0 w:World}{l:List aP}
theorem Sep.appended {e:TypeId}{v v':Value}{cs:List Value}{u:Value}{w':World}(h:Sep B w0 w (aQ e v cs::l))(h2:w'.ownsRow 0 e 1 v' (cs.length+1) (cs++[u]))(hg:w.grownBy w' v.ownBlock)(hloc:v'.ownBlock=v.ownBlock∨v'.ownBlock=some w.heap.size):Sep B w0 w' (aQ e v' (cs++[u])::l):=by
 refine h.step (good_row _ _ _) fun X hX=>⟨fun k=>v'.ownBlock=some k,⟨by rw[List.length_append];exact h2,fun k=>Iff.rfl⟩,cY.grown hg (fun k hk=>(hX.2 k).2 hk),fun k hk=>?_⟩;rcases hloc with e1|e1
 ·exact .inl ((hX.2 k).2 (e1▸hk))
 ·rw[e1]at hk;exact .inr (Nat.le_of_eq (Option.some.inj hk))
theorem xA {e:TypeId}{v:Value}{n:Nat}{cs:List Value}(h:w.ownsRow 0 e 1 v n cs):∃ao c,v=.slice ao n c:=by
 rcases h.2 with⟨h1,h2⟩| ⟨g,cap,cur,h1,_⟩
 ·exact⟨none,0,by rw[h1,h2]⟩
 ·exact⟨_,_,h1⟩
theorem LD (hgd:o.guard=.none)(s x:Operand)(ho:o.op=.call {callee:=.builtin .append,args:=#[s,x],argTypes:=#[66,66]})(v:Value)(cs:List Value)(hs:a.eval s=v)(h:Sep B w0 w (aQ 9 v cs::l))
  (r c:Nat)(t:ByteArray)(hx:a.eval x=.slice (some ⟨r,0,none⟩) 1 c)(c0:w.cell? ⟨r,0,none⟩=some (.string t))(hl:cs.length<100000)
  (hK:∀ao n' c' w',Sep B w0 w' (aQ 9 (.slice ao n' c') (cs++[.string t])::l)->wpList Tryz.prog ops Q rest (a.put o.dst (.slice ao n' c')) w'):wpList Tryz.prog ops Q (o::rest) a w:=by
 obtain⟨i0,hi,hz0,hz1,hz2⟩:=info_parts mb;refine wpList_append_own_at w hgd s x 66 ho 0 9 i0 _ 1 16 Tryz.underlying66 hi hz0 hz1 hz2 rfl (by decide) v cs.length cs hs h.row ⟨r,0,none⟩ 1 c [.string t] hx rfl (fun j u hj=>?_) (fun u hu=>by simp at hu;subst hu;rfl) (by unfold maxLen;omega) (by omega) (Nat.zero_le _) ?_
 ·match j,hj with
  |0,hj=>simp at hj;subst hj;exact c0
  |j+1,hj=>simp at hj
 ·intro v' w' h2 h3 _ h5;obtain⟨ao,c',rfl⟩:=xA h2;exact hK _ _ _ _ (h.appended h2 h3 h5)
theorem mf (hgd:o.guard=.none)(s x:Operand)(ho:o.op=.call {callee:=.builtin .append,args:=#[s,x],argTypes:=#[56,56]})(v:Value)(cs:List Value)(hs:a.eval s=v)(h:Sep B w0 w (aQ 3 v cs::l))
  (r c:Nat)(t:Int)(hx:a.eval x=.slice (some ⟨r,0,none⟩) 1 c)(c0:w.cell? ⟨r,0,none⟩=some (.int .i64 t))(hl:cs.length<100000)
  (hK:∀ao n' c' w',Sep B w0 w' (aQ 3 (.slice ao n' c') (cs++[.int .i64 t])::l)->wpList Tryz.prog ops Q rest (a.put o.dst (.slice ao n' c')) w'):wpList Tryz.prog ops Q (o::rest) a w:=by
 obtain⟨i0,hi,hz0,hz1,hz2⟩:=info_parts py;refine wpList_append_own_at w hgd s x 56 ho 0 3 i0 _ 1 8 Tryz.underlying56 hi hz0 hz1 hz2 rfl (by decide) v cs.length cs hs h.row ⟨r,0,none⟩ 1 c [.int .i64 t] hx rfl (fun j u hj=>?_) (fun u hu=>by simp at hu;subst hu;rfl) (by unfold maxLen;omega) (by omega) (Nat.zero_le _) ?_
 ·match j,hj with
  |0,hj=>simp at hj;subst hj;exact c0
  |j+1,hj=>simp at hj
 ·intro v' w' h2 h3 _ h5;obtain⟨ao,c',rfl⟩:=xA h2;exact hK _ _ _ _ (h.appended h2 h3 h5)
end
end
section
open Go.RowKit
structure Up (n:Nat)(d:Dk):Prop where
 dn:d.down=false
 br:d.brk=none
 sl:d.sure.length=n
end
section
open Go.RowKit
theorem Sep.drewN {B:Nat}{w0 w:World}{l:List aP}(h:Sep B w0 w l)(n:Nat):Sep B w0 (w.drewN n) l:=h.below ⟨rfl,rfl,rfl,Nat.le_refl _,fun _ _=>rfl⟩
end
section
open Go.RowKit
def Both (r s:aP):aP:=fun w X=>∃X1 X2,r w X1∧s w X2∧(∀k,X1 k->¬X2 k)∧∀k,X k↔X1 k∨X2 k
theorem aL {r s:aP}(gr:Good r)(gs:Good s):Good (Both r s):=
 ⟨fun w w' X ⟨X1,X2,h1,h2,hd,hx⟩ hk hs=>⟨X1,X2,gr.kept w w' X1 h1 (fun k h=>hk k ((hx k).2 (.inl h))) hs,gs.kept w w' X2 h2 (fun k h=>hk k ((hx k).2 (.inr h))) hs,hd,hx⟩,
  fun w X ⟨X1,X2,h1,h2,_,hx⟩ k hk=>((hx k).1 hk).elim (gr.lt w X1 h1 k) (gs.lt w X2 h2 k)⟩
theorem Hp.join {w:World}{r s:aP}{l:List aP}{Y:Nat->Prop}(h:Hp w (r::s::l) Y):Hp w (Both r s::l) Y:=by
 obtain⟨gr,X1,Z1,hr,⟨gs,X2,Z2,hs,hl,hd2,hy2⟩,hd1,hy1⟩:=h;refine⟨aL gr gs,fun k=>X1 k∨X2 k,Z2,⟨X1,X2,hr,hs,fun k h1 h2=>hd1 k h1 ((hy2 k).2 (.inl h2)),fun _=>Iff.rfl⟩,hl,fun k hk hz=>?_,fun k=>?_⟩
 ·rcases hk with h1|h1
  ·exact hd1 k h1 ((hy2 k).2 (.inr hz))
  ·exact hd2 k h1 hz
 ·rw[hy1 k,hy2 k,or_assoc]
theorem Hp.part {w:World}{r s:aP}{l:List aP}{Y:Nat->Prop}(gr:Good r)(gs:Good s)(h:Hp w (Both r s::l) Y):Hp w (r::s::l) Y:=by
 obtain⟨_,X,Z,⟨X1,X2,hr,hs,hd,hx⟩,hl,hdz,hy⟩:=h;refine⟨gr,X1,fun k=>X2 k∨Z k,hr,⟨gs,X2,Z,hs,hl,fun k h1 h2=>hdz k ((hx k).2 (.inr h1)) h2,fun _=>Iff.rfl⟩,fun k h1 h2=>?_,fun k=>?_⟩
 ·rcases h2 with h2|h2
  ·exact hd k h1 h2
  ·exact hdz k ((hx k).2 (.inl h1)) h2
 ·rw[hy k,hx k,or_assoc]
theorem Sep.join {B:Nat}{w0 w:World}{r s:aP}{l:List aP}(h:Sep B w0 w (r::s::l)):Sep B w0 w (Both r s::l):=h.map fun _=>Hp.join
def aF (q:Nat)(o:Obj):aP:=fun w X=>w.heap[q]? =some o∧∀k,X k↔k=q
theorem a8 (q:Nat)(o:Obj):Good (aF q o):=
 ⟨fun w w' X h hk _=>⟨(hk q ((h.2 q).2 rfl)).trans h.1,h.2⟩,fun w X h k hk=>by rw[(h.2 k).1 hk];exact(Array.getElem?_eq_some_iff.1 h.1).1⟩
theorem Sep.aO {B:Nat}{w0 w:World}{l:List aP}(h:Sep B w0 w l)(o:Obj):Sep B w0 (w.alloc o) (aF w.heap.size o::l):=
 h.add ((Below.refl _ _).alloc (Nat.le_refl _) _) (a8 _ _) (X:=fun k=>k=w.heap.size) ⟨heap_alloc_new w o,fun _=>Iff.rfl⟩ (fun k hk=>Nat.le_of_eq hk.symm)
theorem Sep.blk {B:Nat}{w0 w:World}{l:List aP}{q:Nat}{o:Obj}(h:Sep B w0 w (aF q o::l)):w.heap[q]? =some o:=by
 obtain⟨_,_,Y,⟨_,X,_,ha,_⟩,_⟩:=h;exact ha.1
theorem Sep.drop {B:Nat}{w0 w:World}{l:List aP}{a:aP}(h:Sep B w0 w (a::l)):Sep B w0 w l:=by
 obtain⟨hB,hb,Y,⟨_,X,Z,_,hl,_,hy⟩,hY⟩:=h;exact⟨hB,hb,Z,hl,fun k hk=>hY k ((hy k).2 (.inr hk))⟩
theorem Sep.P8 {B:Nat}{w0 w:World}{l:List aP}(h:Sep B w0 w l)(e:TypeId)(cs:List Value)(n:Nat)(hn:cs.length=n)(hm:n<=1000):Sep B w0 (w.alloc (.cells cs.toArray e)) (aQ e (.slice (some ⟨w.heap.size,0,none⟩) n n) cs::l):=by
 subst hn;exact h.add ((Below.refl _ _).alloc (Nat.le_refl _) _) (good_row _ _ _) (X:=fun k=>k=w.heap.size) ⟨World.ownsRow_lit w _ cs.length (Nat.zero_le _) (by unfold maxLen;omega) (by simp),fun k=>by simp[Value.ownBlock,eq_comm]⟩ (fun k hk=>Nat.le_of_eq hk.symm)
def bAt (l:List Bool)(i:Nat):Bool:=l.getD i false
def kAt (l:List UInt8)(i:Nat):UInt8:=l.getD i 0
end
end
section
open Go.RowKit
open Go.ChangeMaps (setBlock)
structure C3 where
 there:Bool
 kind:UInt8
 body:ByteArray
def c0:C3:=⟨false,0,ByteArray.empty⟩
def cV (c:C3):Value:=.agg #[.bool c.there,.int .u8 (c.kind.toNat:Int),.string c.body]
def RC (v:Value):Option (DataW Value×List MemPlace):=some (.held v,[])
def Wf (k:Int):Prop:=-9223372036854775808<=k∧k<=9223372036854775807
theorem Wf.lit {k:Int}(h:Wf k):(Lit.int .i64 k).wf=true:=by
 have h1:=h.1;have h2:=h.2;have e1:IntKind.min .i64=-9223372036854775808:=by decide
 have e2:IntKind.max .i64=9223372036854775807:=by decide
 unfold Lit.wf;simp only[e1,e2];simp[h1,h2]
theorem Wf.key {k:Int}(h:Wf k):keyOf Tryz.prog 3 (.int .i64 k)=some (.int .i64 k):=Maps.keyOf_int_mk Tryz.underlying3 h.lit
theorem ij:Maps.Keyed Tryz.prog 3:=Maps.int_keyed Tryz.underlying3
theorem U9 (w:World):(zeroValue 122).run Tryz.prog w=.ok (cV c0) w:=by kernel_rfl
abbrev Fr:=Int->Option C3
def View (D:DataW Value)(g:Fr):Prop:=∀k,Maps.has D (.int .i64 k)=(g k).isSome∧∀z,D.atKey (.int .i64 k) z=(g k).elim z fun c=>.held (cV c)
def gy (g:Fr)(k:Int)(c:C3):Fr:=fun q=>if q=k then some c else g q
def qO (g:Fr)(k:Int):Fr:=fun q=>if q=k then none else g q
theorem Gk:View (.map []) (fun _=>none):=fun k=>⟨rfl,fun z=>rfl⟩
theorem jG {q k:Int}(h:q≠k):(Lit.int .i64 q)≠.int .i64 k:=fun e=>h (by injection e)
theorem View.put {D:DataW Value}{g:Fr}(h:View D g)(hD:Maps.IsMap D)(k:Int)(c:C3):View (D.put (.int .i64 k) (.held (cV c))) (gy g k c):=by
 intro q;unfold gy;by_cases hq:q=k
 ·subst hq;rw[if_pos rfl];have hkl:WideAt.IsKeyLit (.int .i64 q):=by simp[WideAt.IsKeyLit]
  exact⟨Maps.has_put_same hD hkl _,fun z=>Maps.atKey_put_same hD hkl _ z⟩
 ·rw[if_neg hq];exact⟨(Maps.has_put_other (jG hq) _).trans (h q).1,fun z=>(Maps.atKey_put_other (jG hq) _ z).trans ((h q).2 z)⟩
theorem View.del {D:DataW Value}{g:Fr}(h:View D g)(k:Int):View (D.del (.int .i64 k)) (qO g k):=by
 intro q;unfold qO;by_cases hq:q=k
 ·subst hq;rw[if_pos rfl];exact⟨Maps.has_del_same,fun z=>Maps.atKey_del_same z⟩
 ·rw[if_neg hq];exact⟨(Maps.has_del_other (jG hq)).trans (h q).1,fun z=>(Maps.atKey_del_other (jG hq) z).trans ((h q).2 z)⟩
def mg (m:Nat)(g:Fr)(n:Nat):aP:=fun w X=>(∃D,w.ownsMap Tryz.prog 3 RC m n D∧View D g)∧∀k,X k↔k=m
theorem gR (m:Nat)(g:Fr)(n:Nat):Good (mg m g n):=
 ⟨fun w w' X h hk _=>by
  obtain⟨⟨D,⟨es,clock,hb,r⟩,hv⟩,hX⟩:=h
  exact⟨⟨D,⟨es,clock,(hk m ((hX m).2 rfl)).trans hb,r⟩,hv⟩,hX⟩,fun w X h k hk=>by
  obtain⟨⟨D,o,_⟩,hX⟩:=h
  rw[(hX k).1 hk];exact o.lt⟩
section
variable {B:Nat}{w0 w w':World}{l:List aP}{m n:Nat}{g:Fr}
theorem Sep.Qa (h:Sep B w0 w (mg m g n::l)):∃D,w.ownsMap Tryz.prog 3 RC m n D∧View D g:=by
 obtain⟨_,_,Y,⟨_,X,_,ha,_⟩,_⟩:=h;exact ha.1
theorem Sep.Qb (h:Sep B w0 w l):Sep B w0 (w.alloc (.map #[] 0)) (mg w.heap.size (fun _=>none) 0::l):=
 h.add ((Below.refl _ _).alloc (Nat.le_refl _) _) (gR _ _ _) (X:=fun k=>k=w.heap.size) ⟨⟨_,World.ownsMap_made w _ _ _,Gk⟩,fun _=>Iff.rfl⟩ (fun k hk=>Nat.le_of_eq hk.symm)
theorem Gl {v:Value}{z c:C3}{D:DataW Value}{ps:List MemPlace}{g:Option C3}(hv:RC v=some (D,ps))(hD:D=g.elim (.held (cV z)) fun c=>.held (cV c)):v=cV (g.getD z):=by
 unfold RC at hv;cases g with
 |none=>subst hD;simp at hv;exact hv.1
 |some c=>subst hD;simp at hv;exact hv.1
theorem Sep.Gm (h:Sep B w0 w (mg m g n::l)){k:Int}(hk:Wf k):(Instr.lookup 117 (.map (some m)) (.int .i64 k) true).run Tryz.prog w=.ok (.tuple #[cV ((g k).getD c0),.bool (g k).isSome]) w:=by
 obtain⟨D,o,hv⟩:=h.Qa;obtain⟨v,ps,hr,hR⟩:=o.look_ok ij Tryz.underlying117 (U9 w) (zd:=.held (cV c0)) (zp:=[]) rfl hk.key;rw[hr,Gl (z:=c0) (c:=c0) hR ((hv k).2 _),(hv k).1]
theorem cY.mapTurned {X:Nat->Prop}{w w':World}{m:Nat}(hm:X m)(h:w.mapTurned w' m):cY X w w':=by
 obtain⟨es,clock,es',clock',hb,rfl⟩:=h;exact cY.setBlock w hm _
theorem Sep.Qc (h:Sep B w0 w (mg m g n::l)){k:Int}(hk:Wf k)(c:C3)(hn:n<1000000):∃w',(Instr.mapUpdate 117 (.map (some m)) (.int .i64 k) (cV c)).run Tryz.prog w=.ok () w'∧Sep B w0 w' (mg m (gy g k c) (n+1)::l):=by
 obtain⟨D,o,hv⟩:=h.Qa;obtain⟨w',hr,o',ht⟩:=o.store ij Tryz.underlying117 (Nat.lt_of_lt_of_le hn (by decide)) hk.key (val:=cV c) (d:=.held (cV c)) (ps:=[]) rfl;refine⟨w',hr,h.step (gR _ _ _) fun X hX=>⟨X,⟨⟨_,o',hv.put o.isMap k c⟩,hX.2⟩,cY.mapTurned ((hX.2 m).2 rfl) ht,fun k hk=>.inl hk⟩⟩
theorem Sep.Qd (h:Sep B w0 w (mg m g n::l)){k:Int}(hk:Wf k)(ty:TypeId):∃w',(Builtin.delete_ #[117,3] ty #[.map (some m),.int .i64 k]).run Tryz.prog w=.ok (.tuple #[]) w'∧Sep B w0 w' (mg m (qO g k) n::l):=by
 obtain⟨D,o,hv⟩:=h.Qa;obtain⟨w',hr,o',ht⟩:=o.drop ij Tryz.underlying117 hk.key ty;refine⟨w',hr,h.step (gR _ _ _) fun X hX=>⟨X,⟨⟨_,o',hv.del k⟩,hX.2⟩,cY.mapTurned ((hX.2 m).2 rfl) ht,fun k hk=>.inl hk⟩⟩
end
end
section
open Go.RowKit
open Go.ChangeMaps (setBlock)
abbrev Gv:=Int->Option Value
def zN:Value:=.agg #[.bool false,.slice none 0 0,.slice none 0 0,.slice none 0 0]
theorem OP (w:World):(zeroValue 74).run Tryz.prog w=.ok zN w:=by kernel_rfl
def kO (D:DataW Value)(g:Gv):Prop:=∀k,Maps.has D (.int .i64 k)=(g k).isSome∧∀z,D.atKey (.int .i64 k) z=(g k).elim z fun c=>.held c
def xB (g:Gv)(k:Int)(c:Value):Gv:=fun q=>if q=k then some c else g q
def LF (g:Gv)(k:Int):Gv:=fun q=>if q=k then none else g q
theorem D6:kO (.map []) (fun _=>none):=fun k=>⟨rfl,fun z=>rfl⟩
theorem kO.put {D:DataW Value}{g:Gv}(h:kO D g)(hD:Maps.IsMap D)(k:Int)(c:Value):kO (D.put (.int .i64 k) (.held c)) (xB g k c):=by
 intro q;unfold xB;by_cases hq:q=k
 ·subst hq;rw[if_pos rfl];have hkl:WideAt.IsKeyLit (.int .i64 q):=by simp[WideAt.IsKeyLit]
  exact⟨Maps.has_put_same hD hkl _,fun z=>Maps.atKey_put_same hD hkl _ z⟩
 ·rw[if_neg hq];exact⟨(Maps.has_put_other (jG hq) _).trans (h q).1,fun z=>(Maps.atKey_put_other (jG hq) _ z).trans ((h q).2 z)⟩
theorem kO.del {D:DataW Value}{g:Gv}(h:kO D g)(k:Int):kO (D.del (.int .i64 k)) (LF g k):=by
 intro q;unfold LF;by_cases hq:q=k
 ·subst hq;rw[if_pos rfl];exact⟨Maps.has_del_same,fun z=>Maps.atKey_del_same z⟩
 ·rw[if_neg hq];exact⟨(Maps.has_del_other (jG hq)).trans (h q).1,fun z=>(Maps.atKey_del_other (jG hq) z).trans ((h q).2 z)⟩
def df (m:Nat)(g:Gv)(n:Nat):aP:=fun w X=>(∃D,w.ownsMap Tryz.prog 3 RC m n D∧kO D g)∧∀k,X k↔k=m
theorem cT (m:Nat)(g:Gv)(n:Nat):Good (df m g n):=
 ⟨fun w w' X h hk _=>by
  obtain⟨⟨D,⟨es,clock,hb,r⟩,hv⟩,hX⟩:=h
  exact⟨⟨D,⟨es,clock,(hk m ((hX m).2 rfl)).trans hb,r⟩,hv⟩,hX⟩,fun w X h k hk=>by
  obtain⟨⟨D,o,_⟩,hX⟩:=h
  rw[(hX k).1 hk];exact o.lt⟩
section
variable {B:Nat}{w0 w w':World}{l:List aP}{m n:Nat}{g:Gv}
theorem Sep.qP (h:Sep B w0 w (df m g n::l)):∃D,w.ownsMap Tryz.prog 3 RC m n D∧kO D g:=by
 obtain⟨_,_,Y,⟨_,X,_,ha,_⟩,_⟩:=h;exact ha.1
theorem Sep.BI (h:Sep B w0 w l):Sep B w0 (w.alloc (.map #[] 0)) (df w.heap.size (fun _=>none) 0::l):=
 h.add ((Below.refl _ _).alloc (Nat.le_refl _) _) (cT _ _ _) (X:=fun k=>k=w.heap.size) ⟨⟨_,World.ownsMap_made w _ _ _,D6⟩,fun _=>Iff.rfl⟩ (fun k hk=>Nat.le_of_eq hk.symm)
theorem nr {v:Value}{z c:Value}{D:DataW Value}{ps:List MemPlace}{g:Option Value}(hv:RC v=some (D,ps))(hD:D=g.elim (.held z) fun c=>.held c):v=g.getD z:=by
 unfold RC at hv;cases g with
 |none=>subst hD;simp at hv;exact hv.1
 |some c=>subst hD;simp at hv;exact hv.1
theorem Sep.LG (h:Sep B w0 w (df m g n::l)){k:Int}(hk:Wf k):(Instr.lookup 145 (.map (some m)) (.int .i64 k) true).run Tryz.prog w=.ok (.tuple #[((g k).getD zN),.bool (g k).isSome]) w:=by
 obtain⟨D,o,hv⟩:=h.qP;obtain⟨v,ps,hr,hR⟩:=o.look_ok ij Tryz.underlying145 (OP w) (zd:=.held zN) (zp:=[]) rfl hk.key;rw[hr,nr (z:=zN) (c:=zN) hR ((hv k).2 _),(hv k).1]
theorem Sep.Qe (h:Sep B w0 w (df m g n::l)){k:Int}(hk:Wf k):(Instr.lookup 145 (.map (some m)) (.int .i64 k) false).run Tryz.prog w=.ok (((g k).getD zN)) w:=by
 obtain⟨D,o,hv⟩:=h.qP;obtain⟨v,ps,hr,hR⟩:=o.lookup ij Tryz.underlying145 (OP w) (zd:=.held zN) (zp:=[]) rfl hk.key;rw[hr,nr (z:=zN) (c:=zN) hR ((hv k).2 _)]
theorem Sep.LH (h:Sep B w0 w (df m g n::l)){k:Int}(hk:Wf k)(c:Value)(hn:n<1000000):∃w',(Instr.mapUpdate 145 (.map (some m)) (.int .i64 k) c).run Tryz.prog w=.ok () w'∧Sep B w0 w' (df m (xB g k c) (n+1)::l):=by
 obtain⟨D,o,hv⟩:=h.qP;obtain⟨w',hr,o',ht⟩:=o.store ij Tryz.underlying145 (Nat.lt_of_lt_of_le hn (by decide)) hk.key (val:=c) (d:=.held c) (ps:=[]) rfl;refine⟨w',hr,h.step (cT _ _ _) fun X hX=>⟨X,⟨⟨_,o',hv.put o.isMap k c⟩,hX.2⟩,cY.mapTurned ((hX.2 m).2 rfl) ht,fun k hk=>.inl hk⟩⟩
theorem Sep.LI (h:Sep B w0 w (df m g n::l)){k:Int}(hk:Wf k)(ty:TypeId):∃w',(Builtin.delete_ #[145,3] ty #[.map (some m),.int .i64 k]).run Tryz.prog w=.ok (.tuple #[]) w'∧Sep B w0 w' (df m (LF g k) n::l):=by
 obtain⟨D,o,hv⟩:=h.qP;obtain⟨w',hr,o',ht⟩:=o.drop ij Tryz.underlying145 hk.key ty;refine⟨w',hr,h.step (cT _ _ _) fun X hX=>⟨X,⟨⟨_,o',hv.del k⟩,hX.2⟩,cY.mapTurned ((hX.2 m).2 rfl) ht,fun k hk=>.inl hk⟩⟩
end
def Gn (g:Gv)(L:List Int):Prop:=L.Pairwise (· < ·)∧∀k,k∈L↔(g k).isSome=true
theorem uY {w:World}{m n:Nat}{g:Gv}{D:DataW Value}(o:w.ownsMap Tryz.prog 3 RC m n D)(hv:kO D g){ss:List Int}(hp:ss.Perm (intKeys D)):Gn g (ss.mergeSort (fun x y=>decide (x<=y)))∧ss.length<=n:=by
 obtain⟨es,rfl,hpw,_⟩:=o.entries ij;obtain⟨es',hD',hko⟩:=o.keysOf;obtain rfl:es=es':=by simpa using hD'
 have hkk:∀p∈es,∃x,p.1=.int .i64 x:=fun p hp=>by obtain⟨v,hv⟩:=hko p hp;obtain⟨x,_,hx,_⟩:=Maps.keyOf_i64 Tryz.underlying3 hv;exact⟨x,hx⟩
 have hnd:(intKeys (.map es)).Nodup:=by
  show(es.map fun p=>Go.intOf p.1).Nodup;refine List.pairwise_map.2 (hpw.imp_of_mem fun {p q} hp' hq' hne e=>hne ?_);obtain⟨a,ha⟩:=hkk p hp';obtain⟨b,hb⟩:=hkk q hq';rw[ha,hb]at e⊢;exact congrArg _ e
 have hmem:∀x,x∈intKeys (.map es)↔(g x).isSome=true:=fun x=>by
  rw[<- (hv x).1,Maps.has_eq,List.any_eq_true];show x∈es.map (fun p=>Go.intOf p.1)↔_;rw[List.mem_map];constructor
  ·rintro⟨p,hp',rfl⟩;obtain⟨a,ha⟩:=hkk p hp';exact⟨p,hp',by rw[ha];simp[Lit.sameKey,Go.intOf]⟩
  ·rintro⟨p,hp',hs⟩;obtain⟨a,ha⟩:=hkk p hp';rw[ha]at hs;exact⟨p,hp',by rw[ha];simpa[Lit.sameKey,Go.intOf]using hs⟩
 refine⟨⟨?_,fun k=>?_⟩,?_⟩
 ·have tr:∀a b c:Int,leI a b=true->leI b c=true->leI a c=true:=fun a b c h1 h2=>by simp only[leI,decide_eq_true_eq]at*;exact Int.le_trans h1 h2
  have tt:∀a b:Int,(leI a b||leI b a)=true:=fun a b=>by simp only[leI,Bool.or_eq_true,decide_eq_true_eq];exact Int.le_total a b
  have h1:=List.pairwise_mergeSort tr tt ss;have h2:(ss.mergeSort leI).Nodup:=((List.mergeSort_perm ss leI).trans hp).nodup_iff.2 hnd;refine(List.pairwise_and_iff.2 ⟨h1,h2⟩).imp fun {a b} hab=>?_;have:=of_decide_eq_true hab.1;have h3:=hab.2;omega
 ·rw[((List.mergeSort_perm ss _).trans hp).mem_iff];exact hmem k
 ·rw[hp.length_eq];have:=o.size_le;simpa[intKeys,Maps.size]using this
end
section
section
open Go.RowKit
def tv (d:Dk)(id:Int):Bool:=decide (2<=id∧id<d.sure.length)
def qQ (kind:UInt8)(o:UInt8×List UInt8×Int):ByteArray×Int:=if o.2.2=0∧o.1=kind then(⟨o.2.1.toArray⟩,0)else(ByteArray.empty,3)
def Dk.rd (d:Dk)(id:Int)(kind:UInt8):(ByteArray×Int)×Dk:=
 if tv d id then(if(d.get id).1.2=0 then qQ kind (opn id (d.get id).1.1.data.toList)else(ByteArray.empty,(d.get id).1.2),(d.get id).2)else((ByteArray.empty,40),d)
def Va (id:Int)(kind:UInt8)(b:ByteArray):ByteArray:=⟨(cL id.toNat kind b.data.toList).toArray⟩
def Dk.room (d:Dk):Nat:=max d.sure.length 2
end
section
open Go.RowKit
def ua (b:Nat):Obj:=.cells #[ptr b] 113 (0,0)
def File (f b:Nat)(d:Dk):aP:=Both (oP b d) (aF f (ua b))
def cB (B:Nat)(w0:World):Prop:=∀u,Below B w0 u->tV u
theorem LJ {w:World}(h:tV w):cB w.heap.size w:=fun _ hu=>h.below hu
section
variable {B:Nat}{w0 w w':World}{f b:Nat}{d d':Dk}{l:List aP}
theorem Sep.part (h:Sep B w0 w (File f b d::l)):Sep B w0 w (oP b d::aF f (ua b)::l):=h.map fun _=>Hp.part (nh _ _) (a8 _ _)
theorem Sep.OQ (h:Sep B w0 w (File f b d::l)):w.cell? ⟨f,0,none⟩=some (ptr b)∧f<w.heap.size:=by
 have hb:=h.part.qM.blk;exact⟨by simp[World.cell?,hb,ua],(Array.getElem?_eq_some_iff.1 hb).1⟩
theorem Sep.fok (h:Sep B w0 w (File f b d::l)):d.Ok:=h.part.ok
theorem qR (ok:d.Ok){i:Nat}(hi:i<d.sure.length):∀n,n<=d.pend.length->(tW d.sure d.pend i n).size=256
 |0,_=>Gj ok.sz hi
 |n+1,hn=>by
  rw[qJ];split
  ·exact(PT ok (by omega)).2
  ·exact qR ok hi n (by omega)
theorem Dk.Gp (ok:d.Ok)(i:Int):(d.get i).1.1.size<=maxLen:=by
 unfold Dk.get;split
 ·unfold maxLen;simp
 ·split
  ·rename_i h
   have:=of_decide_eq_true h;show(d.now i.toNat).size<=maxLen;unfold Dk.now;rw[qR ok (by omega) _ (Nat.le_refl _)];decide
  ·unfold maxLen;simp
theorem Vb (h:Sep B w0 w (oP b d::l)):Calls Tryz.prog 26 #[ptr b] w fun e w'=>∃f,e=.returned (ptr f)∧Sep B w0 w' (File f b d::l):=by
 have S1:Hid (Sep B w0 (w.alloc (ua b)) (File w.heap.size b d::l)):=(h.aO (ua b)).qM.join;unfold ua at S1;clear h;go_enter Tryz.func26,Tryz.ntmps26;go_wp2;go_ret;exact⟨_,rfl,S1.out⟩
theorem z7 (h:Sep B w0 w (File f b d::l)):Calls Tryz.prog 56 #[ptr f] w fun e w'=>e=.returned (.int .i64 d.room)∧w=w':=by
 obtain⟨c0,hf⟩:=h.OQ;have C:Hid _:=DZ h.part;have hl:Hid (d.sure.length<=16384):=h.fok.len;clear h;go_enter Tryz.func56,Tryz.ntmps56
 go_wp2_with fail
 refine Calls.mono C.out ?_;rintro e w1 ⟨rfl,rfl⟩;clear C;go_wp2;go_ret;exact⟨j5 (by unfold Dk.room;omega),rfl⟩
theorem D7 (h:Sep B w0 w (File f b d::l))(id:Int):Calls Tryz.prog 61 #[ptr f,.int .i64 id] w fun e w'=>e=.returned (.bool (tv d id))∧w=w':=by
 have C:Hid _:=z7 h;clear h;by_cases h2:2<=id
 ·have E:Hid (decide (id< (d.room:Int))=tv d id):=by
   show _=_;unfold tv Dk.room;rw[decide_eq_decide];omega
  generalize tv d id=y at E;generalize d.room=R at*;go_enter Tryz.func61,Tryz.ntmps61
  go_wp2_with fail
  refine Calls.mono C.out ?_;rintro e w1 ⟨rfl,rfl⟩;clear C;go_wp2;go_ret;exact⟨qC E.out,rfl⟩
 ·have E:Hid (tv d id=false):=by
   show _=_;unfold tv;rw[decide_eq_false_iff_not];omega
  go_enter Tryz.func61,Tryz.ntmps61;go_wp2;go_ret;exact⟨qC E.out.symm,rfl⟩
theorem xC (kind:UInt8)(id:Int)(s:List UInt8):((opn id s).2.2≠0∧qQ kind (opn id s)=(ByteArray.empty,3)∧opn id s=(0,[],3))∨
  ((opn id s).2.2=0∧(opn id s).1≠kind∧qQ kind (opn id s)=(ByteArray.empty,3))∨((opn id s).2.2=0∧(opn id s).1=kind∧qQ kind (opn id s)=(⟨(opn id s).2.1.toArray⟩,0)):=by
 unfold qQ;by_cases h:(opn id s).2.2=0
 ·by_cases hk:(opn id s).1=kind
  ·exact .inr (.inr ⟨h,hk,by rw[if_pos ⟨h,hk⟩]⟩)
  ·exact .inr (.inl ⟨h,hk,by rw[if_neg (fun c=>hk c.2)]⟩)
 ·exact .inl ⟨h,by rw[if_neg (fun c=>h c.1)],Lx h⟩
theorem LN {a b:UInt8}(h:a≠b):((a.toNat:Int)==(b.toNat:Int))=false:=by
 rw[beq_eq_false_iff_ne];intro e;exact h (UInt8.toNat_inj.1 (by omega))
theorem Qf (T:cB B w0)(h:Sep B w0 w (File f b d::l))(id:Int)(kind:UInt8):
  Calls Tryz.prog 33 #[ptr f,.int .i64 id,.int .u8 (kind.toNat:Int)] w fun e w'=>e=.returned (.tuple #[.string (d.rd id kind).1.1,.int .i64 (d.rd id kind).1.2])∧Sep B w0 w' (File f b (d.rd id kind).2::l):=by
 have Uw:=D7 h id;have HS:Hid (Sep B w0 w (File f b d::l)):=h;obtain⟨c0,hf⟩:=h.OQ;cases hp:tv d id with
 |false=>
  rw[hp]at Uw;have CH:Hid _:=Uw;have E:Hid (d.rd id kind=((ByteArray.empty,40),d)):=by show _=_;unfold Dk.rd;rw[hp];rfl
  rw[E.out];clear h Uw hp;go_enter Tryz.func33,Tryz.ntmps33
  go_wp2_with fail
  refine Calls.mono CH.out ?_;rintro e w1 ⟨rfl,rfl⟩;clear CH;go_wp2;go_ret2;exact⟨rfl,HS.out⟩
 |true=>
  rw[hp]at Uw;have CH:Hid _:=Uw;have Ux:=PZ h.part id;have hz:=Dk.Gp h.fok id;have E:d.rd id kind=(if(d.get id).1.2=0 then qQ kind (opn id (d.get id).1.1.data.toList)else(ByteArray.empty,(d.get id).1.2),(d.get id).2):=by unfold Dk.rd;rw[hp];rfl
  rw[E];clear h Uw hp E HS;generalize(d.get id).1.1=s at*;generalize(d.get id).1.2=er at*;generalize(d.get id).2=d2 at*;have CR:Hid _:=Ux;clear Ux;by_cases he:er=0
  ·subst he;rw[if_pos rfl];have CO:Hid (∀u,tV u->_):=fun u hu=>Gg id s u hu hz;rcases xC kind id s.data.toList with⟨h1,h2,h3⟩| ⟨h1,h2,h3⟩| ⟨h1,h2,h3⟩
   ·rw[h2];rw[h3]at CO;clear h1 h2 h3;go_enter Tryz.func33,Tryz.ntmps33
    go_wp2_with fail
    refine Calls.mono CH.out ?_;rintro e w1 ⟨rfl,rfl⟩;clear CH
    go_wp2_with fail
    refine Calls.mono CR.out ?_;rintro e w2 ⟨rfl,s2⟩;have S2:Hid (Sep B w0 w2 (File f b d2::l)):=s2.join;have C3:Hid _:=CO.out w2 (T w2 s2.PY);clear CR s2 CO
    go_wp2_with fail
    refine Calls.mono C3.out ?_;rintro e w3 ⟨rfl,b3⟩;have S3:Hid (Sep B w0 w3 (File f b d2::l)):=S2.out.below b3;clear b3 C3 S2;go_wp2;go_ret2;exact⟨rfl,S3.out⟩
   ·rw[h3];have hne:=LN h2;rw[h1]at CO;clear h1 h2 h3;generalize(opn id s.data.toList).1.toNat=K at*;generalize(opn id s.data.toList).2.1.toArray=bo at*;go_enter Tryz.func33,Tryz.ntmps33
    go_wp2_with fail
    refine Calls.mono CH.out ?_;rintro e w1 ⟨rfl,rfl⟩;clear CH
    go_wp2_with fail
    refine Calls.mono CR.out ?_;rintro e w2 ⟨rfl,s2⟩;have S2:Hid (Sep B w0 w2 (File f b d2::l)):=s2.join;have C3:Hid _:=CO.out w2 (T w2 s2.PY);clear CR s2 CO
    go_wp2_with fail
    refine Calls.mono C3.out ?_;rintro e w3 ⟨rfl,b3⟩;have S3:Hid (Sep B w0 w3 (File f b d2::l)):=S2.out.below b3;clear b3 C3 S2;go_wp2;go_ret2;exact⟨rfl,S3.out⟩
   ·rw[h3];rw[h1,h2]at CO;clear h1 h2 h3;generalize(opn id s.data.toList).2.1.toArray=bo at*;go_enter Tryz.func33,Tryz.ntmps33
    go_wp2_with fail
    refine Calls.mono CH.out ?_;rintro e w1 ⟨rfl,rfl⟩;clear CH
    go_wp2_with fail
    refine Calls.mono CR.out ?_;rintro e w2 ⟨rfl,s2⟩;have S2:Hid (Sep B w0 w2 (File f b d2::l)):=s2.join;have C3:Hid _:=CO.out w2 (T w2 s2.PY);clear CR s2 CO
    go_wp2_with fail
    refine Calls.mono C3.out ?_;rintro e w3 ⟨rfl,b3⟩;have S3:Hid (Sep B w0 w3 (File f b d2::l)):=S2.out.below b3;clear b3 C3 S2;go_wp2;go_ret2;exact⟨rfl,S3.out⟩
  ·rw[if_neg he];have hne:(er != 0)=true:=by rw[bne_iff_ne];exact he
   clear he;go_enter Tryz.func33,Tryz.ntmps33
   go_wp2_with fail
   refine Calls.mono CH.out ?_;rintro e w1 ⟨rfl,rfl⟩;clear CH
   go_wp2_with fail
   refine Calls.mono CR.out ?_;rintro e w2 ⟨rfl,s2⟩;have S2:Hid (Sep B w0 w2 (File f b d2::l)):=s2.join;clear CR s2;go_wp2;go_ret2;exact⟨rfl,S2.out⟩
end
end
section
open Go.RowKit
def zs (s:ByteArray)(n:Nat):ByteArray:=⟨(s.data.toList++List.replicate n 0).toArray⟩
def ab:ByteArray:=⟨#[97,98]⟩
structure A1 where
 k:Int
 i:Int
 kd:UInt8
 s:ByteArray
def a0:A1:=⟨0,0,0,ByteArray.empty⟩
end
section
open Go.RowKit
structure aap (d:Dk)(kinds:List UInt8)(bodies:List ByteArray)(there:List Bool):Prop where
 kl:kinds.length=12
 bl:bodies.length=12
 tl:there.length=12
 yes:∀j,2<=j->j<12->bAt there j=true->d.now j=Va j (kAt kinds j) (FD bodies j)∧(FD bodies j).size<=240
 no:∀j,2<=j->j<12->bAt there j=false->d.now j=jE
end
end
end Go.Proofs.YtceoeaemenhbhaaGreatDoor
