/-
  The document's file as plain functions of the disk that it stands on.
-/
import Derived.Test.YtalljfckjkbieaaDoorPlain
import Derived.Test.YtalljfckjkbieaaDoorPgUse
namespace Go.Proofs.YtalljfckjkbieaaDoor
open Go.RowKit

/-- Whether there is a page of that number, or a slot. -/
def hasP (d : Dk) (id : Int) : Bool := decide (2 ≤ id ∧ id < d.sure.length)
def slotB (i : Int) : Bool := decide (0 ≤ i ∧ i < 2)
/-- What Open's answer is to who asks for one kind. -/
def openE (kind : UInt8) (o : UInt8 × List UInt8 × Int) : ByteArray × Int := if o.2.2 = 0 ∧ o.1 = kind then (⟨o.2.1.toArray⟩, 0) else (ByteArray.empty, 3)
def Dk.rd (d : Dk) (id : Int) (kind : UInt8) : (ByteArray × Int) × Dk :=
  if hasP d id then (if (d.get id).1.2 = 0 then openE kind (opn id (d.get id).1.1.data.toList) else (ByteArray.empty, (d.get id).1.2), (d.get id).2) else ((ByteArray.empty, 40), d)
def pageS (id : Int) (kind : UInt8) (b : ByteArray) : ByteArray := ⟨(pageL id.toNat kind b.data.toList).toArray⟩
def Dk.wr (d : Dk) (id : Int) (kind : UInt8) (b : ByteArray) : Int × Dk :=
  if hasP d id then (if 240 < b.size then (50, d) else d.put id (pageS id kind b)) else (40, d)
def Dk.slot (d : Dk) (i : Int) : (ByteArray × Int) × Dk := if slotB i then d.get i else ((ByteArray.empty, 40), d)
def Dk.putSlot (d : Dk) (i : Int) (s : ByteArray) : Int × Dk := if slotB i then d.put i s else (40, d)
def Dk.room (d : Dk) : Nat := max d.sure.length 2

theorem pageS_size (id : Int) (kind : UInt8) (b : ByteArray) (h : b.size ≤ 240) : (pageS id kind b).size = 256 := by
  unfold pageS; rw [ba_size, pageL_length _ _ _ (by simpa using h)]
theorem sealE_page {d : Dk} (ok : d.Ok) {id : Int} (h : hasP d id = true) {n : Nat} : sealE id n = if 240 < n then 50 else 0 := by
  have h1 := of_decide_eq_true h
  have h2 := ok.len
  unfold sealE
  split
  · rfl
  · rw [if_pos ((putB4 id).2 (by omega))]
theorem Dk.get_sure (d : Dk) (i : Int) : (d.get i).2.sure = d.sure ∧ (d.get i).2.pend = d.pend := by
  unfold Dk.get; split
  · exact ⟨rfl, rfl⟩
  · split <;> exact ⟨rfl, rfl⟩
theorem Dk.rd_same (d : Dk) (id : Int) (kind : UInt8) : (d.rd id kind).2.sure = d.sure ∧ (d.rd id kind).2.pend = d.pend := by
  unfold Dk.rd; split
  · exact d.get_sure id
  · exact ⟨rfl, rfl⟩
theorem Dk.slot_same (d : Dk) (i : Int) : (d.slot i).2.sure = d.sure ∧ (d.slot i).2.pend = d.pend := by
  unfold Dk.slot; split
  · exact d.get_sure i
  · exact ⟨rfl, rfl⟩
theorem Dk.wr_sure (d : Dk) (id : Int) (kind : UInt8) (b : ByteArray) : (d.wr id kind b).2.sure = d.sure ∧ (d.wr id kind b).2.pend.length ≤ d.pend.length + 1 := by
  unfold Dk.wr; split
  · split
    · exact ⟨rfl, Nat.le_succ _⟩
    · exact d.put_sure _ _
  · exact ⟨rfl, Nat.le_succ _⟩
theorem Dk.putSlot_sure (d : Dk) (i : Int) (s : ByteArray) : (d.putSlot i s).2.sure = d.sure ∧ (d.putSlot i s).2.pend.length ≤ d.pend.length + 1 := by
  unfold Dk.putSlot; split
  · exact d.put_sure _ _
  · exact ⟨rfl, Nat.le_succ _⟩

/-- A text with 256 bytes. -/
def fullS (s : ByteArray) : ByteArray := (⟨(s.data.toList ++ List.replicate (256 - s.size) 0).toArray⟩ : ByteArray).extract 0 256
theorem fullS_size (s : ByteArray) : (fullS s).size = 256 := by
  unfold fullS
  rw [ByteArray.size_extract, ba_size, List.length_append, List.length_replicate]
  have : s.data.toList.length = s.size := by simp
  omega

end Go.Proofs.YtalljfckjkbieaaDoor
