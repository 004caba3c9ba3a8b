/-
  Plain laws of bytes.
-/
import Derived.Test.YtkoonogfllndhabCdJoin
namespace Go.Proofs.Ytkoonogfllndhab
open Go.RowKit

theorem ba_eta (s : ByteArray) : s = ⟨s.data.toList.toArray⟩ := by cases s; simp

theorem ba_size (l : List UInt8) : (⟨l.toArray⟩ : ByteArray).size = l.length := by simp [ByteArray.size]

theorem ba_ext {s t : ByteArray} (h : s.data.toList = t.data.toList) : s = t := ByteArray.ext (Array.toList_inj.1 h)

theorem ba_head (l r : List UInt8) : (⟨(l ++ r).toArray⟩ : ByteArray).extract 0 l.length = ⟨l.toArray⟩ := by
  apply ba_ext; rw [Lib.extract_data]; simp

theorem ba_tail (l r : List UInt8) : (⟨(l ++ r).toArray⟩ : ByteArray).extract l.length (l.length + r.length) = ⟨r.toArray⟩ := by
  apply ba_ext; rw [Lib.extract_data]; simp

end Go.Proofs.Ytkoonogfllndhab
