/-
  What the walks of NodeBack and NodeBytes stand on: Decode's answer by name; a node that fits is not great.
-/
import Derived.Test.YtmamnlphhiaeoaaNdDecD
import Derived.Test.YtmamnlphhiaeoaaNdEnc
import Derived.Test.YtmamnlphhiaeoaaNdSplit
namespace Go.Proofs.Ytmamnlphhiaeoaa
open Go.Shelf Go.RowKit Go.Lib Go.Sort

theorem ndecode_is (kind : Int) (S : ByteArray) (w : World) (hS : S.size ≤ maxLen) (n : Nd) (b : Bool) (h1 : deR kind S.data.toList = n) (h2 : deO kind S.data.toList = b) (er : Int) (h3 : deE2 b = er) :
    Calls Try.prog 18 #[.int .u8 kind, .string S] w fun e w' => ∃ ve vk vs, e = .returned (.tuple #[.agg #[.bool n.leaf, ve, vk, vs], .int .i64 er]) ∧ NdW w.heap.size w' ve vk vs n ∧ Below w.heap.size w w' := by
  have h := ndecode_any kind S w hS
  unfold GvD at h
  rw [h1, h2, h3] at h
  exact h
theorem szL_len (l : List En) : 2 * l.length ≤ szL l := by
  induction l with
  | nil => simp
  | cons x l ih =>
    have : szL (x :: l) = szE x + szL l := rfl
    rw [this]
    unfold szE
    simp only [List.length_cons]
    omega
theorem szK_len (l : List ByteArray) : 5 * l.length ≤ szK l := by
  induction l with
  | nil => simp
  | cons x l ih =>
    have : szK (x :: l) = 5 + x.size + szK l := rfl
    rw [this]
    simp only [List.length_cons]
    omega
theorem sm_fits {n : Nd} (h : rtN n = true) (hs : szN n ≤ 240) : Sm n := by
  have a := szL_len n.es
  have b := szK_len n.ss
  unfold szN at hs
  cases hl : n.leaf
  · rw [hl, if_neg (by simp)] at hs
    obtain ⟨h1, _, h3, _⟩ := (rtN_inner hl).1 h
    exact ⟨by rw [h1]; simp, by omega, by omega, by rw [h1]; simp [szL], by omega⟩
  · rw [hl, if_pos rfl] at hs
    obtain ⟨h1, h2, _⟩ := (rtN_leaf hl).1 h
    exact ⟨by omega, by rw [h1]; simp, by rw [h2]; simp, by omega, by rw [h2]; simp [szK]⟩
theorem de_en {n : Nd} (h : rtN n = true) (hs : szN n ≤ 240) : deR (enK n) (enS n).data.toList = n ∧ deO (enK n) (enS n).data.toList = true ∧ (enS n).size = szN n ∧ (enS n).size ≤ 240 := by
  obtain ⟨a, b, _⟩ := en_yes h hs
  have e : (enS n).data.toList = bdN n := by rw [b]
  have z : (enS n).size = szN n := by rw [Lib.size_eq, e, bdN_length h]
  rw [a, e]
  obtain ⟨c, d⟩ := deR_some (deN_body h hs)
  exact ⟨c, d, z, by rw [z]; exact hs⟩
theorem spA_sm {n : Nd} (h : Sm n) : Sm (spA n) := by
  obtain ⟨h1, h2, h3, h4, h5⟩ := h
  unfold spA
  split
  · refine ⟨by simp; omega, by simp, by simp, Nat.le_trans (szL_take_le _ _) h4, by simp [szK]⟩
  · refine ⟨by simp, by simp; omega, by simp; omega, by simp [szL], Nat.le_trans (szK_take_le _ _) h5⟩
theorem spB_sm {n : Nd} (h : Sm n) : Sm (spB n) := by
  obtain ⟨h1, h2, h3, h4, h5⟩ := h
  unfold spB
  split
  · refine ⟨by simp; omega, by simp, by simp, ?_, by simp [szK]⟩
    have e := List.take_append_drop (spK n) n.es
    have := szL_app (n.es.take (spK n)) (n.es.drop (spK n))
    rw [e] at this
    simp only; omega
  · refine ⟨by simp, by simp; omega, by simp; omega, by simp [szL], ?_⟩
    have e := List.take_append_drop (spK n) n.ss
    have := szK_app (n.ss.take (spK n)) (n.ss.drop (spK n))
    rw [e] at this
    simp only; omega

end Go.Proofs.Ytmamnlphhiaeoaa
