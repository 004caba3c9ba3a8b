/-
  The walk of package alloc's Taken: the numbers of fresh pages, rising.
-/
import Derived.Test.YtnngfkjbbedkpaaGreatDoorAlNew
import Derived.Test.YtnngfkjbbedkpaaGreatDoorKeys
namespace Go.Proofs.YtnngfkjbbedkpaaGreatDoor
open Go.Shelf Go.RowKit Go.Maps Go.Sort
set_option linter.unusedVariables false

theorem sortsA (m : Nat) : AnyZI.SortsIn Tryz.prog Tryz.sortedA_ren Fence.wide m :=
  ⟨fun blk off cap ss W hH hblk hsz => callsIn_wide.2 (AnyM.slices_Sort_int Tryz.sortA blk off cap ss W hH hblk hsz),
   fun p cap W => callsIn_wide.2 (AnyM.slices_Sort_int_none Tryz.sortA p cap W)⟩

section
variable {B : Nat} {w0 w : World} {l : List Res} {t f b : Nat} {x : TX} {d : Dk}

set_option maxRecDepth 100000 in
set_option maxHeartbeats 1000000 in
theorem ttaken (h : Sep B w0 w (Tx t f x :: l)) (hn : x.cnt ≤ 1000000) : Calls Tryz.prog 32 #[ptr t] w fun e w' => ∃ (v : Value) (L : List Int), e = .returned v ∧ KeysOf x.fresh L ∧ L.length ≤ x.cnt ∧ w'.ownsRow w.heap.size 3 1 v L.length (L.map (Value.int .i64)) ∧ Below w.heap.size w w' := by
  obtain ⟨v, m, h⟩ := h.txOpen
  obtain ⟨ht, q0, q1, q2, q3, qf⟩ := h.txCells
  obtain ⟨D0, hown, hview⟩ := h.up2.map1
  have hsz := hown.size_le
  refine (callsIn_wide (n := 6)).1 ?_
  have hbl := hown.lt
  have hseq : SeqGives Fence.wide 2 Tryz.prog 86 #[.pointer (some ⟨w.heap.size, 0, none⟩)] encZ (fun ss => ss.Perm (intKeys D0)) (Maps.size D0) (w.alloc (.cells #[.map (some m)] 83)) :=
    AnyZI.keys_gives (ρ := Tryz.keysA_ren) { Tryz.keysA with } Fence.wide _ trivial rfl (by omega) w.heap.size m x.cnt D0 _ (by simp) (by simp) (by
      obtain ⟨es, clock, hb, Ft, hs, hD⟩ := hown
      exact ⟨es, clock, (Below.heap_alloc _ _ m hbl).trans hb, Ft, hs, hD⟩)
  have cG : ∀ W, CallsIn Fence.wide 5 Tryz.prog 45 #[ptr t] W fun e w' => e = .returned (ptr t) ∧ W = w' := fun W => callsIn_wide.2 (given_t W)
  have cK : ∀ mb W, CallsIn Fence.wide 5 Tryz.prog 57 #[.map mb] W fun e w' => e = .returned (.func (.func 86) #[] #[.pointer (some ⟨W.heap.size, 0, none⟩)]) ∧ w' = W.alloc (.cells #[.map mb] 83) := fun mb W => AnyZI.keys_in Tryz.keysA Fence.wide 5 trivial rfl mb W
  have cS := AnyZI.sorted_in Tryz.sortedA Fence.wide 5 trivial trivial trivial trivial rfl (by omega) (sortsA _) (enters_of Tryz.func85 (by kernel_rfl) rfl) 86 #[.pointer (some ⟨w.heap.size, 0, none⟩)] trivial (enters_of Tryz.func86 (by kernel_rfl) rfl) _ _ (Nat.le_trans hsz (Nat.le_trans hn (by decide))) (by omega) _ hseq
  change CallsIn _ _ Tryz.prog 56 _ _ _ at cS
  have hfK : Fence.wide.fn 57 := trivial
  have hfS : Fence.wide.fn 56 := trivial
  have hfG : Fence.wide.fn 45 := trivial
  have HO : Hid (w.ownsMap Tryz.prog 3 RC m x.cnt D0) := hown
  have HV : Hid (View D0 x.fresh) := hview
  clear h hown hview
  refine callsIn_of_wp Tryz.func32 rfl trivial ?_ rfl
  simp only [Tryz.ntmps32, List.size_toArray, List.length_cons, List.length_nil, Nat.reduceAdd, Nat.reduceSub, Array.replicate_succ, Array.replicate_zero, List.push_toArray, List.append_toArray, List.nil_append, List.cons_append]
  gi_wp2_with (first
    | (gi_at_call 45; refine (cG _).mono ?_; rintro e w' ⟨rfl, rfl⟩)
    | (gi_at_call 57; refine (cK _ _).mono ?_; rintro e w' ⟨rfl, rfl⟩)
    | (gi_at_call 56; refine cS.mono ?_; rintro e w' ⟨v, ss, rfl, hS, hrow, hnil, hb⟩))
  go_ret
  have hk := keys_sorted HO.out HV.out hS
  refine ⟨v, ss.mergeSort (fun x y => decide (x ≤ y)), rfl, hk.1, ?_, ?_, ((Below.refl _ w).alloc (Nat.le_refl _) _).trans (hb.mono (by simp))⟩
  · rw [List.length_mergeSort]; exact hk.2
  · rw [List.length_mergeSort]; exact ownsRow_base_a hrow (by simp)
end

end Go.Proofs.YtnngfkjbbedkpaaGreatDoor
