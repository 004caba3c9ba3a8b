/-
  Pages of a disk that is up: what was written is read; rows of twelve that were just made.
-/
import Derived.Test.YtalljfckjkbieaaDoorPfLaw
namespace Go.Proofs.YtalljfckjkbieaaDoor
open Go.RowKit
set_option linter.unusedVariables false

theorem hasP_up {n : Nat} {d : Dk} (h : Up n d) (i : Int) : hasP d i = decide (2 ≤ i ∧ i < n) := by unfold hasP; rw [h.sl]
/-- A page is written, or nothing has turned. -/
theorem Up.wr {n : Nat} {d : Dk} (h : Up n d) (i : Int) (k : UInt8) (s : ByteArray) :
    ((d.wr i k s).1 = 0 ∧ 2 ≤ i ∧ i < n ∧ s.size ≤ 240 ∧ Up n (d.wr i k s).2 ∧ (d.wr i k s).2.pend = d.pend ++ [(i.toNat, pageS i k s)] ∧ (d.wr i k s).2.sure = d.sure) ∨
    ((d.wr i k s).1 ≠ 0 ∧ (d.wr i k s).2 = d ∧ ¬ (2 ≤ i ∧ i < n ∧ s.size ≤ 240)) := by
  unfold Dk.wr
  rw [hasP_up h]
  by_cases hi : 2 ≤ i ∧ i < n
  · rw [decide_eq_true hi, if_pos rfl]
    by_cases hs : 240 < s.size
    · rw [if_pos hs]
      exact .inr ⟨by show (50 : Int) ≠ 0; decide, rfl, fun c => by omega⟩
    · rw [if_neg hs]
      rcases h.put i (pageS i k s) with ⟨p1, p2, p3, p4, p5, p6, p7, _⟩ | ⟨_, _, p3⟩
      · exact .inl ⟨p1, hi.1, hi.2, by omega, p5, p6, p7⟩
      · exact absurd ⟨by omega, hi.2, pageS_size _ _ _ (by omega)⟩ p3
  · rw [decide_eq_false hi, if_neg (by decide)]
    exact .inr ⟨by show (40 : Int) ≠ 0; decide, rfl, fun c => hi ⟨c.1, c.2.1⟩⟩
/-- A page is read. -/
theorem Up.rd {n : Nat} {d : Dk} (h : Up n d) (j : Nat) (k : UInt8) (h2 : 2 ≤ j) (hj : j < n) :
    (d.rd j k).1 = openE k (opn j (d.now j).data.toList) ∧ Up n (d.rd j k).2 ∧ (∀ i, (d.rd j k).2.now i = d.now i) ∧ (d.rd j k).2.pend = d.pend ∧ (d.rd j k).2.sure = d.sure := by
  unfold Dk.rd
  rw [hasP_up h, decide_eq_true (show 2 ≤ (j : Int) ∧ (j : Int) < (n : Int) by omega), if_pos rfl]
  obtain ⟨g1, g2, g3, g4, g5⟩ := h.get j hj
  rw [g1, if_pos rfl]
  exact ⟨rfl, g2, g3, g4, g5⟩
/-- A slot is read. -/
theorem Up.slot {n : Nat} {d : Dk} (h : Up n d) (j : Nat) (h2 : j < 2) (hj : j < n) :
    (d.slot j).1 = (d.now j, 0) ∧ Up n (d.slot j).2 ∧ (∀ i, (d.slot j).2.now i = d.now i) ∧ (d.slot j).2.pend = d.pend ∧ (d.slot j).2.sure = d.sure := by
  unfold Dk.slot
  rw [if_pos (by unfold slotB; exact decide_eq_true (by omega))]
  exact h.get j hj
/-- A slot is written, or nothing has turned. -/
theorem Up.putSlot {n : Nat} {d : Dk} (h : Up n d) (hn : 2 ≤ n) (i : Int) (s : ByteArray) (hs : s.size = 256) :
    ((d.putSlot i s).1 = 0 ∧ 0 ≤ i ∧ i < 2 ∧ Up n (d.putSlot i s).2 ∧ (d.putSlot i s).2.pend = d.pend ++ [(i.toNat, s)] ∧ (d.putSlot i s).2.sure = d.sure) ∨
    ((d.putSlot i s).1 ≠ 0 ∧ (d.putSlot i s).2 = d) := by
  unfold Dk.putSlot
  by_cases hi : 0 ≤ i ∧ i < 2
  · rw [if_pos (by unfold slotB; exact decide_eq_true hi)]
    rcases h.put i s with ⟨p1, p2, p3, p4, p5, p6, p7, _⟩ | ⟨_, _, p3⟩
    · exact .inl ⟨p1, hi.1, hi.2, p5, p6, p7⟩
    · exact absurd ⟨hi.1, by omega, hs⟩ p3
  · rw [if_neg (by unfold slotB; rw [decide_eq_true_iff]; exact hi)]
    exact .inr ⟨by show (40 : Int) ≠ 0; decide, rfl⟩

theorem open_page (j : Nat) (hj : j < 16384) (k : UInt8) (s : ByteArray) (hs : s.size ≤ 240) : openE k (opn j (pageS j k s).data.toList) = (s, 0) := by
  have e : sealE (j : Int) s.data.toList.length = 0 := sealE_zero.2 ⟨by simpa using hs, by omega, by omega⟩
  have := opn_page (j : Int) k s.data.toList e
  unfold pageS
  rw [show (⟨(pageL (j : Int).toNat k s.data.toList).toArray⟩ : ByteArray).data.toList = pageL (j : Int).toNat k s.data.toList from rfl, this]
  unfold openE
  rw [if_pos ⟨rfl, rfl⟩]
theorem opI_zero : opI zeroS.data.toList = 0 := by decide +kernel
/-- A sector of noughts is no page. -/
theorem open_zero (j : Nat) (h : 0 < j) (k : UInt8) : openE k (opn j zeroS.data.toList) = (ByteArray.empty, 3) := by
  have e : opn j zeroS.data.toList = (0, [], 3) := by
    rcases opn_cases (j : Int) zeroS.data.toList with ⟨k, b, h1, h2, _⟩ | ⟨_, h3⟩
    · have hz := sealE_zero.1 h1
      have := opI_page (j : Int).toNat k b (by omega)
      rw [← h2, opI_zero] at this
      omega
    · exact h3
  rw [e]
  unfold openE
  rw [if_neg (fun c => absurd c.1 (by decide))]
theorem new_now {n : Nat} {j : Nat} (hj : j < n) (hn : n ≤ 16384) : (Dk.new n).now j = zeroS := by
  unfold Dk.now Dk.new
  show sAt (List.replicate (min (max (n : Int) 0) 16384).toNat zeroS) j = zeroS
  unfold sAt
  rw [List.getD_eq_getElem?_getD, List.getElem?_replicate, if_pos (by omega)]
  rfl

theorem make12s (w : World) : (Instr.makeSlice 55 (.int .i64 12) (.int .i64 12)).run Tryd.prog w = .ok (.slice (some ⟨w.heap.size, 0, none⟩) 12 12) (w.alloc (.cells ((List.replicate 12 ByteArray.empty).map Value.string).toArray 9)) := by
  have h := make_strs w 12 (by omega)
  exact h
theorem make12b (w : World) : (Instr.makeSlice 77 (.int .i64 12) (.int .i64 12)).run Tryd.prog w = .ok (.slice (some ⟨w.heap.size, 0, none⟩) 12 12) (w.alloc (.cells ((List.replicate 12 false).map Value.bool).toArray 4)) := by
  have h := make_bools w [] 12 (by omega)
  exact h
/-- What each page of twelve sectors is wanted to read as. -/
structure Pages (d : Dk) (kinds : List UInt8) (bodies : List ByteArray) (there : List Bool) : Prop where
  kl : kinds.length = 12
  bl : bodies.length = 12
  tl : there.length = 12
  yes : ∀ j, 2 ≤ j → j < 12 → bAt there j = true → d.now j = pageS j (kAt kinds j) (sAt bodies j) ∧ (sAt bodies j).size ≤ 240
  no : ∀ j, 2 ≤ j → j < 12 → bAt there j = false → d.now j = zeroS
theorem Pages.new (k : UInt8) : Pages (Dk.new 12) (List.replicate 12 k) (List.replicate 12 ByteArray.empty) (List.replicate 12 false) := by
  refine ⟨rfl, rfl, rfl, fun j _ hj h => ?_, fun j _ hj _ => new_now (n := 12) hj (by omega)⟩
  rw [show bAt (List.replicate 12 false) j = false by unfold bAt; rw [List.getD_eq_getElem?_getD, List.getElem?_replicate, if_pos hj]; rfl] at h
  cases h
theorem Pages.same {d d2 : Dk} {kinds : List UInt8} {bodies : List ByteArray} {there : List Bool} (h : Pages d kinds bodies there) (hn : ∀ j, 2 ≤ j → j < 12 → d2.now j = d.now j) : Pages d2 kinds bodies there :=
  ⟨h.kl, h.bl, h.tl, fun j h2 hj ht => by rw [hn j h2 hj]; exact h.yes j h2 hj ht, fun j h2 hj ht => by rw [hn j h2 hj]; exact h.no j h2 hj ht⟩
theorem Pages.set {d d2 : Dk} {kinds : List UInt8} {bodies : List ByteArray} {there : List Bool} (h : Pages d kinds bodies there) {i : Nat} (hi : i < 12) {k : UInt8} {s : ByteArray} (hz : s.size ≤ 240) (hp : d2.pend = d.pend ++ [(i, pageS i k s)]) (hs : d2.sure = d.sure) :
    Pages d2 (kinds.set i k) (bodies.set i s) (there.set i true) := by
  have a1 := h.kl
  have a2 := h.bl
  have a3 := h.tl
  refine ⟨by rw [List.length_set]; exact a1, by rw [List.length_set]; exact a2, by rw [List.length_set]; exact a3, fun j h2 hj ht => ?_, fun j h2 hj ht => ?_⟩
  · rw [now_snoc hp hs, kAt_set _ (by omega), sAt_set _ (by omega)]
    rw [bAt_set _ (by omega)] at ht
    by_cases e : i = j
    · subst e
      rw [if_pos rfl, if_pos rfl, if_pos rfl]
      exact ⟨rfl, hz⟩
    · rw [if_neg e, if_neg e, if_neg e]
      rw [if_neg e] at ht
      exact h.yes j h2 hj ht
  · rw [bAt_set _ (by omega)] at ht
    by_cases e : i = j
    · rw [if_pos e] at ht
      cases ht
    · rw [if_neg e] at ht
      rw [now_snoc hp hs, if_neg e]
      exact h.no j h2 hj ht
/-- A kind row that nobody changes. -/
theorem kAt_same (k : UInt8) (n : Nat) {j : Nat} (hj : j < n) : kAt (List.replicate n k) j = k := by
  unfold kAt
  rw [List.getD_eq_getElem?_getD, List.getElem?_replicate, if_pos hj]
  rfl

/-- Pages that are all of one kind. -/
def PagesL (k : UInt8) (d : Dk) (bodies : List ByteArray) (there : List Bool) : Prop := ∃ kinds, Pages d kinds bodies there ∧ ∀ j, j < 12 → kAt kinds j = k
theorem PagesL.new (k : UInt8) : PagesL k (Dk.new 12) (List.replicate 12 ByteArray.empty) (List.replicate 12 false) := ⟨_, Pages.new k, fun _ hj => kAt_same k 12 hj⟩
theorem PagesL.same {k : UInt8} {d d2 : Dk} {bodies : List ByteArray} {there : List Bool} (h : PagesL k d bodies there) (hn : ∀ j, 2 ≤ j → j < 12 → d2.now j = d.now j) : PagesL k d2 bodies there := by
  obtain ⟨kinds, h1, h2⟩ := h
  exact ⟨kinds, h1.same hn, h2⟩
theorem PagesL.set {k : UInt8} {d d2 : Dk} {bodies : List ByteArray} {there : List Bool} (h : PagesL k d bodies there) {i : Nat} (hi : i < 12) {s : ByteArray} (hz : s.size ≤ 240) (hp : d2.pend = d.pend ++ [(i, pageS i k s)]) (hs : d2.sure = d.sure) : PagesL k d2 (bodies.set i s) (there.set i true) := by
  obtain ⟨kinds, h1, h2⟩ := h
  refine ⟨kinds.set i k, h1.set hi hz hp hs, fun j hj => ?_⟩
  rw [kAt_set _ (by rw [h1.kl]; exact hi)]
  split
  · rfl
  · exact h2 j hj
theorem PagesL.lens {k : UInt8} {d : Dk} {bodies : List ByteArray} {there : List Bool} (h : PagesL k d bodies there) : bodies.length = 12 ∧ there.length = 12 := by
  obtain ⟨kinds, h1, _⟩ := h
  exact ⟨h1.bl, h1.tl⟩
/-- What is read of a page. -/
theorem Pages.open {d : Dk} {kinds : List UInt8} {bodies : List ByteArray} {there : List Bool} (h : Pages d kinds bodies there) {j : Nat} (h2 : 2 ≤ j) (hj : j < 12) : openE (kAt kinds j) (opn j (d.now j).data.toList) = if bAt there j then (sAt bodies j, 0) else (ByteArray.empty, 3) := by
  cases ht : bAt there j with
  | true =>
    obtain ⟨e, hz⟩ := h.yes j h2 hj ht
    rw [e, open_page j (by omega) _ _ hz]
    rfl
  | false =>
    rw [h.no j h2 hj ht, open_zero j (by omega)]
    rfl

end Go.Proofs.YtalljfckjkbieaaDoor
