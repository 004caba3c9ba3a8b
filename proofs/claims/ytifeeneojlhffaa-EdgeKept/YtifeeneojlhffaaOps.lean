/-
  The walks of edge.minus, edge.union, edge.Minus and edge.Diff.
-/
import Derived.Test.YtifeeneojlhffaaAcc
namespace Go.Proofs.Ytifeeneojlhffaa
open Go.Shelf Go.RowKit Go.Lib Go.Sort

/-- What a captured variable holds at the end. -/
theorem Acc.own {α : Type} [Inhabited α] {TS TE : TypeId} {enc : α → List Value} {k bb : Nat} {w W : World} {l : List α} (hk : 0 < k) (h : Acc TS TE enc k bb w l W) : ∃ ao n c, W.cell? ⟨bb, 0, none⟩ = some (.slice ao n c) ∧ Own enc k w.heap.size W (.slice ao n c) l := by
  obtain ⟨h1, h2, v, h3, h4⟩ := h
  have ho := own_of_owns hk h4
  obtain ⟨ao, c, rfl, _⟩ := id ho
  exact ⟨ao, _, c, cell_of_one h3, ho⟩

theorem Acc.below {α : Type} [Inhabited α] {TS TE : TypeId} {enc : α → List Value} {k bb : Nat} {w W : World} {l : List α} (h : Acc TS TE enc k bb w l W) : Below bb w W :=
  ⟨h.1.os, h.1.tape, h.1.output, h.1.size, fun j hj => h.1.block j (Nat.lt_trans hj h.2.1) (by omega)⟩

set_option maxHeartbeats 1000000 in
theorem minus_any (va vb : Value) (a b : List Pr) (w : World) (ha : Row encP 2 w va a) (hb : Row encP 2 w vb b) (hl : a.length + b.length ≤ 2000) :
    Calls Try.prog 41 #[va, vb] w fun e w' => ∃ v', e = .returned v' ∧ Own encP 2 w.heap.size w' v' ((ev a b).filterMap minusL) ∧ Below w.heap.size w w' := by
  have hbox : (w.alloc (.cells #[.slice none 0 0] 39)).heap[w.heap.size]? = some (.cells #[.slice none 0 0] 39 (0, 0)) := heap_alloc_new _ _
  have HC : Hid _ := through_any w.heap.size va vb a b 57 #[.pointer (some ⟨w.heap.size, 0, none⟩)] (w.alloc (.cells #[.slice none 0 0] 39))
    (fun pre W => Acc 39 25 encP 2 w.heap.size (w.alloc (.cells #[.slice none 0 0] 39)) (pre.filterMap minusL) W)
    (enters_of Try.func57 (by kernel_rfl) rfl) (fun pre x i j W h hp => minusF_any _ _ W pre x i j h hp) (fun pre W n os h => h.grown n os) (fun pre W h => h.kept) (Acc.start hbox) (rowL_of_row ha _) (rowL_of_row hb _) hl
  clear ha hb hbox
  go_enter Try.func41, Try.ntmps41
  go_wp2_with fail
  refine Calls.mono HC.out ?_
  rintro e w1 ⟨rfl, h1⟩
  obtain ⟨ao, n, c, h2, h3⟩ := Acc.own (by decide) h1
  have H3 : Hid _ := h3
  have H1 : Hid _ := h1
  clear h1 h3
  go_wp2
  go_ret
  exact ⟨_, rfl, Own.mono H3.out (by simp), ((Below.refl _ w).alloc (Nat.le_refl _) _).trans (Acc.below H1.out)⟩

set_option maxHeartbeats 1000000 in
theorem union_any (va vb : Value) (a b : List Pr) (w : World) (ha : Row encP 2 w va a) (hb : Row encP 2 w vb b) (hl : a.length + b.length ≤ 2000) :
    Calls Try.prog 46 #[va, vb] w fun e w' => ∃ v', e = .returned v' ∧ Own encP 2 w.heap.size w' v' ((ev a b).filterMap unionL) ∧ Below w.heap.size w w' := by
  have hbox : (w.alloc (.cells #[.slice none 0 0] 39)).heap[w.heap.size]? = some (.cells #[.slice none 0 0] 39 (0, 0)) := heap_alloc_new _ _
  have HC : Hid _ := through_any w.heap.size va vb a b 64 #[.pointer (some ⟨w.heap.size, 0, none⟩)] (w.alloc (.cells #[.slice none 0 0] 39))
    (fun pre W => Acc 39 25 encP 2 w.heap.size (w.alloc (.cells #[.slice none 0 0] 39)) (pre.filterMap unionL) W)
    (enters_of Try.func64 (by kernel_rfl) rfl) (fun pre x i j W h hp => unionF_any _ _ W pre x i j h hp) (fun pre W n os h => h.grown n os) (fun pre W h => h.kept) (Acc.start hbox) (rowL_of_row ha _) (rowL_of_row hb _) hl
  clear ha hb hbox
  go_enter Try.func46, Try.ntmps46
  go_wp2_with fail
  refine Calls.mono HC.out ?_
  rintro e w1 ⟨rfl, h1⟩
  obtain ⟨ao, n, c, h2, h3⟩ := Acc.own (by decide) h1
  have H3 : Hid _ := h3
  have H1 : Hid _ := h1
  clear h1 h3
  go_wp2
  go_ret
  exact ⟨_, rfl, Own.mono H3.out (by simp), ((Below.refl _ w).alloc (Nat.le_refl _) _).trans (Acc.below H1.out)⟩

/-- The document's Minus. -/
def minusOf (a b : List Pr) (m : List Pr) : Prop := SS m ∧ ∀ x, x ∈ m ↔ x ∈ a ∧ x ∉ b
/-- The document's Diff. -/
def diffOf (a b : List Pr) (d : List Ch) : Prop := SC d ∧ ∀ c, c ∈ d ↔ (c.2 = true ↔ c.1 ∈ b) ∧ (c.2 = false ↔ c.1 ∈ a)

set_option maxHeartbeats 1000000 in
theorem Minus_any (va vb : Value) (a b : List Pr) (w : World) (ha : Row encP 2 w va a) (hb : Row encP 2 w vb b) (hl : a.length + b.length ≤ 2000) :
    Calls Try.prog 21 #[va, vb] w fun e w' => ∃ v' m, e = .returned v' ∧ Own encP 2 w.heap.size w' v' m ∧ minusOf a b m ∧ Below w.heap.size w w' := by
  have H1 : Hid _ := sort_any va a w ha (by omega)
  have HB : Hid (Row encP 2 w vb b) := hb
  clear ha hb
  obtain ⟨aoa, ca, rfl, _⟩ := id HB.out
  go_enter Try.func21, Try.ntmps21
  go_wp2_with fail
  refine Calls.mono H1.out ?_
  rintro e w1 ⟨v1, s1, rfl, o1, ss1, l1, m1, b1⟩
  have H2 : Hid _ := sort_any _ b w1 (HB.out.below b1) (by omega)
  have O1 : Hid (Own encP 2 w.heap.size w1 v1 s1) := o1
  obtain ⟨x1, y1, rfl, _⟩ := id o1
  clear o1
  go_wp2_with fail
  refine Calls.mono H2.out ?_
  rintro e w2 ⟨v2, s2, rfl, o2, ss2, l2, m2, b2⟩
  have H3 : Hid _ := minus_any _ _ s1 s2 w2 (O1.out.below b2).row o2.row (by omega)
  obtain ⟨x2, y2, rfl, _⟩ := id o2
  clear o2
  go_wp2_with fail
  refine Calls.mono H3.out ?_
  rintro e w3 ⟨v3, rfl, o3, b3⟩
  have O3 : Hid _ := o3
  obtain ⟨x3, y3, rfl, _⟩ := id o3
  clear o3
  go_wp2
  go_ret
  have hs := b1.size
  have hs2 := b2.size
  refine ⟨_, _, rfl, Own.mono O3.out (by omega), ⟨(minus_spec ss1 ss2).1, fun x => by rw [(minus_spec ss1 ss2).2 x, m1, m2]⟩, b1.trans ((b2.trans (b3.mono hs2)).mono hs)⟩

set_option maxHeartbeats 1000000 in
theorem Diff_any (va vb : Value) (a b : List Pr) (w : World) (ha : Row encP 2 w va a) (hb : Row encP 2 w vb b) (hl : a.length + b.length ≤ 2000) :
    Calls Try.prog 24 #[va, vb] w fun e w' => ∃ v' d, e = .returned v' ∧ Own encC 3 w.heap.size w' v' d ∧ diffOf a b d ∧ d.length ≤ a.length + b.length ∧ Below w.heap.size w w' := by
  have B0 : Below w.heap.size w (w.alloc (.cells #[.slice none 0 0] 40)) := (Below.refl _ w).alloc (Nat.le_refl _) _
  have H1 : Hid _ := sort_any va a _ (ha.below B0) (by omega)
  have HB : Hid (Row encP 2 (w.alloc (.cells #[.slice none 0 0] 40)) vb b) := hb.below B0
  have hbox : (w.alloc (.cells #[.slice none 0 0] 40)).heap[w.heap.size]? = some (.cells #[.slice none 0 0] 40 (0, 0)) := heap_alloc_new _ _
  have HX : Hid ((w.alloc (.cells #[.slice none 0 0] 40)).heap[w.heap.size]? = some (.cells #[.slice none 0 0] 40 (0, 0))) := hbox
  have HB0 : Hid (Below w.heap.size w (w.alloc (.cells #[.slice none 0 0] 40))) := B0
  have hsz : (w.alloc (.cells #[.slice none 0 0] 40)).heap.size = w.heap.size + 1 := by simp
  clear ha hb hbox B0
  obtain ⟨aoa, ca, rfl, _⟩ := id HB.out
  go_enter Try.func24, Try.ntmps24
  go_wp2_with fail
  generalize w.alloc (.cells #[.slice none 0 0] 40) = w0 at H1 HB HX HB0 hsz ⊢
  refine Calls.mono H1.out ?_
  rintro e w1 ⟨v1, s1, rfl, o1, ss1, l1, m1, b1⟩
  have H2 : Hid _ := sort_any _ b w1 (HB.out.below b1) (by omega)
  have O1 : Hid (Own encP 2 w0.heap.size w1 v1 s1) := o1
  obtain ⟨x1, y1, rfl, _⟩ := id o1
  clear o1
  go_wp2_with fail
  refine Calls.mono H2.out ?_
  rintro e w2 ⟨v2, s2, rfl, o2, ss2, l2, m2, b2⟩
  have hs := b1.size
  have hs2 := b2.size
  have hX2 : w2.heap[w.heap.size]? = some (.cells #[.slice none 0 0] 40 (0, 0)) := by rw [b2.block _ (by omega), b1.block _ (by omega)]; exact HX.out
  have H3 : Hid _ := through_any w.heap.size _ _ s1 s2 44 #[.pointer (some ⟨w.heap.size, 0, none⟩)] w2
    (fun pre W => Acc 40 50 encC 3 w.heap.size w2 (pre.filterMap diffL) W)
    (enters_of Try.func44 (by kernel_rfl) rfl) (fun pre x i j W h hp => diffF_any _ _ W pre x i j h hp) (fun pre W n os h => h.grown n os) (fun pre W h => h.kept) (Acc.start hX2) (rowL_of_own (O1.out.below b2) (by omega)) (rowL_of_own o2 (by omega)) (by omega)
  obtain ⟨x2, y2, rfl, _⟩ := id o2
  clear o2 hX2
  go_wp2_with fail
  refine Calls.mono H3.out ?_
  rintro e w3 ⟨rfl, h1⟩
  obtain ⟨ao, n, c, h2, h3⟩ := Acc.own (by decide) h1
  have O3 : Hid _ := h3
  have A3 : Hid _ := h1
  clear h1 h3
  go_wp2
  go_ret
  have B2 : Below w.heap.size w w2 := HB0.out.trans ((b1.trans (b2.mono hs)).mono (by omega))
  refine ⟨_, _, rfl, Own.mono O3.out (by omega), ⟨(diff_spec ss1 ss2).1, fun x => by rw [(diff_spec ss1 ss2).2 x, m1, m2]⟩, ?_, B2.trans (Acc.below A3.out)⟩
  exact Nat.le_trans (List.length_filterMap_le _ _) (Nat.le_trans (ev_length _ s1 s2 (Nat.le_refl _)) (by omega))

end Go.Proofs.Ytifeeneojlhffaa
