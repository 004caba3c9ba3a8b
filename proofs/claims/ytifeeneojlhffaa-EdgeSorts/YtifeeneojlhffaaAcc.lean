/-
  The three closures that edge hands to through: what each gathers, in the variable that it has captured.
-/
import Derived.Test.YtifeeneojlhffaaThr
namespace Go.Proofs.Ytifeeneojlhffaa
open Go.Shelf Go.RowKit Go.Lib Go.Sort
variable {α : Type} [Inhabited α]

/-- Of w's blocks none has turned but bb. -/
structure ButOne (bb : Nat) (w W : World) : Prop where
  os : W.os = w.os
  tape : W.tape = w.tape
  output : W.output = w.output
  size : w.heap.size ≤ W.heap.size
  block : ∀ j, j < w.heap.size → j ≠ bb → W.heap[j]? = w.heap[j]?

/-- Variable bb holds a slice of the call's own that holds l. -/
def Acc (TS TE : TypeId) (enc : α → List Value) (k bb : Nat) (w : World) (l : List α) (W : World) : Prop :=
  ButOne bb w W ∧ bb < w.heap.size ∧ ∃ v, W.heap[bb]? = some (.cells #[v] TS (0, 0)) ∧ W.ownsRow w.heap.size TE k v l.length (flatK enc k l.toArray).toList

theorem ButOne.grown {bb : Nat} {w W : World} (h : ButOne bb w W) (n : Nat) (os : Array Obj) : ButOne bb w (grow (W.drewN n) os) :=
  ⟨h.os, h.tape, h.output, by rw [size_grow]; exact Nat.le_trans h.size (Nat.le_add_right _ _), fun j hj hne => by rw [heap_grow_old _ _ (by exact Nat.lt_of_lt_of_le hj h.size)]; exact h.block j hj hne⟩

theorem ownsRow_grown {W : World} {base : Nat} {e : TypeId} {k : Nat} {v : Value} {n : Nat} {xs : List Value} (h : W.ownsRow base e k v n xs) (m : Nat) (os : Array Obj) : (grow (W.drewN m) os).ownsRow base e k v n xs := by
  obtain ⟨h1, h2⟩ := h
  refine ⟨h1, ?_⟩
  rcases h2 with h2 | ⟨g, cap, cur, hv, hg, hh, r⟩
  · exact Or.inl h2
  · exact Or.inr ⟨g, cap, cur, hv, hg, by rw [heap_grow_old _ _ (by exact (Array.getElem?_eq_some_iff.1 hh).1)]; exact hh, r⟩

theorem Acc.grown {TS TE : TypeId} {enc : α → List Value} {k bb : Nat} {w W : World} {l : List α} (h : Acc TS TE enc k bb w l W) (n : Nat) (os : Array Obj) : Acc TS TE enc k bb w l (grow (W.drewN n) os) := by
  obtain ⟨h1, h2, v, h3, h4⟩ := h
  exact ⟨h1.grown n os, h2, v, by rw [heap_grow_old _ _ (by exact (Array.getElem?_eq_some_iff.1 h3).1)]; exact h3, ownsRow_grown h4 n os⟩

theorem Acc.kept {TS TE : TypeId} {enc : α → List Value} {k bb : Nat} {w W : World} {l : List α} (h : Acc TS TE enc k bb w l W) : Kept bb w W :=
  ⟨h.1.size, fun p hlo hp => World.cell?_of_block (w := w) (h.1.block p.block hp hlo)⟩

theorem Acc.start {TS TE : TypeId} {enc : α → List Value} {k bb : Nat} {w : World} (hb : w.heap[bb]? = some (.cells #[.slice none 0 0] TS (0, 0))) : Acc TS TE enc k bb w ([] : List α) w :=
  ⟨⟨rfl, rfl, rfl, Nat.le_refl _, fun _ _ _ => rfl⟩, (Array.getElem?_eq_some_iff.1 hb).1, _, hb, by simpa [flatK] using World.ownsRow_nil w w.heap.size TE k⟩

theorem flatK_snoc (enc : α → List Value) (k : Nat) (hk : ∀ x, (enc x).length = k) (l : List α) (x : α) : (flatK enc k (l ++ [x]).toArray).toList = (flatK enc k l.toArray).toList ++ enc x := by
  apply list_bang_ext
  · simp [hk, Nat.add_mul]
  · intro t ht
    have ht' : t < (l.length + 1) * k := by simpa using ht
    have hk0 : 0 < k := by
      rcases Nat.eq_zero_or_pos k with h | h
      · subst h; omega
      · exact h
    rw [← bang_list (flatK enc k (l ++ [x]).toArray) t, get_flatK _ _ _ _ (by simpa using ht')]
    by_cases c : t < l.length * k
    · rw [app_left _ _ _ (by simpa using c), ← bang_list (flatK enc k l.toArray) t, get_flatK _ _ _ _ (by simpa using c)]
      have : t / k < l.length := (Nat.div_lt_iff_lt_mul hk0).2 c
      congr 2
      rw [getElem!_pos _ _ (by simp; omega), getElem!_pos _ _ (by simpa using this)]
      simp [this]
    · obtain ⟨s, rfl⟩ : ∃ s, t = (flatK enc k l.toArray).toList.length + s := ⟨t - l.length * k, by simp; omega⟩
      rw [app_right]
      have hs : s < k := by
        rw [Nat.add_mul, Nat.one_mul] at ht'
        simp at ht'
        omega
      have e1 : ((flatK enc k l.toArray).toList.length + s) / k = l.length := by
        rw [Array.length_toList, size_flatK, List.size_toArray, Nat.mul_comm, Nat.mul_add_div hk0, Nat.div_eq_of_lt hs, Nat.add_zero]
      have e2 : ((flatK enc k l.toArray).toList.length + s) % k = s := by
        rw [Array.length_toList, size_flatK, List.size_toArray, Nat.mul_comm, Nat.mul_add_mod, Nat.mod_eq_of_lt hs]
      rw [e1, e2, getElem!_pos (l ++ [x]).toArray l.length (by simp)]
      simp

/-- Behind the append and the store. -/
theorem Acc.step {TS TE : TypeId} {enc : α → List Value} {k bb : Nat} {w W W2 w1 : World} {l : List α} {v v' : Value} {x : α} (hk : ∀ x, (enc x).length = k) (h : ButOne bb w W) (hbb : bb < w.heap.size) (hg2 : GR W W2) (hb2 : W2.heap[bb]? = some (.cells #[v] TS (0, 0)))
    (hrow : v.ownBlock = none ∨ ∃ r, v.ownBlock = some r ∧ w.heap.size ≤ r) (hgrow : W2.grownBy w1 v.ownBlock) (hown : w1.ownsRow w.heap.size TE k v' (l.length + 1) ((flatK enc k l.toArray).toList ++ enc x)) :
    w1.heap[bb]? = some (.cells #[v] TS (0, 0)) ∧ Acc TS TE enc k bb w (l ++ [x]) (w1.setCell ⟨bb, 0, none⟩ v') := by
  obtain ⟨q, os, rfl⟩ := hg2
  have hB := h.grown q os
  have hne : ∀ j, j < w.heap.size → some j ≠ v.ownBlock := fun j hj e => by
    rcases hrow with hr | ⟨r, hr, hle⟩
    · rw [hr] at e; cases e
    · rw [hr] at e; cases e; omega
  have hkeep : ∀ j, j < w.heap.size → w1.heap[j]? = (grow (W.drewN q) os).heap[j]? := fun j hj => hgrow.block j (Nat.lt_of_lt_of_le hj hB.size) (hne j hj)
  have hbb1 : w1.heap[bb]? = some (.cells #[v] TS (0, 0)) := (hkeep bb hbb).trans hb2
  refine ⟨hbb1, ⟨?_, ?_, ?_, ?_, ?_⟩, hbb, v', one_setCell hbb1, ?_⟩
  · exact hgrow.os.trans hB.os
  · exact hgrow.tape.trans hB.tape
  · exact hgrow.output.trans hB.output
  · have := hgrow.size
    exact Nat.le_trans hB.size (by simpa using this)
  · intro j hj hnj
    rw [Below.heap_setCell _ _ _ _ hnj, hkeep j hj]
    exact hB.block j hj hnj
  · have ho : v'.ownBlock ≠ some bb := by
      rcases hown.2 with ⟨rfl, _⟩ | ⟨g, cap, cur, rfl, hg, _⟩
      · simp [Value.ownBlock]
      · simp only [Value.ownBlock, ne_eq, Option.some.injEq]; omega
    have := ownsRow_setCell_other hown (a := ⟨bb, 0, none⟩) ho v'
    rw [List.length_append, List.length_singleton, flatK_snoc enc k hk]
    exact this

theorem row_of_owns {W : World} {base : Nat} {e : TypeId} {k : Nat} {v : Value} {n : Nat} {xs : List Value} (h : W.ownsRow base e k v n xs) : v.ownBlock = none ∨ ∃ r, v.ownBlock = some r ∧ base ≤ r := by
  rcases h.2 with ⟨rfl, _⟩ | ⟨g, cap, cur, rfl, hg, _⟩
  · exact Or.inl rfl
  · exact Or.inr ⟨g, rfl, hg⟩

set_option maxHeartbeats 2000000 in
set_option maxRecDepth 100000 in
theorem minusF_any (bb : Nat) (w W : World) (pre : List Ev) (x : Pr) (i j : Bool) (h : Acc 39 25 encP 2 bb w (pre.filterMap minusL) W) (hp : pre.length < 4000) :
    Calls Try.prog 57 (#[.agg #[.int .i64 x.1, .int .i64 x.2], .bool i, .bool j] ++ #[.pointer (some ⟨bb, 0, none⟩)]) W fun e W' => e = .returned (.tuple #[]) ∧ Acc 39 25 encP 2 bb w ((pre ++ [(x, i, j)]).filterMap minusL) W' := by
  have hlen : (pre.filterMap minusL).length < 4000 := Nat.lt_of_le_of_lt (List.length_filterMap_le _ _) hp
  obtain ⟨h1, h2, v, h3, h4⟩ := id h
  have hbW : bb < W.heap.size := Nat.lt_of_lt_of_le h2 h1.size
  show Calls Try.prog 57 #[.agg #[.int .i64 x.1, .int .i64 x.2], .bool i, .bool j, .pointer (some ⟨bb, 0, none⟩)] W _
  obtain ⟨i0, hi, hz0, hz1, hz2⟩ := info_parts infoPair
  have HG : Aside _ := h.grown 0 #[.cells #[.int .i64 x.1, .int .i64 x.2] 25]
  clear h
  cases j with
  | true =>
    have H1 : Hid _ := h1
    clear h1 h3 h4
    go_enter Try.func57, Try.ntmps57
    go_wp2
    go_end0
    refine ⟨rfl, ?_⟩
    have e : ∀ t : Ev, minusL t = none → (pre ++ [t]).filterMap minusL = pre.filterMap minusL := fun t ht => by rw [List.filterMap_append, List.filterMap_cons_none ht]; simp
    rw [e _ rfl, alloc_eq_grow]
    exact HG.out
  | false =>
    have c1 : ((W.alloc (.cells #[.int .i64 x.1, .int .i64 x.2] 25))).cell? ⟨bb, 0, none⟩ = some v := Lib.cell?_alloc_some _ (cell_of_one h3)
    have H1 : Hid (ButOne bb w W) := h1
    have H4 : Hid (W.ownsRow w.heap.size 25 2 v (pre.filterMap minusL).length (flatK encP 2 (pre.filterMap minusL).toArray).toList) := h4
    have H3 : Hid (W.heap[bb]? = some (.cells #[v] 39 (0, 0))) := h3
    have hsz : w.heap.size ≤ W.heap.size := h1.size
    clear h1 h4 h3
    go_enter Try.func57, Try.ntmps57
    go_wp2_with (at_builtin; refine wpList_append_own _ rfl _ _ 39 rfl w.heap.size 25 i0 _ 2 16 Try.underlying39 hi hz0 hz1 hz2 rfl (by decide) _ _ _ rfl ((H4.out.alloc _).alloc _) ⟨W.heap.size + 1, 0, none⟩ 1 1 (encP x) rfl rfl ?c1 (encP_one _) ?c3 ?c4 ?c5 ?_)
    case c1 =>
      intro j u hj
      simp only [encP] at hj
      match j, hj with
      | 0, hj => simp at hj; subst hj; simp [Addr.add]
      | 1, hj => simp at hj; subst hj; simp [Addr.add]
    case c3 => unfold maxLen; omega
    case c4 => omega
    case c5 => simp; omega
    intro v' w1 hown hgrow hnil
    obtain ⟨ao', n', c', rfl⟩ : ∃ ao n c, v' = .slice ao n c := by
      rcases hown.2 with ⟨h, _⟩ | ⟨g, cap, cur, h, _⟩
      · exact ⟨_, _, _, h⟩
      · exact ⟨_, _, _, h⟩
    have hG2 : GR W ((W.alloc (.cells #[.int .i64 x.1, .int .i64 x.2] 25)).alloc (.cells (encP x).toArray 25)) := ((GR.refl W).alloc _).alloc _
    obtain ⟨s1, s2⟩ := Acc.step (l := pre.filterMap minusL) (x := x) encP_len H1.out h2 hG2 (by rw [Below.heap_alloc _ _ _ (by simp; omega), Below.heap_alloc _ _ _ hbW]; exact H3.out) (row_of_owns H4.out) hgrow hown
    have c2 := cell_of_one s1
    have c3 := free_of_one s1
    have HS : Aside _ := s2
    clear s1 s2 hown hgrow hnil hG2
    go_wp2
    go_end0
    refine ⟨rfl, ?_⟩
    rw [List.filterMap_append]
    exact HS.out

set_option maxHeartbeats 2000000 in
set_option maxRecDepth 100000 in
theorem unionF_any (bb : Nat) (w W : World) (pre : List Ev) (x : Pr) (i j : Bool) (h : Acc 39 25 encP 2 bb w (pre.filterMap unionL) W) (hp : pre.length < 4000) :
    Calls Try.prog 64 (#[.agg #[.int .i64 x.1, .int .i64 x.2], .bool i, .bool j] ++ #[.pointer (some ⟨bb, 0, none⟩)]) W fun e W' => e = .returned (.tuple #[]) ∧ Acc 39 25 encP 2 bb w ((pre ++ [(x, i, j)]).filterMap unionL) W' := by
  have hlen : (pre.filterMap unionL).length < 4000 := Nat.lt_of_le_of_lt (List.length_filterMap_le _ _) hp
  obtain ⟨h1, h2, v, h3, h4⟩ := id h
  have hbW : bb < W.heap.size := Nat.lt_of_lt_of_le h2 h1.size
  show Calls Try.prog 64 #[.agg #[.int .i64 x.1, .int .i64 x.2], .bool i, .bool j, .pointer (some ⟨bb, 0, none⟩)] W _
  obtain ⟨i0, hi, hz0, hz1, hz2⟩ := info_parts infoPair
  have HG : Aside _ := h.grown 0 #[.cells #[.int .i64 x.1, .int .i64 x.2] 25]
  clear h
  · skip
    have c1 : ((W.alloc (.cells #[.int .i64 x.1, .int .i64 x.2] 25))).cell? ⟨bb, 0, none⟩ = some v := Lib.cell?_alloc_some _ (cell_of_one h3)
    have H1 : Hid (ButOne bb w W) := h1
    have H4 : Hid (W.ownsRow w.heap.size 25 2 v (pre.filterMap unionL).length (flatK encP 2 (pre.filterMap unionL).toArray).toList) := h4
    have H3 : Hid (W.heap[bb]? = some (.cells #[v] 39 (0, 0))) := h3
    have hsz : w.heap.size ≤ W.heap.size := h1.size
    clear h1 h4 h3
    go_enter Try.func64, Try.ntmps64
    go_wp2_with (at_builtin; refine wpList_append_own _ rfl _ _ 39 rfl w.heap.size 25 i0 _ 2 16 Try.underlying39 hi hz0 hz1 hz2 rfl (by decide) _ _ _ rfl ((H4.out.alloc _).alloc _) ⟨W.heap.size + 1, 0, none⟩ 1 1 (encP x) rfl rfl ?c1 (encP_one _) ?c3 ?c4 ?c5 ?_)
    case c1 =>
      intro j u hj
      simp only [encP] at hj
      match j, hj with
      | 0, hj => simp at hj; subst hj; simp [Addr.add]
      | 1, hj => simp at hj; subst hj; simp [Addr.add]
    case c3 => unfold maxLen; omega
    case c4 => omega
    case c5 => simp; omega
    intro v' w1 hown hgrow hnil
    obtain ⟨ao', n', c', rfl⟩ : ∃ ao n c, v' = .slice ao n c := by
      rcases hown.2 with ⟨h, _⟩ | ⟨g, cap, cur, h, _⟩
      · exact ⟨_, _, _, h⟩
      · exact ⟨_, _, _, h⟩
    have hG2 : GR W ((W.alloc (.cells #[.int .i64 x.1, .int .i64 x.2] 25)).alloc (.cells (encP x).toArray 25)) := ((GR.refl W).alloc _).alloc _
    obtain ⟨s1, s2⟩ := Acc.step (l := pre.filterMap unionL) (x := x) encP_len H1.out h2 hG2 (by rw [Below.heap_alloc _ _ _ (by simp; omega), Below.heap_alloc _ _ _ hbW]; exact H3.out) (row_of_owns H4.out) hgrow hown
    have c2 := cell_of_one s1
    have c3 := free_of_one s1
    have HS : Aside _ := s2
    clear s1 s2 hown hgrow hnil hG2
    go_wp2
    go_end0
    refine ⟨rfl, ?_⟩
    rw [List.filterMap_append]
    exact HS.out

set_option maxHeartbeats 2000000 in
set_option maxRecDepth 100000 in
theorem diffF_any (bb : Nat) (w W : World) (pre : List Ev) (x : Pr) (i j : Bool) (h : Acc 40 50 encC 3 bb w (pre.filterMap diffL) W) (hp : pre.length < 4000) :
    Calls Try.prog 44 (#[.agg #[.int .i64 x.1, .int .i64 x.2], .bool i, .bool j] ++ #[.pointer (some ⟨bb, 0, none⟩)]) W fun e W' => e = .returned (.tuple #[]) ∧ Acc 40 50 encC 3 bb w ((pre ++ [(x, i, j)]).filterMap diffL) W' := by
  have hlen : (pre.filterMap diffL).length < 4000 := Nat.lt_of_le_of_lt (List.length_filterMap_le _ _) hp
  obtain ⟨h1, h2, v, h3, h4⟩ := id h
  have hbW : bb < W.heap.size := Nat.lt_of_lt_of_le h2 h1.size
  show Calls Try.prog 44 #[.agg #[.int .i64 x.1, .int .i64 x.2], .bool i, .bool j, .pointer (some ⟨bb, 0, none⟩)] W _
  obtain ⟨i0, hi, hz0, hz1, hz2⟩ := info_parts infoChange
  have HG : Aside _ := h.grown 0 #[.cells #[.int .i64 x.1, .int .i64 x.2] 25]
  clear h
  cases i with
  | true =>
    cases j with
    | true =>
      have H1 : Hid _ := h1
      clear h1 h3 h4
      go_enter Try.func44, Try.ntmps44
      go_wp2
      go_end0
      refine ⟨rfl, ?_⟩
      have e : ∀ t : Ev, diffL t = none → (pre ++ [t]).filterMap diffL = pre.filterMap diffL := fun t ht => by rw [List.filterMap_append, List.filterMap_cons_none ht]; simp
      rw [e _ rfl, alloc_eq_grow]
      exact HG.out
    | false =>
      have c1 : ((W.alloc (.cells #[.int .i64 x.1, .int .i64 x.2] 25))).cell? ⟨bb, 0, none⟩ = some v := Lib.cell?_alloc_some _ (cell_of_one h3)
      have H1 : Hid (ButOne bb w W) := h1
      have H4 : Hid (W.ownsRow w.heap.size 50 3 v (pre.filterMap diffL).length (flatK encC 3 (pre.filterMap diffL).toArray).toList) := h4
      have H3 : Hid (W.heap[bb]? = some (.cells #[v] 40 (0, 0))) := h3
      have hsz : w.heap.size ≤ W.heap.size := h1.size
      clear h1 h4 h3
      go_enter Try.func44, Try.ntmps44
      go_wp2_with (at_builtin; refine wpList_append_own _ rfl _ _ 40 rfl w.heap.size 50 i0 _ 3 24 Try.underlying40 hi hz0 hz1 hz2 rfl (by decide) _ _ _ rfl ((H4.out.alloc _).alloc _) ⟨W.heap.size + 1, 0, none⟩ 1 1 (encC (x, false)) rfl rfl ?c1 (encC_one _) ?c3 ?c4 ?c5 ?_)
      case c1 =>
        intro j u hj
        simp only [encC] at hj
        match j, hj with
        | 0, hj => simp at hj; subst hj; simp [Addr.add]
        | 1, hj => simp at hj; subst hj; simp [Addr.add]
        | 2, hj => simp at hj; subst hj; simp [Addr.add]
      case c3 => unfold maxLen; omega
      case c4 => omega
      case c5 => simp; omega
      intro v' w1 hown hgrow hnil
      obtain ⟨ao', n', c', rfl⟩ : ∃ ao n c, v' = .slice ao n c := by
        rcases hown.2 with ⟨h, _⟩ | ⟨g, cap, cur, h, _⟩
        · exact ⟨_, _, _, h⟩
        · exact ⟨_, _, _, h⟩
      have hG2 : GR W ((W.alloc (.cells #[.int .i64 x.1, .int .i64 x.2] 25)).alloc (.cells (encC (x, false)).toArray 50)) := ((GR.refl W).alloc _).alloc _
      obtain ⟨s1, s2⟩ := Acc.step (l := pre.filterMap diffL) (x := (x, false)) encC_len H1.out h2 hG2 (by rw [Below.heap_alloc _ _ _ (by simp; omega), Below.heap_alloc _ _ _ hbW]; exact H3.out) (row_of_owns H4.out) hgrow hown
      have c2 := cell_of_one s1
      have c3 := free_of_one s1
      have HS : Aside _ := s2
      clear s1 s2 hown hgrow hnil hG2
      go_wp2
      go_end0
      refine ⟨rfl, ?_⟩
      rw [List.filterMap_append]
      exact HS.out
  | false =>
    cases j with
    | false =>
      have H1 : Hid _ := h1
      clear h1 h3 h4
      go_enter Try.func44, Try.ntmps44
      go_wp2
      go_end0
      refine ⟨rfl, ?_⟩
      have e : ∀ t : Ev, diffL t = none → (pre ++ [t]).filterMap diffL = pre.filterMap diffL := fun t ht => by rw [List.filterMap_append, List.filterMap_cons_none ht]; simp
      rw [e _ rfl, alloc_eq_grow]
      exact HG.out
    | true =>
      have c1 : ((W.alloc (.cells #[.int .i64 x.1, .int .i64 x.2] 25))).cell? ⟨bb, 0, none⟩ = some v := Lib.cell?_alloc_some _ (cell_of_one h3)
      have H1 : Hid (ButOne bb w W) := h1
      have H4 : Hid (W.ownsRow w.heap.size 50 3 v (pre.filterMap diffL).length (flatK encC 3 (pre.filterMap diffL).toArray).toList) := h4
      have H3 : Hid (W.heap[bb]? = some (.cells #[v] 40 (0, 0))) := h3
      have hsz : w.heap.size ≤ W.heap.size := h1.size
      clear h1 h4 h3
      go_enter Try.func44, Try.ntmps44
      go_wp2_with (at_builtin; refine wpList_append_own _ rfl _ _ 40 rfl w.heap.size 50 i0 _ 3 24 Try.underlying40 hi hz0 hz1 hz2 rfl (by decide) _ _ _ rfl ((H4.out.alloc _).alloc _) ⟨W.heap.size + 1, 0, none⟩ 1 1 (encC (x, true)) rfl rfl ?c1 (encC_one _) ?c3 ?c4 ?c5 ?_)
      case c1 =>
        intro j u hj
        simp only [encC] at hj
        match j, hj with
        | 0, hj => simp at hj; subst hj; simp [Addr.add]
        | 1, hj => simp at hj; subst hj; simp [Addr.add]
        | 2, hj => simp at hj; subst hj; simp [Addr.add]
      case c3 => unfold maxLen; omega
      case c4 => omega
      case c5 => simp; omega
      intro v' w1 hown hgrow hnil
      obtain ⟨ao', n', c', rfl⟩ : ∃ ao n c, v' = .slice ao n c := by
        rcases hown.2 with ⟨h, _⟩ | ⟨g, cap, cur, h, _⟩
        · exact ⟨_, _, _, h⟩
        · exact ⟨_, _, _, h⟩
      have hG2 : GR W ((W.alloc (.cells #[.int .i64 x.1, .int .i64 x.2] 25)).alloc (.cells (encC (x, true)).toArray 50)) := ((GR.refl W).alloc _).alloc _
      obtain ⟨s1, s2⟩ := Acc.step (l := pre.filterMap diffL) (x := (x, true)) encC_len H1.out h2 hG2 (by rw [Below.heap_alloc _ _ _ (by simp; omega), Below.heap_alloc _ _ _ hbW]; exact H3.out) (row_of_owns H4.out) hgrow hown
      have c2 := cell_of_one s1
      have c3 := free_of_one s1
      have HS : Aside _ := s2
      clear s1 s2 hown hgrow hnil hG2
      go_wp2
      go_end0
      refine ⟨rfl, ?_⟩
      rw [List.filterMap_append]
      exact HS.out

end Go.Proofs.Ytifeeneojlhffaa
