/-
  Rows of structs in memory: 'Row': a slice that can be read; 'Own': one in memory that is newer than 'base' and can be written. slices.Clone at both kinds.
-/
import Derived.Test.YtifeeneojlhffaaShelf
import Derived.Test.YtifeeneojlhffaaCptPlain
import Derived.Test.YtifeeneojlhffaaCmp
import Derived.WalkKit
import Derived.WalkSpells
import Derived.WalkLawsBesides
namespace Go.Proofs.Ytifeeneojlhffaa
open Go.Shelf Go.RowKit Go.Lib Go.Sort
variable {α : Type} [Inhabited α]

def CellsK (enc : α → List Value) (k : Nat) (w : World) (b off : Nat) (l : List α) : Prop := ∀ t, t < l.length * k → w.cell? ⟨b, off + t, none⟩ = some (flatK enc k l.toArray)[t]!

/-- A slice that can be read. -/
def Row (enc : α → List Value) (k : Nat) (w : World) (v : Value) (l : List α) : Prop :=
  ∃ ao cap, v = .slice ao l.length cap ∧ l.length ≤ cap ∧ (ao = none → cap = 0) ∧ (l ≠ [] → ∃ b off, ao = some ⟨b, off, none⟩ ∧ b < w.heap.size ∧ CellsK enc k w b off l)

/-- A slice in memory newer than 'base', that can be written. -/
def Own (enc : α → List Value) (k base : Nat) (w : World) (v : Value) (l : List α) : Prop :=
  ∃ ao cap, v = .slice ao l.length cap ∧ l.length ≤ cap ∧ (ao = none → cap = 0) ∧ (l ≠ [] → ∃ b off, ao = some ⟨b, off, none⟩ ∧ base ≤ b ∧ b < w.heap.size ∧ HoldsK enc k w b off l.toArray)

variable {enc : α → List Value} {k base : Nat} {w w' : World} {v : Value} {l : List α}

theorem cells_of_holds {b off : Nat} (h : HoldsK enc k w b off l.toArray) : CellsK enc k w b off l := fun t ht => (h t (by simpa using ht)).1

theorem Own.row (h : Own enc k base w v l) : Row enc k w v l := by
  obtain ⟨ao, cap, e, h1, h2, h3⟩ := h
  refine ⟨ao, cap, e, h1, h2, fun hne => ?_⟩
  obtain ⟨b, off, e2, _, hb, hH⟩ := h3 hne
  exact ⟨b, off, e2, hb, cells_of_holds hH⟩

theorem Row.below (h : Row enc k w v l) (hb : Below w.heap.size w w') : Row enc k w' v l := by
  obtain ⟨ao, cap, e, h1, h2, h3⟩ := h
  refine ⟨ao, cap, e, h1, h2, fun hne => ?_⟩
  obtain ⟨b, off, e2, hlt, hH⟩ := h3 hne
  exact ⟨b, off, e2, Nat.lt_of_lt_of_le hlt hb.size, fun t ht => (hb.cell (p := ⟨b, off + t, none⟩) hlt).trans (hH t ht)⟩

theorem Own.below (h : Own enc k base w v l) (hb : Below w.heap.size w w') : Own enc k base w' v l := by
  obtain ⟨ao, cap, e, h1, h2, h3⟩ := h
  refine ⟨ao, cap, e, h1, h2, fun hne => ?_⟩
  obtain ⟨b, off, e2, hba, hlt, hH⟩ := h3 hne
  exact ⟨b, off, e2, hba, Nat.lt_of_lt_of_le hlt hb.size, fun t ht => ⟨(hb.cell (p := ⟨b, off + t, none⟩) hlt).trans (hH t ht).1, (hb.frozen (p := ⟨b, off + t, none⟩) hlt).trans (hH t ht).2⟩⟩

theorem Own.mono {base' : Nat} (h : Own enc k base w v l) (hb : base' ≤ base) : Own enc k base' w v l := by
  obtain ⟨ao, cap, e, h1, h2, h3⟩ := h
  refine ⟨ao, cap, e, h1, h2, fun hne => ?_⟩
  obtain ⟨b, off, e2, hba, r⟩ := h3 hne
  exact ⟨b, off, e2, Nat.le_trans hb hba, r⟩

theorem Own.nil : Own enc k base w (.slice none 0 0) ([] : List α) := ⟨none, 0, rfl, Nat.le_refl _, fun _ => rfl, fun h => absurd rfl h⟩

/-- What append's laws own. -/
theorem holds_of_owns {e : TypeId} {g n : Nat} {cur : Array Value} (hb : w.heap[g]? = some (.cells cur e (0, 0))) (hn : l.length = n) (hs : n * k ≤ cur.size) (ht : cur.toList.take (n * k) = (flatK enc k l.toArray).toList) : HoldsK enc k w g 0 l.toArray := by
  intro t htt
  have ht' : t < n * k := by rw [← hn]; simpa using htt
  refine ⟨?_, by simp [World.frozen?, hb]⟩
  have h1 : (cur.toList.take (n * k))[t]? = (flatK enc k l.toArray).toList[t]? := by rw [ht]
  rw [List.getElem?_take_of_lt ht', List.getElem?_eq_getElem (by simpa using (by omega : t < cur.size)), List.getElem?_eq_getElem (by rw [Array.length_toList]; exact htt)] at h1
  simp only [World.cell?, hb, Nat.zero_add]
  rw [getElem!_pos _ t htt]
  have h2 := Option.some.inj h1
  simp only [Array.getElem_toList] at h2
  rw [Array.getElem?_eq_getElem (by omega), h2]
  rfl

theorem own_of_owns {e : TypeId} {n : Nat} (hk : 0 < k) (h : w.ownsRow base e k v n (flatK enc k l.toArray).toList) : Own enc k base w v l := by
  obtain ⟨h0, h1⟩ := h
  have hn : l.length = n := by
    have : l.length * k = n * k := by simpa using h0
    exact Nat.eq_of_mul_eq_mul_right hk this
  rcases h1 with ⟨rfl, rfl⟩ | ⟨g, cap, cur, rfl, hb, hh, hc, hm, hs, ht⟩
  · obtain rfl : l = [] := List.length_eq_zero_iff.1 hn
    exact Own.nil
  · subst hn
    refine ⟨some ⟨g, 0, none⟩, cap, rfl, hc, (fun h => by cases h), fun hne => ⟨g, 0, rfl, hb, (Array.getElem?_eq_some_iff.1 hh).1, holds_of_owns hh rfl (by rw [hs]; exact Nat.mul_le_mul_right k hc) ht⟩⟩

theorem flatK_oneCell (h1 : ∀ x, ∀ v ∈ enc x, v.oneCell' = true) (hk : ∀ x, (enc x).length = k) : ∀ u ∈ (flatK enc k l.toArray).toList, u.oneCell' = true := fun u hu => by
  obtain ⟨t, ht, rfl⟩ := List.getElem_of_mem hu
  have ht' : t < l.length * k := by simpa using ht
  have hk0 : 0 < k := by
    rcases Nat.eq_zero_or_pos k with h | h
    · subst h; omega
    · exact h
  have e := get_flatK enc k l.toArray t (by simpa using ht')
  rw [getElem!_pos _ t (by simpa using ht')] at e
  rw [Array.getElem_toList, e]
  refine h1 l.toArray[t / k]! _ ?_
  rw [getElem!_pos (enc l.toArray[t / k]!) (t % k) (by rw [hk]; exact Nat.mod_lt _ hk0)]
  exact List.getElem_mem _

theorem encP_len (x : Pr) : (encP x).length = 2 := rfl
theorem encP_one (x : Pr) : ∀ v ∈ encP x, v.oneCell' = true := fun v hv => by simp [encP] at hv; rcases hv with rfl | rfl <;> rfl
theorem encC_len (x : Ch) : (encC x).length = 3 := rfl
theorem encC_one (x : Ch) : ∀ v ∈ encC x, v.oneCell' = true := fun v hv => by simp [encC] at hv; rcases hv with rfl | rfl | rfl <;> rfl

theorem infoPair : (Try.prog.info? 25).map (fun i => (i.zero, i.size, i.bytes)) = some (some (.agg #[.int .i64 0, .int .i64 0]), 2, 16) := by kernel_rfl

set_option maxHeartbeats 2000000 in
set_option maxRecDepth 100000 in
theorem clonePair_empty (a : Addr) (c : Nat) (w : World) : Calls Try.prog 37 #[.slice (some a) 0 c] w fun e w' => ∃ v', e = .returned v' ∧ Own encP 2 w.heap.size w' v' ([] : List Pr) ∧ Below w.heap.size w w' := by
  obtain ⟨i0, hi, hz0, hz1, hz2⟩ := info_parts infoPair
  have q22 : ∀ (w : World) (a : Option Addr) (n c n' c' : Nat), (binOp .eql 39 (.slice a n c) (.slice none n' c')).run Try.prog w = .ok (.bool a.isNone) w := fun w a n c n' c' => Lib.run_eql_slice_nil w _ _ a n c n' c' Try.underlying39
  go_enter Try.func37, Try.ntmps37
  go_wp2_with (at_builtin; refine wpList_append_own _ rfl _ _ 39 rfl w.heap.size 25 i0 _ 2 16 Try.underlying39 hi hz0 hz1 hz2 rfl (by decide) _ _ _ rfl (World.ownsRow_made w #[] 0 (Nat.le_refl _) (Nat.zero_le _) (by simp)) a 0 c [] rfl rfl (fun j u hj => by simp at hj) (fun u hu => by simp at hu) (by simp [maxLen]) (by simp) (by simp) ?_)
  intro v' w1 hown hgrow hnil
  go_wp2
  go_ret
  refine ⟨v', rfl, own_of_owns (n := 0) (by decide) (by simpa [flatK] using hown), ?_⟩
  exact ((Below.refl _ w).alloc (Nat.le_refl _) _).grown hgrow (by simp) (by intro k hk; simp [Value.ownBlock] at hk; omega)

theorem clonePair_any (v : Value) (l : List Pr) (w : World) (h : Row encP 2 w v l) (hl : l.length ≤ 1000000) : Calls Try.prog 37 #[v] w fun e w' => ∃ v', e = .returned v' ∧ Own encP 2 w.heap.size w' v' l ∧ Below w.heap.size w w' := by
  obtain ⟨ao, cap, rfl, h1, h2, h3⟩ := h
  by_cases hne : l = []
  · subst hne
    cases ao with
    | none =>
      refine (AnyE.slices_Clone_nil Try.clonePair _ _ w).mono ?_
      rintro e w' ⟨rfl, rfl⟩
      exact ⟨_, rfl, Own.nil, Below.refl _ _⟩
    | some a => exact clonePair_empty a cap w
  · obtain ⟨b, off, rfl, hb, hc⟩ := h3 hne
    obtain ⟨i0, hi, hz0, hz1, hz2⟩ := info_parts infoPair
    refine (AnyE.slices_Clone Try.clonePair i0 _ 2 16 hi hz0 hz1 hz2 rfl (by decide) Try.sizeOf25 b off l.length cap (flatK encP 2 l.toArray).toList w (by simp) (by unfold maxLen; omega) (by omega) (fun j u hj => ?_) (flatK_oneCell encP_one encP_len)).mono ?_
    · obtain ⟨hj1, hj2⟩ := List.getElem?_eq_some_iff.1 hj
      have hj3 : j < l.length * 2 := by simpa using hj1
      rw [hc j hj3, getElem!_pos _ j (by simpa using hj3), ← hj2]
      simp
    · rintro e w' ⟨v', rfl, hown, _, hbel⟩
      exact ⟨v', rfl, own_of_owns (by decide) hown, hbel⟩

theorem infoChange : (Try.prog.info? 50).map (fun i => (i.zero, i.size, i.bytes)) = some (some (.agg #[.int .i64 0, .int .i64 0, .bool false]), 3, 24) := by kernel_rfl

set_option maxHeartbeats 2000000 in
set_option maxRecDepth 100000 in
theorem cloneChange_empty (a : Addr) (c : Nat) (w : World) : Calls Try.prog 58 #[.slice (some a) 0 c] w fun e w' => ∃ v', e = .returned v' ∧ Own encC 3 w.heap.size w' v' ([] : List Ch) ∧ Below w.heap.size w w' := by
  obtain ⟨i0, hi, hz0, hz1, hz2⟩ := info_parts infoChange
  have q22 : ∀ (w : World) (a : Option Addr) (n c n' c' : Nat), (binOp .eql 40 (.slice a n c) (.slice none n' c')).run Try.prog w = .ok (.bool a.isNone) w := fun w a n c n' c' => Lib.run_eql_slice_nil w _ _ a n c n' c' Try.underlying40
  go_enter Try.func58, Try.ntmps58
  go_wp2_with (at_builtin; refine wpList_append_own _ rfl _ _ 40 rfl w.heap.size 50 i0 _ 3 24 Try.underlying40 hi hz0 hz1 hz2 rfl (by decide) _ _ _ rfl (World.ownsRow_made w #[] 0 (Nat.le_refl _) (Nat.zero_le _) (by simp)) a 0 c [] rfl rfl (fun j u hj => by simp at hj) (fun u hu => by simp at hu) (by simp [maxLen]) (by simp) (by simp) ?_)
  intro v' w1 hown hgrow hnil
  go_wp2
  go_ret
  refine ⟨v', rfl, own_of_owns (n := 0) (by decide) (by simpa [flatK] using hown), ?_⟩
  exact ((Below.refl _ w).alloc (Nat.le_refl _) _).grown hgrow (by simp) (by intro k hk; simp [Value.ownBlock] at hk; omega)

theorem cloneChange_any (v : Value) (l : List Ch) (w : World) (h : Row encC 3 w v l) (hl : l.length ≤ 1000000) : Calls Try.prog 58 #[v] w fun e w' => ∃ v', e = .returned v' ∧ Own encC 3 w.heap.size w' v' l ∧ Below w.heap.size w w' := by
  obtain ⟨ao, cap, rfl, h1, h2, h3⟩ := h
  by_cases hne : l = []
  · subst hne
    cases ao with
    | none =>
      refine (AnyE.slices_Clone_nil Try.cloneChange _ _ w).mono ?_
      rintro e w' ⟨rfl, rfl⟩
      exact ⟨_, rfl, Own.nil, Below.refl _ _⟩
    | some a => exact cloneChange_empty a cap w
  · obtain ⟨b, off, rfl, hb, hc⟩ := h3 hne
    obtain ⟨i0, hi, hz0, hz1, hz2⟩ := info_parts infoChange
    refine (AnyE.slices_Clone Try.cloneChange i0 _ 3 24 hi hz0 hz1 hz2 rfl (by decide) Try.sizeOf50 b off l.length cap (flatK encC 3 l.toArray).toList w (by simp) (by unfold maxLen; omega) (by omega) (fun j u hj => ?_) (flatK_oneCell encC_one encC_len)).mono ?_
    · obtain ⟨hj1, hj2⟩ := List.getElem?_eq_some_iff.1 hj
      have hj3 : j < l.length * 3 := by simpa using hj1
      rw [hc j hj3, getElem!_pos _ j (by simpa using hj3), ← hj2]
      simp
    · rintro e w' ⟨v', rfl, hown, _, hbel⟩
      exact ⟨v', rfl, own_of_owns (by decide) hown, hbel⟩

end Go.Proofs.Ytifeeneojlhffaa
