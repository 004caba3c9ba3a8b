/-
  Plain facts on runs of equals cut to one in a row (slices.Compact, slices.CompactFunc), and on a row's cells behind stores.
-/
import Derived.Shelf.SlSortCmp.KitK
import Derived.Lib.SliceRun
import Derived.Test.YtifeeneojlhffaaSets
namespace Go.Proofs.Ytifeeneojlhffaa
open Go.Shelf Go.RowKit Go.Lib Go.Sort
variable {α : Type} [Inhabited α]

def kp (eq : α → α → Bool) (d : Array α) (j : Nat) : Bool := decide (j = 0) || !eq d[j]! d[j - 1]!
def cpt (eq : α → α → Bool) (d : Array α) (m : Nat) : List α := ((List.range m).filter (kp eq d)).map (d[·]!)

theorem cpt_succ (eq : α → α → Bool) (d : Array α) (m : Nat) : cpt eq d (m + 1) = cpt eq d m ++ (if kp eq d m then [d[m]!] else []) := by
  unfold cpt
  rw [List.range_succ, List.filter_append, List.map_append]
  congr 1
  by_cases h : kp eq d m <;> simp [h]

theorem cpt_all (eq : α → α → Bool) (d : Array α) (m : Nat) (h : ∀ j, j < m → kp eq d j = true) : cpt eq d m = (List.range m).map (d[·]!) := by
  unfold cpt
  rw [List.filter_eq_self.2 (fun j hj => h j (List.mem_range.1 hj))]

theorem range_get (d : Array α) : (List.range d.size).map (d[·]!) = d.toList := by
  apply List.ext_getElem
  · simp
  · intro i h1 h2
    have hi : i < d.size := by simpa using h2
    simp [getElem!_pos, hi]

theorem uniqF_snoc {β : Type} (eq : β → β → Bool) : ∀ (l : List β) (p y : β), uniqF eq p (l ++ [y]) = uniqF eq p l ++ (if eq y ((p :: l).getLast (by simp)) then [] else [y])
  | [], p, y => by by_cases h : eq y p = true <;> simp [uniqF, h]
  | z :: l, p, y => by
    have ih := uniqF_snoc eq l z y
    simp only [List.cons_append, uniqF]
    rw [ih]
    have e : (p :: z :: l).getLast (by simp) = (z :: l).getLast (by simp) := by simp [List.getLast]
    rw [e]
    split <;> simp

theorem cpt_take (eq : α → α → Bool) (d : Array α) : ∀ m, m ≤ d.size → cpt eq d m = uniq eq (d.toList.take m)
  | 0, _ => by simp [cpt, uniq]
  | m + 1, h => by
    rw [cpt_succ, cpt_take eq d m (by omega)]
    have e : d.toList.take (m + 1) = d.toList.take m ++ [d[m]!] := by
      rw [List.take_add_one]
      congr 1
      rw [getElem!_pos d m (by omega)]
      simp
    rw [e]
    cases m with
    | zero => simp [uniq, uniqF, kp]
    | succ m =>
      obtain ⟨p, l, hl⟩ : ∃ p l, d.toList.take (m + 1) = p :: l := by
        cases hc : d.toList.take (m + 1) with
        | nil =>
          have := congrArg List.length hc
          rw [List.length_take, List.length_nil, Array.length_toList] at this
          omega
        | cons p l => exact ⟨p, l, rfl⟩
      have hlast : (p :: l).getLast (by simp) = d[m]! := by
        have : (d.toList.take (m + 1)).getLast (by rw [hl]; simp) = d[m]! := by
          rw [List.getLast_eq_getElem]
          have hlen : (d.toList.take (m + 1)).length = m + 1 := by simp; omega
          simp only [hlen, Nat.add_sub_cancel, List.getElem_take]
          rw [getElem!_pos d m (by omega)]
          simp
        simpa [hl] using this
      rw [hl]
      simp only [List.cons_append, uniq]
      rw [uniqF_snoc, hlast]
      simp only [kp, Nat.add_sub_cancel]
      by_cases c : eq d[m + 1]! d[m]! <;> simp [c]

theorem cpt_uniq (eq : α → α → Bool) (d : Array α) : cpt eq d d.size = uniq eq d.toList := by
  rw [cpt_take eq d _ (Nat.le_refl _)]
  congr 1
  rw [List.take_of_length_le (by simp)]

/-- The second loop's relation. -/
structure CInv (eq : α → α → Bool) (d : Array α) (m k : Nat) (dk : Array α) : Prop where
  size : dk.size = d.size
  len : (cpt eq d m).length = k
  lt : k < m
  low : ∀ j, j < k → (cpt eq d m)[j]? = some dk[j]!
  high : ∀ j, k ≤ j → dk[j]! = d[j]!

theorem CInv.start {eq : α → α → Bool} {d : Array α} {k0 : Nat} (hall : ∀ j, j < k0 → kp eq d j = true) (hdup : kp eq d k0 = false) : CInv eq d (k0 + 1) k0 d where
  size := rfl
  len := by rw [cpt_succ, hdup, cpt_all eq d k0 hall]; simp
  lt := Nat.lt_succ_self _
  low := fun j hj => by rw [cpt_succ, hdup, cpt_all eq d k0 hall]; simp [hj]
  high := fun _ _ => rfl

theorem CInv.keep {eq : α → α → Bool} {d dk : Array α} {m k : Nat} (h : CInv eq d m k dk) (hm : m < d.size) (hk : kp eq d m = true) : CInv eq d (m + 1) (k + 1) (dk.setIfInBounds k d[m]!) where
  size := by simp [h.size]
  len := by rw [cpt_succ, hk]; simp [h.len]
  lt := by have := h.lt; omega
  low := fun j hj => by
    rw [cpt_succ, hk, if_pos rfl]
    by_cases e : j = k
    · subst e
      rw [List.getElem?_append_right (by rw [h.len]; exact Nat.le_refl _), h.len, Nat.sub_self, getElem!_set_same dk j _ (by have := h.lt; have := h.size; omega)]
      rfl
    · rw [List.getElem?_append_left (by rw [h.len]; omega), h.low j (by omega), getElem!_set_other dk k j _ e]
  high := fun j hj => by rw [getElem!_set_other dk k j _ (by omega), h.high j (by omega)]

theorem CInv.skip {eq : α → α → Bool} {d dk : Array α} {m k : Nat} (h : CInv eq d m k dk) (hk : kp eq d m = false) : CInv eq d (m + 1) k dk where
  size := h.size
  len := by rw [cpt_succ, hk]; simpa using h.len
  lt := by have := h.lt; omega
  low := fun j hj => by rw [cpt_succ, hk]; simpa using h.low j hj
  high := h.high

/-! ### the row's cells -/
variable {enc : α → List Value} {k : Nat} {w0 W : World} {blk off : Nat} {dk d0 : Array α}

theorem setMany_set (hk : ∀ x, (enc x).length = k) (d : Array α) (i : Nat) (hi : i < d.size) (x : α) : setMany (flatK enc k d) (i * k) (enc x) = flatK enc k (d.setIfInBounds i x) := by
  apply ext_get!
  · simp
  · intro t ht
    have ht' : t < d.size * k := by simpa using ht
    have hk0 : 0 < k := by
      rcases Nat.eq_zero_or_pos k with h | h
      · subst h; omega
      · exact h
    rw [get_setMany _ _ _ _ (by simpa using ht'), get_flatK enc k (d.setIfInBounds i x) t (by simpa using ht')]
    rw [hk]
    by_cases c : i * k ≤ t ∧ t < i * k + k
    · rw [if_pos c]
      have e := (blk_iff k i t hk0).1 c
      rw [e, getElem!_set_same d i x hi]
      congr 1
      have := Nat.div_add_mod t k
      rw [e, Nat.mul_comm] at this
      omega
    · rw [if_neg c]
      have e : t / k ≠ i := fun e => c ((blk_iff k i t hk0).2 e)
      rw [getElem!_set_other d i _ x e, get_flatK _ _ _ _ ht']

/-- A store of one element. -/
theorem swk_put (h : SWK enc k w0 blk off dk W) (R : RowK enc k w0 blk off d0) (i : Nat) (hi : i < dk.size) (x : α) : SWK enc k w0 blk off (dk.setIfInBounds i x) (W.setCells blk (off + i * k) (enc x)) := by
  obtain ⟨m, os, rfl⟩ := h
  refine ⟨m, os, ?_⟩
  unfold sortWorldK
  rw [setCells_grow os blk _ _ _ (by rw [size_putRowK]; exact R.hblk)]
  congr 1
  unfold putRowK
  rw [setCells_putRow _ _ _ _ _ _ (by rw [R.hk, size_flatK]; exact rowK_bnd dk k i hi), setMany_set R.hk dk i hi x]

theorem swk_stp (h : SWK enc k w0 blk off dk W) (R : RowK enc k w0 blk off d0) (hs : dk.size = d0.size) (P : Program) (i : Nat) (hi : i < dk.size) (y : α) :
    Sem.run P (storeCells ⟨blk, off + i * k, none⟩ (enc y) 0) W = .ok () (W.setCells blk (off + i * k) (enc y)) :=
  stores_of_holds P (h.holds R.hblk R.hH hs) (i * k) _ (by rw [R.hk, size_flatK]; exact rowK_bnd dk k i hi) (R.h1 _)

theorem swk_below (h : SWK enc k w0 blk off dk W) {B : Nat} (hB : B ≤ blk) (hs : B ≤ w0.heap.size) : Below B w0 W := by
  obtain ⟨m, os, rfl⟩ := h
  refine ⟨rfl, rfl, rfl, size_sortWorldK_c enc k w0 blk off m dk os, fun j hj => ?_⟩
  unfold sortWorldK
  rw [heap_grow_old _ _ (by rw [size_putRowK]; exact Nat.lt_of_lt_of_le hj hs)]
  have : blk ≠ j := by omega
  simp [putRowK, putRow, mapBlock, Sort.ahead, Array.getElem?_modify, this]

theorem below_setCells {B b : Nat} {a : World} (hB : B ≤ b) : ∀ (vs : List Value) (o : Nat) (w : World), Below B a w → Below B a (w.setCells b o vs)
  | [], _, _, h => h
  | v :: r, o, _, h => below_setCells hB r (o + 1) _ (h.setCell (p := ⟨b, o, none⟩) hB v)

/-- What a cut row holds. -/
theorem holds_cut (h : HoldsK enc k W blk off dk) (u : List α) (hu : u.length ≤ dk.size) (hg : ∀ j, j < u.length → u[j]? = some dk[j]!) (o : Nat) (ho : u.length * k ≤ o) (Z : List Value) : HoldsK enc k (W.setCells blk (off + o) Z) blk off u.toArray := by
  intro t ht
  have ht' : t < u.length * k := by simpa using ht
  have hk0 : 0 < k := by
    rcases Nat.eq_zero_or_pos k with h | h
    · subst h; omega
    · exact h
  have hlt : t / k < u.length := (Nat.div_lt_iff_lt_mul hk0).2 ht'
  have hle : u.length * k ≤ dk.size * k := Nat.mul_le_mul_right k hu
  have hh := h t (by rw [size_flatK]; omega)
  rw [World.cell?_setCells_out blk _ _ _ _ (fun _ _ => Or.inl (by show off + t < off + o; omega)), World.frozen?_setCells]
  refine ⟨?_, hh.2⟩
  rw [hh.1]
  congr 1
  show (flatK enc k dk)[t]! = (flatK enc k u.toArray)[t]!
  rw [get_flatK _ _ _ _ (by omega), get_flatK _ _ _ _ (by simpa using ht')]
  congr 2
  have e := hg (t / k) hlt
  rw [getElem!_pos u.toArray (t / k) (by simpa using hlt)]
  rw [List.getElem?_eq_getElem hlt] at e
  simpa using (Option.some.inj e).symm

theorem run_clear_k {P : Program} (w : World) (t e ty : TypeId) (z : Value) (ht : P.underlying t = some (.slice e)) (hv : ∀ w, (zeroValue e).run P w = .ok z w) (b o n c : Nat) (hn : 0 < n)
    (h1 : ∀ v ∈ (Builtin.zeroCells z.cells n).toList, v.oneCell' = true) (hc : ∀ j, j < (Builtin.zeroCells z.cells n).toList.length → (w.cell? ⟨b, o + j, none⟩).isSome = true) (hf : ∀ j, j < (Builtin.zeroCells z.cells n).toList.length → w.frozen? ⟨b, o + j, none⟩ = false) :
    (Builtin.clear_ #[t] ty #[.slice (some ⟨b, o, none⟩) n c]).run P w = .ok (.tuple #[]) (w.setCells b o (Builtin.zeroCells z.cells n).toList) := by
  have hst := run_storeCells_cells (P := P) b o (Builtin.zeroCells z.cells n).toList 0 w (by simpa using hc) (by simpa using hf) h1
  simp only [Nat.add_zero] at hst
  obtain ⟨m, rfl⟩ : ∃ m, n = m + 1 := ⟨n - 1, by omega⟩
  simp [Builtin.clear_, run_underlying ht, hv, hst]

end Go.Proofs.Ytifeeneojlhffaa
