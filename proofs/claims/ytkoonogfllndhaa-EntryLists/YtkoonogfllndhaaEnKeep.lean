/-
  The plain laws behind the laws of package entry: what was put is got; what is decoded is no longer than its bytes; unlike keys put in whatever order.
-/
import Derived.Test.YtkoonogfllndhaaEnLaw
namespace Go.Proofs.Ytkoonogfllndhaa

theorem szL_ge (l : List En) : l.length ≤ szL l := by
  induction l with
  | nil => exact Nat.le_refl _
  | cons x l ih => simp only [szL, List.length_cons]; unfold szE; omega
theorem deL_len (s : List UInt8) : (deL s).length ≤ s.length := by
  cases h : deB s
  · rw [deL_no h]; simp
  · have := enL_length (deL s)
    rw [(deL_right h).2] at this
    have := szL_ge (deL s)
    omega

theorem ptL_len (l : List En) (k v : ByteArray) : (ptL l k v).length ≤ l.length + 1 := by
  have key : ∀ (x : En) (m : List En), (insL x m).length = m.length + 1 := by
    intro x m
    induction m with
    | nil => rfl
    | cons y m ih =>
      unfold insL
      split
      · simp
      · simp [ih]
  unfold ptL
  rw [key]
  have : (dlL l k).length ≤ l.length := List.length_filter_le _ _
  omega
theorem puL_len (l : List En) (k v : ByteArray) : (puL l k v).length ≤ l.length + 1 := by
  unfold puL
  split
  · exact ptL_len l k v
  · omega
theorem deE_len (l : List En) (k : ByteArray) : (deE l k).length ≤ l.length := by
  unfold deE
  split
  · exact List.length_filter_le _ _
  · exact Nat.le_refl _

theorem puL_right {l : List En} {k v : ByteArray} (h : Rg l) (hm : mayB k v = true) : puL l k v = ptL l k v := by
  unfold puL; rw [hm, rgB_of h]; rfl
theorem deE_right {l : List En} {k : ByteArray} (h : Rg l) : deE l k = dlL l k := by
  unfold deE; rw [if_pos (rgB_of h)]
theorem geV_right {l : List En} {k : ByteArray} (h : Rg l) : geV l k = gtV l k ∧ geB l k = fdB l k := by
  unfold geV geB; rw [rgB_of h]; exact ⟨rfl, rfl⟩

/-- WHAT WAS PUT IS GOT; what was deleted is not there. -/
theorem keep_own {l : List En} {k v : ByteArray} (h : Rg l) (hm : mayB k v = true) : rgB (puL l k v) = true ∧ rgB (deE (puL l k v) k) = true ∧ geV (puL l k v) k = v ∧ geB (puL l k v) k = true ∧ geB (deE (puL l k v) k) k = false := by
  have rp : Rg (puL l k v) := by rw [puL_right h hm]; exact ptL_rg h hm
  have rd : Rg (deE (puL l k v) k) := by rw [deE_right rp]; exact dlL_rg rp k
  have hin : (k, v) ∈ puL l k v := by rw [puL_right h hm, ptL_mem]; exact Or.inl rfl
  obtain ⟨g1, g2⟩ := geV_right (k := k) rp
  obtain ⟨g3, g4⟩ := geV_right (k := k) rd
  refine ⟨rgB_of rp, rgB_of rd, ?_, ?_, ?_⟩
  · rw [g1]; exact gtV_of rp hin
  · rw [g2]; exact fdB_iff.2 ⟨_, hin, rfl⟩
  · rw [g4]
    cases e : fdB (deE (puL l k v) k) k
    · rfl
    · obtain ⟨x, hx, hk⟩ := fdB_iff.1 e
      rw [deE_right rp, dlL_mem] at hx
      exact absurd hk hx.2

/-- Other keys are as they were. -/
theorem keep_other {l : List En} {k v o : ByteArray} (h : Rg l) (hm : mayB k v = true) (ho : o ≠ k) : geV (puL l k v) o = geV l o ∧ geB (puL l k v) o = geB l o ∧ geV (deE (puL l k v) k) o = geV l o ∧ geB (deE (puL l k v) k) o = geB l o := by
  have rp : Rg (puL l k v) := by rw [puL_right h hm]; exact ptL_rg h hm
  have rd : Rg (deE (puL l k v) k) := by rw [deE_right rp]; exact dlL_rg rp k
  have mp : ∀ u, (o, u) ∈ puL l k v ↔ (o, u) ∈ l := by
    intro u
    rw [puL_right h hm, ptL_mem]
    constructor
    · rintro (e | e)
      · exact absurd (congrArg Prod.fst e) ho
      · exact e.1
    · exact fun e => Or.inr ⟨e, ho⟩
  have md : ∀ u, (o, u) ∈ deE (puL l k v) k ↔ (o, u) ∈ l := by
    intro u
    rw [deE_right rp, dlL_mem, mp]
    exact ⟨fun e => e.1, fun e => ⟨e, ho⟩⟩
  obtain ⟨a1, a2⟩ := gt_same rp h mp
  obtain ⟨b1, b2⟩ := gt_same rd h md
  obtain ⟨g1, g2⟩ := geV_right (k := o) rp
  obtain ⟨g3, g4⟩ := geV_right (k := o) rd
  obtain ⟨g5, g6⟩ := geV_right (k := o) h
  rw [g1, g2, g3, g4, g5, g6]
  exact ⟨a2, a1, b2, b1⟩

/-- What has been put so far: just the entries at these places. -/
def PtI (l : List En) (f : Nat → Nat) (i : Nat) (a : List En) : Prop := Rg a ∧ a.length ≤ i ∧ ∀ x, x ∈ a ↔ ∃ j, j < i ∧ x = l[f j]!

theorem PtI.zero (l : List En) (f : Nat → Nat) : PtI l f 0 [] := ⟨Rg.nil, Nat.le_refl _, fun x => ⟨(fun h => by cases h), fun ⟨j, hj, _⟩ => absurd hj (Nat.not_lt_zero _)⟩⟩
theorem PtI.next {l a : List En} {f : Nat → Nat} {i : Nat} (hl : Rg l) (hf : ∀ j, j ≤ i → f j < l.length) (h : PtI l f i a) : PtI l f (i + 1) (puL a l[f i]!.1 l[f i]!.2) := by
  obtain ⟨h1, h2, h3⟩ := h
  have hm : mayB l[f i]!.1 l[f i]!.2 = true := hl.may _ (by rw [bang_get (hf i (Nat.le_refl _))]; exact List.getElem_mem _)
  refine ⟨by rw [puL_right h1 hm]; exact ptL_rg h1 hm, Nat.le_trans (puL_len _ _ _) (Nat.succ_le_succ h2), fun x => ?_⟩
  rw [puL_right h1 hm, ptL_mem, h3]
  constructor
  · rintro (e | ⟨⟨j, hj, e⟩, _⟩)
    · exact ⟨i, Nat.lt_succ_self _, e⟩
    · exact ⟨j, by omega, e⟩
  · rintro ⟨j, hj, e⟩
    by_cases c : x.1 = l[f i]!.1
    · left
      refine hl.one ?_ ?_ c
      · rw [e, bang_get (hf j (by omega))]; exact List.getElem_mem _
      · rw [bang_get (hf i (Nat.le_refl _))]; exact List.getElem_mem _
    · right
      refine ⟨⟨j, ?_, e⟩, c⟩
      rcases Nat.lt_or_ge j i with d | d
      · exact d
      · exfalso
        obtain rfl : j = i := by omega
        rw [e] at c
        exact c rfl
theorem PtI.all {l a : List En} {f : Nat → Nat} (hl : Rg l) (hf : ∀ j, j < l.length → f j < l.length) (hs : ∀ t, t < l.length → ∃ j, j < l.length ∧ f j = t) (h : PtI l f l.length a) : a = l := by
  obtain ⟨h1, h2, h3⟩ := h
  refine Rg.ext h1 hl fun x => ?_
  rw [h3]
  constructor
  · rintro ⟨j, hj, e⟩
    rw [e, bang_get (hf j hj)]; exact List.getElem_mem _
  · intro hx
    obtain ⟨t, ht, rfl⟩ := List.getElem_of_mem hx
    obtain ⟨j, hj, e⟩ := hs t ht
    exact ⟨j, hj, by rw [e, bang_get ht]⟩

theorem turn_all {n k : Nat} (hk : k < n) : ∀ t, t < n → ∃ j, j < n ∧ (k + j) % n = t := by
  intro t ht
  by_cases c : k ≤ t
  · exact ⟨t - k, by omega, by rw [show k + (t - k) = t by omega]; exact Nat.mod_eq_of_lt ht⟩
  · refine ⟨t + n - k, by omega, ?_⟩
    rw [show k + (t + n - k) = t + n by omega, Nat.add_mod_right]
    exact Nat.mod_eq_of_lt ht
theorem back_all {n : Nat} : ∀ t, t < n → ∃ j, j < n ∧ n - 1 - j = t := fun t ht => ⟨n - 1 - t, by omega, by omega⟩

end Go.Proofs.Ytkoonogfllndhaa
