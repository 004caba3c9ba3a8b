/-
  A region that draws its order, by what holds between its operations: one step an operation, whatever the order.
-/
import Derived.Orders
import Derived.Deep.RegionHeld3
namespace Go.Proofs.YtljmkajpjjdnhaaGreatDoor.N

section
variable {P : Program} {ops : Array Oper} {Q : Exit → Act → World → Prop} {md : Region.Mode}

theorem ready_mem {listed : Array Bool} {i : Nat} (h : i ∈ Region.ready md ops listed) :
    i < ops.size ∧ listed.getD i true = false ∧ ∀ o, ops[i]? = some o → (o.after.all fun e => !Region.binds md e || listed.getD e.on false) = true := by
  unfold Region.ready at h
  rw [List.mem_filter, List.mem_range] at h
  obtain ⟨h1, h2⟩ := h
  rw [Bool.and_eq_true] at h2
  refine ⟨h1, by simpa using h2.1, fun o ho => ?_⟩
  have := h2.2
  rw [ho] at this
  simpa using this

/-- Operation i waits for operation j. -/
def waits (md : Region.Mode) (ops : Array Oper) (i j : Nat) : Bool := match ops[i]? with
  | some o => o.after.any fun e => e.on == j && Region.binds md e
  | none => false
theorem ready_dep {listed : Array Bool} {i : Nat} (j : Nat) (h : i ∈ Region.ready md ops listed) (hj : waits md ops i j = true) : listed.getD j false = true := by
  obtain ⟨h1, _, h3⟩ := ready_mem h
  have hoL : ops[i]? = some ops[i] := Array.getElem?_eq_getElem h1
  have h4 := h3 _ hoL
  unfold waits at hj
  rw [hoL] at hj
  simp only at hj
  rw [Array.any_eq_true] at hj
  obtain ⟨k, hk, hx⟩ := hj
  rw [Bool.and_eq_true, beq_iff_eq] at hx
  rw [Array.all_eq_true] at h4
  have h5 := h4 k hk
  rw [hx.2, hx.1] at h5
  simpa using h5

/-- What comes later waits for what is ahead alone. -/
def ahead (md : Region.Mode) (ops : Array Oper) : Bool := (List.range ops.size).all fun i => match ops[i]? with
  | some o => o.after.all fun e => !Region.binds md e || decide (e.on < i)
  | none => true

theorem ready_ne {listed : Array Bool} (hs : listed.size = ops.size) (ho : ahead md ops = true) : ∀ i, i < ops.size → listed.getD i true = false → Region.ready md ops listed ≠ [] := by
  intro i
  induction i using Nat.strongRecOn with
  | ind i ih =>
    intro hi hu
    by_cases c : ∃ j, j < i ∧ listed.getD j true = false
    · obtain ⟨j, hj, hju⟩ := c
      exact ih j hj (by omega) hju
    · have hm : i ∈ Region.ready md ops listed := by
        unfold Region.ready
        rw [List.mem_filter, List.mem_range]
        refine ⟨hi, ?_⟩
        have hoi : ops[i]? = some ops[i] := Array.getElem?_eq_getElem hi
        rw [hu, hoi]
        have ha := List.all_eq_true.1 ho i (List.mem_range.2 hi)
        rw [hoi] at ha
        simp only [Option.map_some, Option.getD_some, Bool.not_false, Bool.true_and]
        rw [Array.all_eq_true] at ha ⊢
        intro k hk
        have hb := ha k hk
        cases hbd : Region.binds md ops[i].after[k]
        · rfl
        rw [hbd] at hb
        have := of_decide_eq_true (by simpa using hb : decide (ops[i].after[k].on < i) = true)
        have e : listed.getD ops[i].after[k].on true = true := by
          cases e : listed.getD ops[i].after[k].on true
          · exact absurd ⟨_, this, e⟩ c
          · rfl
        have hlt : ops[i].after[k].on < listed.size := by omega
        have e2 : listed.getD ops[i].after[k].on false = true := by
          simp only [Array.getD, hlt, dif_pos] at e ⊢
          exact e
        rw [e2]; rfl
      intro e
      rw [e] at hm
      cases hm

theorem count_set {f : List Bool} {i n : Nat} (hi : i < f.length) (hf : f[i] = false) (hc : f.count false = n + 1) : (f.set i true).count false = n := by
  rw [List.count_set hi, hf, hc]
  simp

theorem wpAny_inv (ho : ahead md ops = true) (J : List Bool → Act → World → Prop)
    (hstep : ∀ i f a w, f.length = ops.size → J f a w → i ∈ Region.ready md ops f.toArray → wpOp P ops Q i (fun a' w' => J (f.set i true) a' w') a w)
    (hdone : ∀ a w, J (List.replicate ops.size true) a w → Q .normal a w) :
    ∀ n f a w, f.length = ops.size → f.count false = n → J f a w → wpAny P md ops Q n f.toArray a w := by
  intro n
  induction n with
  | zero =>
    intro f a w hl hc hJ
    have hall : f = List.replicate ops.size true := by
      rw [List.eq_replicate_iff]
      refine ⟨hl, fun b hb => ?_⟩
      cases b
      · exact absurd hb (List.count_eq_zero.1 hc)
      · rfl
    refine ⟨?_, hdone a w (hall ▸ hJ)⟩
    rw [List.eq_nil_iff_forall_not_mem]
    intro i hi
    obtain ⟨h1, h2, _⟩ := ready_mem hi
    rw [hall] at h2
    simp [Array.getD] at h2
  | succ n ih =>
    intro f a w hl hc hJ
    refine ⟨fun e => ?_, fun i hi => ?_⟩
    · exfalso
      have hm : false ∈ f := List.count_pos_iff.1 (by omega)
      obtain ⟨i, hi, he⟩ := List.getElem_of_mem hm
      refine ready_ne (md := md) (listed := f.toArray) (by simpa using hl) ho i (by omega) ?_ e
      simp [Array.getD, hi, he]
    · obtain ⟨h1, h2, _⟩ := ready_mem hi
      have hif : i < f.length := by omega
      have hfi : f[i] = false := by simpa [Array.getD, hif] using h2
      refine wpOp_mono (fun a' w' h' => ?_) (hstep i f a w hl hJ hi)
      have := ih (f.set i true) a' w' (by simpa using hl) (count_set hif hfi hc) h'
      simpa using this

/-- All others are ahead of operation L. -/
def lastOp (md : Region.Mode) (ops : Array Oper) (L : Nat) : Bool := (List.range ops.size).all fun i => i == L || match ops[L]? with
  | some o => o.after.any fun e => e.on == i && Region.binds md e
  | none => false

theorem last_all {f : List Bool} {L : Nat} (hl : f.length = ops.size) (hL : lastOp md ops L = true) (h : L ∈ Region.ready md ops f.toArray) : f.set L true = List.replicate ops.size true := by
  obtain ⟨h1, h2, h3⟩ := ready_mem h
  have hoL : ops[L]? = some ops[L] := Array.getElem?_eq_getElem h1
  have h4 := h3 _ hoL
  refine List.eq_replicate_iff.2 ⟨by simpa using hl, fun b hb => ?_⟩
  obtain ⟨i, hi, rfl⟩ := List.getElem_of_mem hb
  rw [List.getElem_set]
  by_cases c : L = i
  · rw [if_pos c]
  · rw [if_neg c]
    have hi' : i < f.length := by simpa using hi
    have hx := List.all_eq_true.1 hL i (List.mem_range.2 (by omega))
    rw [hoL] at hx
    simp only [Bool.or_eq_true, beq_iff_eq] at hx
    rcases hx with hx | hx
    · exact absurd hx.symm c
    · rw [Array.any_eq_true] at hx
      obtain ⟨k, hk, hx⟩ := hx
      rw [Bool.and_eq_true, beq_iff_eq] at hx
      rw [Array.all_eq_true] at h4
      have h5 := h4 k hk
      rw [hx.2, hx.1] at h5
      simpa [Array.getD, hi'] using h5

/-- The region, by states: J holds as long as operation L, which comes last, has not come up. -/
theorem region_inv {id : Nat} {a : Act} {w : World} (L : Nat) (J : List Bool → Act → World → Prop) (hm : P.follows .mixedOrders = true) (ho : ahead .any ops = true) (hL : lastOp .any ops L = true)
    (h0 : J (List.replicate ops.size false) a w.drew)
    (hstep : ∀ i f a w, i ≠ L → f.length = ops.size → J f a w → i ∈ Region.ready .any ops f.toArray → wpOp P ops Q i (fun a' w' => J (f.set i true) a' w') a w)
    (hlast : ∀ f a w, f.length = ops.size → J f a w → L ∈ Region.ready .any ops f.toArray → wpOp P ops Q L (fun a' w' => Q .normal a' w') a w)
    (hJ : ∀ f a w, J f a w → f.getD L true = false) : (Code.region id ops true).wp P Q a w := by
  refine wp_region_any hm ?_
  have key := wpAny_inv (P := P) (Q := Q) (md := .any) ho (fun f a w => J f a w ∨ (f = List.replicate ops.size true ∧ Q .normal a w)) (fun i f a w hl hj hi => ?_) (fun a w hj => ?_) ops.size (List.replicate ops.size false) a w.drew (by simp) (by simp) (Or.inl h0)
  · simpa using key
  · rcases hj with hj | ⟨rfl, _⟩
    · by_cases c : i = L
      · subst c
        exact wpOp_mono (fun a' w' h' => Or.inr ⟨last_all hl hL hi, h'⟩) (hlast f a w hl hj hi)
      · exact wpOp_mono (fun a' w' h' => Or.inl h') (hstep i f a w c hl hj hi)
    · exfalso
      obtain ⟨h1, h2, _⟩ := ready_mem hi
      simp [Array.getD] at h2
  · rcases hj with hj | ⟨_, hj⟩
    · exfalso
      have := hJ _ _ _ hj
      rw [List.getD_eq_getElem?_getD, List.getElem?_replicate] at this
      split at this <;> simp at this
    · exact hj

end
end Go.Proofs.YtljmkajpjjdnhaaGreatDoor.N
