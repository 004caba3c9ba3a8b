/-
  A change in memory: its own block, what is free in a row of its own, what fresh pages hold in a map.
-/
import Derived.Test.YtnngfkjbbedkpaaGreatDoorAl
import Derived.Deep.RegionHeld3
namespace Go.Proofs.YtnngfkjbbedkpaaGreatDoor
open Go.Shelf Go.RowKit Go.Lib Go.Sort
set_option linter.unusedVariables false

theorem IntRow.len {w : World} {ao : Option Addr} {n c : Nat} {ids : List Int} (h : IntRow w (.slice ao n c) ids) : n = ids.length := by
  obtain ⟨ao', c', e, _⟩ := h; cases e; rfl
theorem IntRow.at {w : World} {ao : Option Addr} {n c : Nat} {ids : List Int} (h : IntRow w (.slice ao n c) ids) {i : Nat} (hi : i < ids.length) : ∃ r o, ao = some ⟨r, o, none⟩ ∧ r < w.heap.size ∧ w.cell? ⟨r, o + i, none⟩ = some (.int .i64 (ids.getD i 0)) := by
  obtain ⟨ao', c', e, h1⟩ := h
  cases e
  obtain ⟨r, o, e2, hr, hc⟩ := h1 (by intro e; rw [e] at hi; simp at hi)
  exact ⟨r, o, e2, hr, hc i hi⟩

/-- What a call answers: a new row, in memory of its own. -/
def GivesO (w : World) (l : List Pr) (e : Ending) (w' : World) : Prop := ∃ ao n c, e = .returned (.slice ao n c) ∧ Own encP 2 w.heap.size w' (.slice ao n c) l ∧ Below w.heap.size w w'
theorem givesO_of {w : World} {l : List Pr} {e : Ending} {w' : World} (h : ∃ v', e = .returned v' ∧ Own encP 2 w.heap.size w' v' l ∧ Below w.heap.size w w') : GivesO w l e w' := by
  obtain ⟨v', rfl, ho, hb⟩ := h
  obtain ⟨ao, c, rfl, _⟩ := id ho
  exact ⟨ao, _, c, rfl, ho, hb⟩

/-- A row of runs that can be written, in a block of its own (where it has any). -/
def FreeR (v : Value) (s : List Pr) : Res := fun w X => Own encP 2 0 w v s ∧ ∀ k, X k ↔ s ≠ [] ∧ ∃ o n c, v = .slice (some ⟨k, o, none⟩) n c
theorem good_free (v : Value) (s : List Pr) : Good (FreeR v s) :=
  ⟨fun w w' X h hk hs => by
    obtain ⟨⟨ao, cap, e, h1, h2, h3⟩, hX⟩ := h
    refine ⟨⟨ao, cap, e, h1, h2, fun hne => ?_⟩, hX⟩
    obtain ⟨b, off, e2, hb0, hb, hH⟩ := h3 hne
    subst e2 e
    have hb2 := hk b ((hX b).2 ⟨hne, off, _, _, rfl⟩)
    refine ⟨b, off, rfl, hb0, Nat.lt_of_lt_of_le hb hs, fun t ht => ⟨(World.cell?_of_block (a := ⟨b, off + t, none⟩) hb2).trans (hH t ht).1, ?_⟩⟩
    have := (hH t ht).2
    simp only [World.frozen?, hb2] at this ⊢
    exact this, fun w X h k hk => by
    obtain ⟨hne, o, n, c, e⟩ := (h.2 k).1 hk
    obtain ⟨ao, cap, e1, _, _, h3⟩ := h.1
    obtain ⟨b, off, e2, _, hb, _⟩ := h3 hne
    rw [e1, e2] at e
    cases e
    exact hb⟩

section
variable {B : Nat} {w0 w w' : World} {l : List Res} {v : Value} {s : List Pr}
theorem Sep.free (h : Sep B w0 w (FreeR v s :: l)) : Own encP 2 0 w v s := by
  obtain ⟨_, _, Y, ⟨_, X, _, ha, _⟩, _⟩ := h; exact ha.1
theorem Sep.addFree (h : Sep B w0 w l) (hb : Below w.heap.size w w') (o : Own encP 2 w.heap.size w' v s) : Sep B w0 w' (FreeR v s :: l) :=
  h.add hb (good_free _ _) (X := fun k => s ≠ [] ∧ ∃ o n c, v = .slice (some ⟨k, o, none⟩) n c) ⟨o.mono (Nat.zero_le _), fun _ => Iff.rfl⟩ (fun k hk => by
    obtain ⟨hne, o', n, c, e⟩ := hk
    obtain ⟨ao, cap, e1, _, _, h3⟩ := o
    obtain ⟨b, off, e2, hb, _⟩ := h3 hne
    rw [e1, e2] at e
    cases e
    exact hb)
theorem flat_0 (r : Pr) (s : List Pr) : (flatK encP 2 (r :: s).toArray)[0]! = .int .i64 r.1 := by
  rw [get_flatK _ _ _ _ (by simp)]; rfl
theorem flat_1 (r : Pr) (s : List Pr) : (flatK encP 2 (r :: s).toArray)[1]! = .int .i64 r.2 := by
  rw [get_flatK _ _ _ _ (by simp; omega)]; rfl
theorem flat_same {a a' b : Int} {s : List Pr} {t : Nat} (h0 : t ≠ 0) (ht : t < (s.length + 1) * 2) : (flatK encP 2 ((a', b) :: s).toArray)[t]! = (flatK encP 2 ((a, b) :: s).toArray)[t]! := by
  by_cases h1 : t = 1
  · subst h1; rw [flat_1, flat_1]
  · rw [get_flatK _ _ _ _ (by simpa using ht), get_flatK _ _ _ _ (by simpa using ht)]
    obtain ⟨q, hq⟩ : ∃ q, t / 2 = q + 1 := ⟨t / 2 - 1, by omega⟩
    have e : (((a', b) :: s).toArray)[q + 1]! = (((a, b) :: s).toArray)[q + 1]! := by
      rw [getElem!_pos _ _ (by simp; omega), getElem!_pos _ _ (by simp; omega)]
      simp
    rw [hq, e]
theorem row_one {W : World} {q : Nat} {a b : Int} (h : Cl W q #[.int .i64 a, .int .i64 b] 69) : Row encP 2 W (.slice (some ⟨q, 0, none⟩) 1 1) [(a, b)] := by
  refine ⟨_, 1, rfl, Nat.le_refl _, (fun h => by cases h), fun _ => ⟨q, 0, rfl, h.lt, fun t ht => ?_⟩⟩
  match t, ht with
  | 0, _ => rw [flat_0]; exact h.cell 0
  | 1, _ => rw [flat_1]; exact h.cell 1
  | t + 2, ht => simp at ht; omega
/-- What is read of its first run. -/
theorem Sep.freeAt {r : Pr} (h : Sep B w0 w (FreeR v (r :: s) :: l)) : ∃ g o c, v = .slice (some ⟨g, o, none⟩) (s.length + 1) c ∧ s.length + 1 ≤ c ∧ g < w.heap.size ∧ w.cell? ⟨g, o, none⟩ = some (.int .i64 r.1) ∧ w.cell? ⟨g, o + 1, none⟩ = some (.int .i64 r.2) ∧ w.frozen? ⟨g, o, none⟩ = false := by
  obtain ⟨ao, cap, e, h1, h2, h3⟩ := h.free
  obtain ⟨b, off, e2, _, hb, hH⟩ := h3 (by simp)
  subst e2 e
  have x0 := hH 0 (by simp)
  have x1 := hH 1 (by simp; omega)
  rw [flat_0] at x0
  rw [flat_1] at x1
  exact ⟨b, off, cap, rfl, by simpa using h1, hb, x0.1, x1.1, x0.2⟩
theorem Sep.freeStep {v' : Value} {s' : List Pr} (h : Sep B w0 w (FreeR v s :: l)) (ht : ∀ X : Nat → Prop, (∀ k, X k ↔ s ≠ [] ∧ ∃ o n c, v = .slice (some ⟨k, o, none⟩) n c) → Turn X w w') (o : Own encP 2 0 w' v' s') (hx : ∀ k, (s' ≠ [] ∧ ∃ o n c, v' = .slice (some ⟨k, o, none⟩) n c) → s ≠ [] ∧ ∃ o n c, v = .slice (some ⟨k, o, none⟩) n c) : Sep B w0 w' (FreeR v' s' :: l) :=
  h.step (good_free _ _) fun X hX => ⟨fun k => s' ≠ [] ∧ ∃ o n c, v' = .slice (some ⟨k, o, none⟩) n c, ⟨o, fun _ => Iff.rfl⟩, ht X hX.2, fun k hk => .inl ((hX.2 k).2 (hx k hk))⟩
/-- Its first run's beginning, written. -/
theorem Sep.freeSet {g o n c : Nat} {a b a' : Int} (h : Sep B w0 w (FreeR (.slice (some ⟨g, o, none⟩) n c) ((a, b) :: s) :: l)) : Sep B w0 (w.setCell ⟨g, o, none⟩ (.int .i64 a')) (FreeR (.slice (some ⟨g, o, none⟩) n c) ((a', b) :: s) :: l) := by
  refine h.freeStep (fun X hX => Turn.setCell w ((hX g).2 ⟨by simp, o, n, c, rfl⟩) _) ?_ (fun k hk => ⟨by simp, hk.2⟩)
  obtain ⟨ao, cap, e, h1, h2, h3⟩ := h.free
  obtain ⟨b', off, e2, _, hb, hH⟩ := h3 (by simp)
  subst e2
  cases e
  have x0 := hH 0 (by simp)
  rw [flat_0] at x0
  have hc0 : w.cell? ⟨g, o, none⟩ = some (.int .i64 a) := x0.1
  refine ⟨_, c, by simp, by simpa using h1, (fun h => by cases h), fun _ => ⟨g, o, rfl, Nat.zero_le _, by simpa [World.setCell] using hb, fun t ht => ?_⟩⟩
  have hH' := hH t (by simpa using ht)
  by_cases h0 : t = 0
  · subst h0
    refine ⟨?_, ?_⟩
    · rw [Nat.add_zero, World.cell?_setCell_same _ _ _ hc0, flat_0]; rfl
    · rw [World.frozen?_setCell]; exact hH'.2
  · refine ⟨?_, ?_⟩
    · rw [World.cell?_setCell_other _ _ _ _ (by intro e; injection e with _ e2 _; omega), hH'.1, flat_same h0 (by simpa using ht)]
    · rw [World.frozen?_setCell]; exact hH'.2
/-- Without its first run. -/
theorem Sep.freeTail {g o c : Nat} {r : Pr} (h : Sep B w0 w (FreeR (.slice (some ⟨g, o, none⟩) (s.length + 1) c) (r :: s) :: l)) : Sep B w0 w (FreeR (.slice (if c = 1 then some ⟨g, o, none⟩ else some ⟨g, o + 2, none⟩) s.length (c - 1)) s :: l) := by
  obtain ⟨ao, cap, e, h1, h2, h3⟩ := h.free
  obtain ⟨b', off, e2, _, hb, hH⟩ := h3 (by simp)
  subst e2
  cases e
  simp only [List.length_cons] at h1
  refine h.freeStep (fun X _ => Turn.refl X w) ⟨_, _, rfl, by omega, (fun h => by split at h <;> cases h), fun hne => ?_⟩ (fun k hk => ⟨by simp, ?_⟩)
  · have hpos : 0 < s.length := List.length_pos_iff.2 hne
    refine ⟨g, o + 2, by rw [if_neg (by omega)], Nat.zero_le _, hb, fun t ht => ?_⟩
    have ht2 : t < s.length * 2 := by simpa using ht
    have x := hH (t + 2) (by simp; omega)
    rw [show o + 2 + t = o + (t + 2) by omega]
    refine ⟨x.1.trans ?_, x.2⟩
    rw [get_flatK _ _ _ _ (by simp; omega), get_flatK _ _ _ _ (by simpa using ht)]
    have e : ((r :: s).toArray)[(t + 2) / 2]! = s.toArray[t / 2]! := by
      rw [show (t + 2) / 2 = t / 2 + 1 by omega, getElem!_pos _ _ (by simp; omega), getElem!_pos _ _ (by simp; omega)]
      simp
    rw [e, show (t + 2) % 2 = t % 2 by omega]
  · obtain ⟨_, o', n', c', e⟩ := hk
    split at e
    · cases e; exact ⟨_, _, _, rfl⟩
    · cases e; exact ⟨_, _, _, rfl⟩
theorem runSlU : Tryz.prog.underlying 22 = some (.slice (Tryz.prog.elem 22)) := by kernel_rfl
theorem runSlZ (u : World) : (sizeOf (Tryz.prog.elem 22)).run Tryz.prog u = .ok 2 u := by kernel_rfl
theorem run_off1 (g o n c : Nat) (hc : n + 1 ≤ c) (u : World) : (Instr.slice 22 (.slice (some ⟨g, o, none⟩) (n + 1) c) (some (.int .i64 1)) none none).run Tryz.prog u = .ok (.slice (if c = 1 then some ⟨g, o, none⟩ else some ⟨g, o + 2, none⟩) n (c - 1)) u := by
  have := run_slice_l u 22 (some ⟨g, o, none⟩) (n + 1) c runSlU .i64 1 (by omega) (by omega)
  rw [this, runSlZ]
  simp only [Result.andThen, sliced]
  by_cases h : c = 1
  · subst h; simp
  · simp [h, Addr.add]
end

/-- A block of one's own, written. -/
theorem Sep.blkPut {B : Nat} {w0 w : World} {l : List Res} {q i : Nat} {cs : Array Value} {ty : TypeId} (h : Sep B w0 w (Blk q (.cells cs ty (0, 0)) :: l)) (u : Value) : Sep B w0 (w.setCell ⟨q, i, none⟩ u) (Blk q (.cells (cs.setIfInBounds i u) ty (0, 0)) :: l) := by
  refine h.step (good_blk _ _) fun X hX => ⟨X, ⟨?_, hX.2⟩, Turn.setCell w ((hX.2 q).2 rfl) u, fun k hk => .inl hk⟩
  exact Cl.set (t := ty) hX.1 i u

def txO (f : Nat) (v : Value) (p m : Nat) : Obj := .cells #[ptr f, v, .int .i64 (p : Int), .map (some m)] 85 (0, 0)
/-- A change of the file f. -/
def Tx (t f : Nat) (x : TX) : Res := fun w X => ∃ v m, Both (Blk t (txO f v x.pages m)) (Both (FreeR v x.free) (MapC m x.fresh x.cnt)) w X
theorem good_tx (t f : Nat) (x : TX) : Good (Tx t f x) :=
  ⟨fun w w' X ⟨v, m, h⟩ hk hs => ⟨v, m, (good_both (good_blk _ _) (good_both (good_free _ _) (good_map _ _ _))).kept w w' X h hk hs⟩, fun w X ⟨v, m, h⟩ => (good_both (good_blk _ _) (good_both (good_free _ _) (good_map _ _ _))).lt w X h⟩
section
variable {B : Nat} {w0 w : World} {l : List Res} {t f : Nat} {x : TX}
theorem Sep.txOpen (h : Sep B w0 w (Tx t f x :: l)) : ∃ v m, Sep B w0 w (Blk t (txO f v x.pages m) :: FreeR v x.free :: MapC m x.fresh x.cnt :: l) := by
  obtain ⟨hB, hb, Y, ⟨_, X, Z, ⟨v, m, ha⟩, hl, hd, hy⟩, hY⟩ := h
  have g2 := good_both (good_free v x.free) (good_map m x.fresh x.cnt)
  have h1 : Hp w (Both (Blk t (txO f v x.pages m)) (Both (FreeR v x.free) (MapC m x.fresh x.cnt)) :: l) Y := ⟨good_both (good_blk _ _) g2, X, Z, ha, hl, hd, hy⟩
  have h2 := Hp.part (good_blk _ _) g2 h1
  exact ⟨v, m, hB, hb, Y, Hp.under h2 fun _ h3 => Hp.part (good_free _ _) (good_map _ _ _) h3, hY⟩
theorem Sep.txShut {v : Value} {m : Nat} (h : Sep B w0 w (Blk t (txO f v x.pages m) :: FreeR v x.free :: MapC m x.fresh x.cnt :: l)) : Sep B w0 w (Tx t f x :: l) := by
  obtain ⟨hB, hb, Y, h1, hY⟩ := h
  have h2 : Hp w (Both (Blk t (txO f v x.pages m)) (Both (FreeR v x.free) (MapC m x.fresh x.cnt)) :: l) Y := Hp.join (Hp.under h1 fun _ h3 => Hp.join h3)
  obtain ⟨_, X, Z, ha, hl, hd, hy⟩ := h2
  exact ⟨hB, hb, Y, ⟨good_tx _ _ _, X, Z, ⟨v, m, ha⟩, hl, hd, hy⟩, hY⟩
theorem Sep.txCells {v : Value} {m p : Nat} (h : Sep B w0 w (Blk t (txO f v p m) :: l)) : t < w.heap.size ∧ w.cell? ⟨t, 0, none⟩ = some (ptr f) ∧ w.cell? ⟨t, 1, none⟩ = some v ∧ w.cell? ⟨t, 2, none⟩ = some (.int .i64 (p : Int)) ∧ w.cell? ⟨t, 3, none⟩ = some (.map (some m)) ∧ ∀ i, w.frozen? ⟨t, i, none⟩ = false := by
  have hb := h.blk
  refine ⟨(Array.getElem?_eq_some_iff.1 hb).1, ?_, ?_, ?_, ?_, fun i => ?_⟩ <;> simp [World.cell?, World.frozen?, hb, txO]
end

end Go.Proofs.YtnngfkjbbedkpaaGreatDoor
