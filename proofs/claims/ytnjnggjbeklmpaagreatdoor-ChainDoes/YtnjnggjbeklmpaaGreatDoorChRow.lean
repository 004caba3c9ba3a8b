/-
  Rows of runs that lie apart from other things; parts of a row.
-/
import Derived.Test.YtnjnggjbeklmpaaGreatDoorChMet
import Derived.Test.YtnjnggjbeklmpaaGreatDoorChParse
import Derived.Deep.RegionHeld3
namespace Go.Proofs.YtnjnggjbeklmpaaGreatDoor
open Go.Shelf Go.RowKit Go.Lib Go.Sort
set_option linter.unusedVariables false

/-- What Norm's walk says. -/
def NormOk : Prop := ∀ (v : Value) (l : List Pr) (w : World), Row encP 2 w v l → l.length ≤ 100000 → Calls Tryz.prog 23 #[v] w fun e w' => ∃ v', e = .returned v' ∧ OwnP w.heap.size w' v' (nmL l) ∧ Below w.heap.size w w'

/-- A row of runs, in a block of its own, or none. -/
def RunR (v : Value) (s : List Pr) : Res := fun w X => OwnP 0 w v s ∧ ∀ k, X k ↔ v.ownBlock = some k
theorem good_run (v : Value) (s : List Pr) : Good (RunR v s) :=
  ⟨fun w w' X h hk _ => ⟨ownsRow_kept' h.1 (fun k hk' => hk k ((h.2 k).2 hk')), h.2⟩, fun w X h k hk => (h.1.lt k ((h.2 k).1 hk)).2⟩
section
variable {B : Nat} {w0 w w' : World} {l : List Res} {v : Value} {s : List Pr}
theorem Sep.run (h : Sep B w0 w (RunR v s :: l)) : OwnP 0 w v s := by
  obtain ⟨_, _, Y, ⟨_, X, _, ha, _⟩, _⟩ := h; exact ha.1
theorem Sep.addRun (h : Sep B w0 w l) (hb : Below w.heap.size w w') (o : OwnP w.heap.size w' v s) : Sep B w0 w' (RunR v s :: l) :=
  h.add hb (good_run _ _) (X := fun k => v.ownBlock = some k) ⟨o.mono' (Nat.zero_le _), fun _ => Iff.rfl⟩ (fun k hk => by
    rcases o.2 with ⟨e, _⟩ | ⟨g, cap, cur, e, hg, _⟩
    · rw [e] at hk; simp [Value.ownBlock] at hk
    · rw [e] at hk; simp [Value.ownBlock] at hk; omega)
end

theorem Row.sub {w : World} {ao : Option Addr} {n c : Nat} {s : List Pr} (h : Row encP 2 w (.slice ao n c) s) (k : Nat) (hk : k ≤ n) : Row encP 2 w (.slice ao k c) (s.take k) := by
  obtain ⟨ao', c', e, h1, h2, h3⟩ := h
  cases e
  have hl : (s.take k).length = k := by rw [List.length_take]; omega
  refine ⟨ao, c, by rw [hl], by rw [hl]; omega, h2, fun hne => ?_⟩
  obtain ⟨b, off, e2, hb, hc⟩ := h3 (by intro e; rw [e] at hne; simp at hne)
  refine ⟨b, off, e2, hb, fun t ht => ?_⟩
  rw [hl] at ht
  rw [hc t (by omega), get_flatK _ _ _ _ (by simp; omega), get_flatK _ _ _ _ (by simp; omega)]
  congr 2
  rw [getElem!_pos _ _ (by simp; omega), getElem!_pos _ _ (by simp; omega)]
  simp
theorem Row.off {w : World} {ao : Option Addr} {n c : Nat} {s : List Pr} (h : Row encP 2 w (.slice ao n c) s) (k : Nat) (hk : k ≤ n) : Row encP 2 w (.slice (if c = k then ao else ao.map (·.add (k * 2))) (n - k) (c - k)) (s.drop k) := by
  obtain ⟨ao', c', e, h1, h2, h3⟩ := h
  cases e
  have hl : (s.drop k).length = s.length - k := by rw [List.length_drop]
  refine ⟨_, c - k, by rw [hl], by rw [hl]; omega, fun hn => ?_, fun hne => ?_⟩
  · by_cases hc : c = k
    · omega
    · rw [if_neg hc] at hn
      have : ao = none := by cases ao with
        | none => rfl
        | some a => simp at hn
      have := h2 this
      omega
  · have hlt : k < s.length := by
      rcases Nat.lt_or_ge k s.length with h | h
      · exact h
      · exact absurd (List.drop_eq_nil_of_le h) hne
    obtain ⟨b, off, rfl, hb, hc⟩ := h3 (by intro e; rw [e] at hlt; simp at hlt)
    refine ⟨b, off + k * 2, ?_, hb, fun t ht => ?_⟩
    · rw [if_neg (by omega)]
      show some (Addr.add ⟨b, off, none⟩ (k * 2)) = _
      rw [Go.WideShapes.add_plain]
    · rw [hl] at ht
      rw [Nat.add_assoc, hc (k * 2 + t) (by omega), get_flatK _ _ _ _ (by simp; omega), get_flatK _ _ _ _ (by simp; omega)]
      have e1 : (k * 2 + t) / 2 = k + t / 2 := by omega
      have e2 : (k * 2 + t) % 2 = t % 2 := by omega
      rw [e1, e2]
      congr 2
      rw [getElem!_pos _ _ (by simp; omega), getElem!_pos _ _ (by simp; omega)]
      simp
theorem runSlU : Tryz.prog.underlying 33 = some (.slice (Tryz.prog.elem 33)) := by kernel_rfl
theorem runSlZ (u : World) : (sizeOf (Tryz.prog.elem 33)).run Tryz.prog u = .ok 2 u := by kernel_rfl
theorem run_sub (ao : Option Addr) (n c k : Nat) (hk : k ≤ c) (hao : ao = none ∨ ∃ g o, ao = some ⟨g, o, none⟩) (u : World) : (Instr.slice 33 (.slice ao n c) none (some (.int .i64 (k : Int))) none).run Tryz.prog u = .ok (.slice ao k c) u := by
  rw [run_slice_h u 33 ao n c runSlU .i64 k (by omega) (by omega), runSlZ]
  simp only [Result.andThen, sliced, Int.toNat_natCast]
  rcases hao with rfl | ⟨g, o, rfl⟩
  · simp
  · simp [Addr.add]
theorem run_off (ao : Option Addr) (n c k : Nat) (hk : k ≤ n) (u : World) : (Instr.slice 33 (.slice ao n c) (some (.int .i64 (k : Int))) none none).run Tryz.prog u = .ok (.slice (if c = k then ao else ao.map (·.add (k * 2))) (n - k) (c - k)) u := by
  rw [run_slice_l u 33 ao n c runSlU .i64 k (by omega) (by omega), runSlZ]
  simp only [Result.andThen, sliced, Int.toNat_natCast]

end Go.Proofs.YtnjnggjbeklmpaaGreatDoor
