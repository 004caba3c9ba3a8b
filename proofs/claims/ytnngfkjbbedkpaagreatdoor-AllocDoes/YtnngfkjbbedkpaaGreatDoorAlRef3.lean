/-
  The walks of the document's New, Alloc, Drop, Put.
-/
import Derived.Test.YtnngfkjbbedkpaaGreatDoorAlRef2
namespace Go.Proofs.YtnngfkjbbedkpaaGreatDoor
open Go.Shelf Go.RowKit Go.Lib Go.Sort
set_option linter.unusedVariables false

def isFree (fr : List Pr) (i : Nat) : Bool := decide (2 ≤ i) && hasB fr (i : Int)
def newR (fr : List Pr) : Nat → RX
  | 0 => ⟨[], [], [], [], []⟩
  | n + 1 => (newR fr n).grow (isFree fr n)
theorem newR_len (fr : List Pr) : ∀ n, (newR fr n).Len n
  | 0 => ⟨rfl, rfl, rfl, rfl, rfl⟩
  | n + 1 => (newR_len fr n).grow _

section
variable {B : Nat} {w0 w : World} {l : List Res} {r g c : Nat} {y : RX} {d : Dk}

theorem Sep.addRtx (h : Sep B w0 w l) (g : Nat) : Sep B w0 (w.alloc (.cells #[ptr g, .slice none 0 0, .slice none 0 0, .slice none 0 0, .slice none 0 0, .slice none 0 0] 56)) (RTx w.heap.size g ⟨[], [], [], [], []⟩ :: l) := by
  refine Sep.rtxShut (y := ⟨[], [], [], [], []⟩) (v1 := .slice none 0 0) (v2 := .slice none 0 0) (v3 := .slice none 0 0) (v4 := .slice none 0 0) (v5 := .slice none 0 0) ?_
  have h1 := ((((h.addNil 9).addNil 38).addNil 4).addNil 4).addNil 4
  exact h1.addBlk (rtxO g (.slice none 0 0) (.slice none 0 0) (.slice none 0 0) (.slice none 0 0) (.slice none 0 0))

set_option maxRecDepth 100000 in
set_option maxHeartbeats 2000000 in
theorem rnew (h : Sep B w0 w (RFile g c d :: l)) (hm : d.room ≤ 16384) {v : Value} {fr : List Pr} (hr : ∀ u, Below B w0 u → Row encP 2 u v fr) (hl : fr.length ≤ 40000) (pages : Int) :
    Calls Tryz.prog 10 #[ptr g, v, .int .i64 pages] w fun e w' => ∃ r, e = .returned (ptr r) ∧ Sep B w0 w' (RTx r g (newR fr (pagesOf pages d.room)) :: RFile g c d :: l) := by
  obtain ⟨av, cv, rfl, _⟩ := hr w h.bel
  have HR : Aside (∀ u, Below B w0 u → Row encP 2 u (.slice av fr.length cv) fr) := hr
  have S1 : Hid (Sep B w0 (w.alloc (.cells #[ptr g, .slice none 0 0, .slice none 0 0, .slice none 0 0, .slice none 0 0, .slice none 0 0] 56)) (RTx w.heap.size g (newR fr 0) :: RFile g c d :: l)) := h.addRtx g
  have CR : Hid _ := rroom S1.out
  have hr2 : 2 ≤ d.room := room_ge d
  have hpo : ((pagesOf pages d.room : Nat) : Int) = min (max pages 2) (d.room : Int) := by unfold pagesOf; omega
  obtain ⟨P, hP⟩ : ∃ P, pagesOf pages d.room = P := ⟨_, rfl⟩
  rw [hP] at hpo ⊢
  have hP2 : P ≤ 16384 := by omega
  clear h hr hP
  go_enter Tryz.func10, Tryz.ntmps10
  go_wp2_with fail
  refine Calls.mono CR.out ?_
  rintro e w1 ⟨rfl, rfl⟩
  clear CR
  go_wp2
  rw [← hpo]
  generalize w.alloc (.cells #[ptr g, .slice none 0 0, .slice none 0 0, .slice none 0 0, .slice none 0 0, .slice none 0 0] 56) = w2 at *
  generalize w.heap.size = r at *
  clear hpo hr2 hm
  go_loopg [9] P (fun kx s9 wr => ∃ (i : Nat), s9 = .int .i64 i ∧ i ≤ P ∧ P - i ≤ kx ∧ Hid (Sep B w0 wr (RTx r g (newR fr i) :: RFile g c d :: l)))
  case atStart => exact ⟨0, rfl, Nat.zero_le _, Nat.le_refl _, S1⟩
  case round =>
    obtain ⟨i, rfl, hi, hki, SR⟩ := hrel
    clear S1
    by_cases hil : i < P
    · have hilz : (i : Int) < (P : Int) := by omega
      by_cases h2 : 2 ≤ i
      · have h2z : (2 : Int) ≤ (i : Int) := by omega
        have CH : Hid _ := rhas_any _ _ (i : Int) wr (HR.out _ SR.out.bel) (by omega)
        have CG : Hid (∀ u, Sep B w0 u (RTx r g (newR fr i) :: RFile g c d :: l) → _) := fun u hu => rgrow hu (hasB fr (i : Int)) (newR_len fr i) (by omega)
        have EN : Hid ((newR fr i).grow (hasB fr (i : Int)) = newR fr (i + 1)) := by show _ = (newR fr i).grow (isFree fr i); unfold isFree; rw [decide_eq_true h2, Bool.true_and]
        generalize hasB fr (i : Int) = hb at *
        go_wp2_with fail
        refine Calls.mono CH.out ?_
        rintro e w3 ⟨rfl, b3⟩
        have C4 : Hid _ := CG.out w3 (SR.out.below b3)
        clear CH CG b3 SR
        go_wp2_with fail
        refine Calls.mono C4.out ?_
        rintro e w4 ⟨rfl, s4⟩
        rw [EN.out] at s4
        have S4 : Hid _ := s4
        clear C4 s4
        go_wp2
        go_roundg (P - (i + 1))
        case measure => omega
        case rel => exact ⟨i + 1, by go_num, by omega, Nat.le_refl _, S4⟩
      · have h2z : ¬ (2 : Int) ≤ (i : Int) := by omega
        have CG : Hid _ := rgrow SR.out false (newR_len fr i) (by omega)
        have EN : Hid ((newR fr i).grow false = newR fr (i + 1)) := by show _ = (newR fr i).grow (isFree fr i); unfold isFree; rw [decide_eq_false h2, Bool.false_and]
        go_wp2_with fail
        refine Calls.mono CG.out ?_
        rintro e w4 ⟨rfl, s4⟩
        rw [EN.out] at s4
        have S4 : Hid _ := s4
        clear CG s4 SR
        go_wp2
        go_roundg (P - (i + 1))
        case measure => omega
        case rel => exact ⟨i + 1, by go_num, by omega, Nat.le_refl _, S4⟩
    · have hilz : ¬ (i : Int) < (P : Int) := by omega
      obtain rfl : i = P := by omega
      go_wp2
      go_ret
      exact ⟨r, rfl, SR.out⟩
end

end Go.Proofs.YtnngfkjbbedkpaaGreatDoor
