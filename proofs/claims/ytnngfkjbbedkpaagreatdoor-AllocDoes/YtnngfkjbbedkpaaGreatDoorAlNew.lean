/-
  The walks of package alloc's New and Taken.
-/
import Derived.Test.YtnngfkjbbedkpaaGreatDoorAlOps2
import Derived.Shelf.SlIterI.Nil
import Derived.Shelf.SortM.Plain
import Derived.Shelf.SortM.SortNone
import Derived.Ground.GgzProg
import Derived.Ground.SlgmProg
namespace Go.Proofs.YtnngfkjbbedkpaaGreatDoor
open Go.Shelf Go.RowKit Go.Lib Go.Sort Go.Maps
open Go.ChangeMaps (setBlock)
set_option linter.unusedVariables false

section
variable {B : Nat} {w0 w : World} {l : List Res} {t f b : Nat} {x : TX} {d : Dk}

theorem makeC (w : World) : (Instr.makeMap 83 none).run Tryz.prog w = .ok (.map (some w.heap.size)) (w.alloc (.map #[] 0)) := by kernel_rfl

set_option maxHeartbeats 1000000 in
theorem tnew (h : Sep B w0 w (File f b d :: l)) (hm : d.room ≤ 16384) {v : Value} {fr : List Pr} (hr : Row encP 2 w v fr) (hl : fr.length ≤ 40000) (pages : Int) :
    Calls Tryz.prog 8 #[ptr f, v, .int .i64 pages] w fun e w' => ∃ t, e = .returned (ptr t) ∧ Sep B w0 w' (Tx t f (TX.new fr pages d.room) :: File f b d :: l) := by
  have CR : Hid _ := room_f h
  have hpo : Hid ((pagesOf pages d.room : Int) = max 2 (min pages (d.room : Int))) := by show _ = _; unfold pagesOf; omega
  have hP2 : (2 : Int) ≤ max 2 (min pages (d.room : Int)) := by omega
  have hP3 : max 2 (min pages (d.room : Int)) ≤ 16384 := by omega
  obtain ⟨X, hX⟩ : ∃ X, TX.new fr pages d.room = X := ⟨_, rfl⟩
  have HX : Hid (X = ⟨meL fr [(2, (pagesOf pages d.room : Int) - 1)], pagesOf pages d.room, fun _ => none, 0⟩) := hX.symm
  rw [hX]
  clear hX
  have K : Hid (∀ P : Int, (pagesOf pages d.room : Int) = P → ∀ W : World, W = w.alloc (.cells #[.int .i64 2, .int .i64 (P - 1)] 69) → Calls Tryz.prog 41 #[v, .slice (some ⟨w.heap.size, 0, none⟩) 1 1] W (GivesO W (meL fr [(2, (pagesOf pages d.room : Int) - 1)]))) := by
    intro P hP W hW
    rw [hP]
    refine meet_o _ _ _ _ W ?_ ?_ (by simp; omega)
    · rw [hW]; exact hr.below ((Below.refl _ _).alloc (Nat.le_refl _) _)
    · rw [hW]
      exact row_one (Cl.new _ _ _)
  have S : Hid (∀ W, Below w.heap.size w W → Sep B w0 W (File f b d :: l)) := fun W hb => h.below hb
  clear h
  obtain ⟨av, cv, rfl, _⟩ := hr
  go_enter Tryz.func8, Tryz.ntmps8
  go_wp2_with fail
  refine Calls.mono CR.out ?_
  rintro e w1 ⟨rfl, rfl⟩
  clear CR
  go_wp2_with fail
  refine Calls.mono (K.out _ hpo.out _ rfl) ?_
  rintro e w2 ⟨ao2, n2, c2, rfl, r2, b2⟩
  have s2 := (S.out _ ((Below.refl _ _).alloc (Nat.le_refl _) _)).addFree b2 r2
  have s3 := s2.addMap.up1.addBlk (txO f (.slice ao2 n2 c2) (pagesOf pages d.room) w2.heap.size)
  have S4 := Sep.txShut (x := ⟨meL fr [(2, (pagesOf pages d.room : Int) - 1)], pagesOf pages d.room, fun _ => none, 0⟩) s3
  rw [← HX.out] at S4
  unfold txO at S4
  rw [hpo.out, show (w2.alloc (.map #[] 0)).heap.size = w2.heap.size + 1 by simp] at S4
  have S5 : Hid _ := S4
  have hmk := makeC w2
  clear s2 s3 S K r2 b2 hpo HX S4
  generalize max 2 (min pages (d.room : Int)) = P at *
  go_wp2
  go_ret
  exact ⟨_, rfl, S5.out⟩

end

end Go.Proofs.YtnngfkjbbedkpaaGreatDoor
