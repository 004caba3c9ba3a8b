/-
  Entries are sorted by their keys.
-/
import Derived.Test.YtljmkajpjjdnhaaGreatDoorTdRow
import Derived.Test.YtljmkajpjjdnhaaGreatDoorBEn
import Derived.Test.YtljmkajpjjdnhaaGreatDoorSort
namespace Go.Proofs.YtljmkajpjjdnhaaGreatDoor.N
open Go.Shelf Go.RowKit Go.Lib Go.Sort
set_option linter.unusedVariables false

def cfE (x y : En) : Int := cmpK x.1 y.1
theorem ltE (x y : En) : ltOf cfE x y = ltK x.1 y.1 := by
  unfold ltOf cfE
  have := cmpK_lt x.1 y.1
  cases h : ltK x.1 y.1
  · rw [h] at this; simp only [Bool.false_eq_true, iff_false] at this; exact decide_eq_false this
  · rw [h] at this; exact decide_eq_true (this.2 rfl)
theorem swoE : SWO (ltOf cfE) where
  irrefl x := by rw [ltE]; exact ltK_irrefl _
  trans x y z h1 h2 := by rw [ltE] at *; exact ltK_trans h1 h2
  ntrans x y z h1 h2 := by
    rw [ltE] at *
    cases h : ltK x.1 z.1
    · rfl
    · rw [ltK_ge_trans h2 h] at h1; cases h1

theorem memPerm {d d' : Array En} (h : PermIn 0 d.size d d') : d'.toList.Perm d.toList := by
  have h1 := h.2.2
  have e1 : (d'.extract 0 d.size) = d' := by rw [← h.1]; simp
  have e2 : (d.extract 0 d.size) = d := by simp
  rw [e1, e2] at h1
  exact h1
theorem sortedPw {d : Array En} (h : SortedIn (ltOf cfE) 0 d.size d) : d.toList.Pairwise (fun x y => ltK y.1 x.1 = false) := by
  rw [List.pairwise_iff_getElem]
  intro i j hi hj hij
  have hi' : i < d.size := by simpa using hi
  have hj' : j < d.size := by simpa using hj
  have := h i j (Nat.zero_le _) hij hj'
  rw [getElem!_pos d i hi', getElem!_pos d j hj', ltE] at this
  simpa using this
theorem swkBelow {enc : En → List Value} {k blk off : Nat} {w0 W : World} {dk : Array En} (h : SWK enc k w0 blk off dk W) {B : Nat} (hB : B ≤ blk) (hs : B ≤ w0.heap.size) : Below B w0 W := by
  obtain ⟨m, os, rfl⟩ := h
  refine ⟨rfl, rfl, rfl, size_sortWorldK_c enc k w0 blk off m dk os, fun j hj => ?_⟩
  unfold sortWorldK
  rw [heap_grow_old _ _ (by rw [size_putRowK]; exact Nat.lt_of_lt_of_le hj hs)]
  have : blk ≠ j := by omega
  simp [putRowK, putRow, mapBlock, Sort.ahead, Array.getElem?_modify, this]

set_option maxHeartbeats 1000000 in
theorem apply1_any (x y : En) (W : World) : Calls Tryz.prog 23 #[.agg #[.string x.1, .string x.2], .agg #[.string y.1, .string y.2]] W fun e w' => e = .returned (.int .i64 (cfE x y)) ∧ ∃ q os', w' = grow (W.drewN q) os' := by
  have hcon := fun W' => Any.strings_Compare Tryz.lays106 x.1 y.1 W'
  change ∀ W', Calls Tryz.prog 24 _ _ _ at hcon
  unfold cfE cmpK
  generalize Lib.compareBytes x.1.data.toList y.1.data.toList = r at hcon ⊢
  go_enter Tryz.func23, Tryz.ntmps23
  go_wp2_with (go_at_call 24; refine (hcon _).mono ?_; rintro e w' ⟨rfl, rfl⟩)
  go_ret
  exact ⟨rfl, 0, _, by rw [alloc_eq_grow, alloc_eq_grow, grow_grow]; rfl⟩

theorem sortNone (ao : Option Addr) (cap : Nat) (f : Value) (w : World) : Calls Tryz.prog 22 #[.slice ao 0 cap, f] w fun e w' => e = .returned (.tuple #[]) ∧ w' = w := AnyF.slices_SortFunc_none (P := Tryz.prog) { Tryz.sortEntry with } ao cap f w

theorem sortE_any (ao : Option Addr) (n cap base : Nat) (l : List En) (w : World) (hl : l.length ≤ 1000000) (h : Own encP 2 base w (.slice ao n cap) l) (hbase : base ≤ w.heap.size) :
    Calls Tryz.prog 22 #[.slice ao n cap, .func (.func 23) #[] #[]] w fun e w1 => e = .returned (.tuple #[]) ∧ ∃ s, s.Perm l ∧ s.Pairwise (fun x y : En => ltK y.1 x.1 = false) ∧ Own encP 2 base w1 (.slice ao n cap) s ∧ Below base w w1 := by
  obtain ⟨ao', cap', e, h1, h2, h3⟩ := h
  cases e
  by_cases hne : l = []
  · subst hne
    refine (sortNone ao cap _ w).mono ?_
    rintro e w1 ⟨rfl, rfl⟩
    exact ⟨rfl, [], List.Perm.refl _, List.Pairwise.nil, ⟨ao, cap, rfl, h1, h2, fun h => absurd rfl h⟩, Below.refl _ _⟩
  · obtain ⟨g, off, rfl, hg, hlt, hH⟩ := h3 hne
    have hc := AnyQ.slices_SortFunc Tryz.sortEntry 2 Tryz.isAgg39 Tryz.sizeOf39 encP encP_len encP_one cfE swoE 23 #[] g off cap l.toArray w (enters_of Tryz.func23 (by kernel_rfl) rfl) (fun _ _ _ _ x y => by simp only [Array.append_empty]; exact apply1_any x y _) hH hlt (by simp; omega)
    have e : (l.toArray.size : Nat) = l.length := by simp
    rw [e] at hc
    refine Calls.mono hc ?_
    rintro e w1 ⟨rfl, d', n, os, hp, hs, rfl⟩
    have hds : d'.size = l.length := by have := hp.1; simpa using this
    refine ⟨rfl, d'.toList, ?_, sortedPw (by rw [hds]; exact hs), ?_, ?_⟩
    · have := memPerm (d := l.toArray) (by rw [List.size_toArray]; exact hp)
      simpa using this
    · exact ⟨_, cap, by simp [hds], by rw [Array.length_toList, hds]; exact h1, (fun h => by cases h), fun _ => ⟨g, off, rfl, hg, lt_sortWorldK encP 2 w g off n d' os hlt, by simpa using holdsK_sortWorldK encP 2 w g off n l.toArray d' os hlt hH (by simpa using hds)⟩⟩
    · exact swkBelow ⟨n, os, rfl⟩ hg hbase

end Go.Proofs.YtljmkajpjjdnhaaGreatDoor.N
