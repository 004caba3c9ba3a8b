/-
  Rows that are written in place: their cells are there, whatever they hold.
-/
import Derived.Test.YtmamnlphhiaeoaaNdRefJ
namespace Go.Proofs.Ytmamnlphhiaeoaa
open Go.Shelf Go.RowKit Go.Lib Go.Sort

/-- Cells that can be written: n things of k cells each, of one type, in a block that is not below base. -/
def Pad (base : Nat) (w : World) (v : Value) (n k : Nat) (t : TypeId) : Prop :=
  n = 0 ∨ ∃ b c cs, v = .slice (some ⟨b, 0, none⟩) n c ∧ base ≤ b ∧ Cl w b cs t ∧ n * k ≤ cs.size
theorem padOf {base n k : Nat} {w : World} {e : TypeId} {v : Value} {xs : List Value} (h : w.ownsRow base e k v n xs) : Pad base w v n k e := by
  rcases h.2 with ⟨_, h2⟩ | ⟨g, cap, cur, hv, hg, hh, hl, _, hs, _⟩
  · exact Or.inl h2
  · exact Or.inr ⟨g, cap, cur, hv, hg, hh, by rw [hs]; exact Nat.mul_le_mul_right _ hl⟩
theorem Pad.mono {base base' n k : Nat} {w : World} {v : Value} {t : TypeId} (h : Pad base w v n k t) (hb : base' ≤ base) : Pad base' w v n k t := by
  rcases h with h | ⟨b, c, cs, hv, hg, r⟩
  · exact Or.inl h
  · exact Or.inr ⟨b, c, cs, hv, Nat.le_trans hb hg, r⟩
theorem clSet {w : World} {b q i : Nat} {cs : Array Value} {t : TypeId} (h : Cl w b cs t) (x : Value) : ∃ cs', Cl (w.setCell ⟨q, i, none⟩ x) b cs' t ∧ cs'.size = cs.size := by
  by_cases c : q = b
  · subst c
    exact ⟨_, h.set i x, by simp⟩
  · refine ⟨cs, ?_, rfl⟩
    unfold Cl at h ⊢
    simp [World.setCell, Array.getElem?_modify, c, h]
theorem Pad.set {base n k q i : Nat} {w : World} {v : Value} {t : TypeId} (h : Pad base w v n k t) (x : Value) : Pad base (w.setCell ⟨q, i, none⟩ x) v n k t := by
  rcases h with h | ⟨b, c, cs, hv, hg, hc, hs⟩
  · exact Or.inl h
  · obtain ⟨cs', h1, h2⟩ := clSet (q := q) (i := i) hc x
    exact Or.inr ⟨b, c, cs', hv, hg, h1, by rw [h2]; exact hs⟩
theorem clAway {w : World} {q b i : Nat} {cs cs' : Array Value} {t t' : TypeId} (h : Cl w q cs t) (hb : Cl w b cs' t') (hne : t' ≠ t) (x : Value) : Cl (w.setCell ⟨b, i, none⟩ x) q cs t := by
  have c : b ≠ q := by
    intro e
    subst e
    unfold Cl at h hb
    rw [h] at hb
    injection hb with hb
    injection hb with _ h2
    exact hne h2.symm
  unfold Cl at h ⊢
  simp [World.setCell, Array.getElem?_modify, c, h]
theorem Pad.at {base n k c : Nat} {w : World} {ao : Option Addr} {t : TypeId} (h : Pad base w (.slice ao n c) n k t) (i : Nat) (hi : i < n) :
    ∃ b cs, ao = some ⟨b, 0, none⟩ ∧ base ≤ b ∧ Cl w b cs t ∧ ∀ j, j < k → (∃ x, w.cell? ⟨b, i * k + j, none⟩ = some x) ∧ w.frozen? ⟨b, i * k + j, none⟩ = false := by
  rcases h with h | ⟨b, c', cs, hv, hg, hc, hs⟩
  · omega
  · injection hv with h1 h2 h3
    refine ⟨b, cs, h1, hg, hc, fun j hj => ?_⟩
    have hlt : i * k + j < cs.size := by
      have : (i + 1) * k ≤ n * k := Nat.mul_le_mul_right _ hi
      rw [Nat.succ_mul] at this
      omega
    refine ⟨⟨cs[i * k + j], ?_⟩, ?_⟩
    · rw [hc.cell]; simp [hlt]
    · unfold Cl at hc; simp [World.frozen?, hc]

/-- What stays while the rows of two nodes are written: what was there ahead of them, both nodes' own cells, and that they can be written. -/
structure KpI (z : Nat) (wj : World) (qj qs : Nat) (cj cs : Array Value) (ve vk vs : Value) (ne nk ns : Nat) (w : World) : Prop where
  b : Below z wj w
  j : Cl w qj cj 26
  s : Cl w qs cs 26
  pe : Pad z w ve ne 2 56
  pk : Pad z w vk nk 1 3
  ps : Pad z w vs ns 1 3
theorem KpI.set {z : Nat} {wj : World} {qj qs : Nat} {cj cs : Array Value} {ve vk vs : Value} {ne nk ns : Nat} {w : World} (h : KpI z wj qj qs cj cs ve vk vs ne nk ns w) {q : Nat} (i : Nat) {c : Array Value} {t : TypeId} (hz : z ≤ q) (hc : Cl w q c t) (hne : t ≠ 26) (x : Value) :
    KpI z wj qj qs cj cs ve vk vs ne nk ns (w.setCell ⟨q, i, none⟩ x) :=
  ⟨h.b.setCell (p := ⟨q, i, none⟩) hz x, clAway h.j hc hne x, clAway h.s hc hne x, h.pe.set x, h.pk.set x, h.ps.set x⟩
theorem KpI.set2 {z : Nat} {wj : World} {qj qs : Nat} {cj cs : Array Value} {ve vk vs : Value} {ne nk ns : Nat} {w : World} (h : KpI z wj qj qs cj cs ve vk vs ne nk ns w) {q : Nat} (i i' : Nat) {c : Array Value} {t : TypeId} (hz : z ≤ q) (hc : Cl w q c t) (hne : t ≠ 26) (x x' : Value) :
    KpI z wj qj qs cj cs ve vk vs ne nk ns ((w.setCell ⟨q, i, none⟩ x).setCell ⟨q, i', none⟩ x') := by
  obtain ⟨c', h1, _⟩ := clSet (q := q) (i := i) hc x
  exact (h.set i hz hc hne x).set i' hz h1 hne x'

end Go.Proofs.Ytmamnlphhiaeoaa
