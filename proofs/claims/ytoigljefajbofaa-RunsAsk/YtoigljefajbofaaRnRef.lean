/-
  The walks of the document's functions: Same, Has, Put, Norm, Minus, Count.
-/
import Derived.Test.YtoigljefajbofaaRnSmall
namespace Go.Proofs.Ytoigljefajbofaa
open Go.Shelf Go.RowKit Go.Lib Go.Sort

section
variable {w w' : World} {q i k : Nat} {cs : Array Value} {t : TypeId}
/-- Block q holds these cells. -/
def Cl (w : World) (q : Nat) (cs : Array Value) (t : TypeId) : Prop := w.heap[q]? = some (.cells cs t (0, 0))
theorem Cl.lt (h : Cl w q cs t) : q < w.heap.size := (Array.getElem?_eq_some_iff.1 h).1
theorem Cl.cell (h : Cl w q cs t) (i : Nat) : w.cell? ⟨q, i, none⟩ = cs[i]? := by unfold Cl at h; simp [World.cell?, h]
theorem Cl.frozen (h : Cl w q cs t) (i : Nat) : w.frozen? ⟨q, i, none⟩ = false := by unfold Cl at h; simp [World.frozen?, h]
theorem Cl.set (h : Cl w q cs t) (i : Nat) (v : Value) : Cl (w.setCell ⟨q, i, none⟩ v) q (cs.setIfInBounds i v) t := by
  unfold Cl at h ⊢; simp [World.setCell, Array.getElem?_modify, h]
theorem Cl.new (w : World) (cs : Array Value) (t : TypeId) : Cl (w.alloc (.cells cs t)) w.heap.size cs t := by
  show (w.heap.push _)[w.heap.size]? = _; simp
theorem Cl.below {B : Nat} (h : Cl w q cs t) (b : Below B w w') (hq : q < B) : Cl w' q cs t := (b.block q hq).trans h
theorem Cl.on (h : Cl w q cs t) (b : Below w.heap.size w w') : Cl w' q cs t := h.below b h.lt
theorem Cl.alloc (h : Cl w q cs t) (o : Obj) : Cl (w.alloc o) q cs t := h.on ((Below.refl _ _).alloc (Nat.le_refl _) _)
theorem Cl.two {a b : Value} (h : Cl w q #[a, b] t) : w.cell? ⟨q, 0, none⟩ = some a ∧ w.cell? ⟨q, 1, none⟩ = some b := ⟨h.cell 0, h.cell 1⟩
theorem Cl.set2 {x y : Value} (h : Cl w q #[x, y] t) (a b : Value) : Cl ((w.setCell ⟨q, 0, none⟩ a).setCell ⟨q, 1, none⟩ b) q #[a, b] t := (h.set 0 a).set 1 b
end

set_option maxHeartbeats 2000000 in
set_option maxRecDepth 100000 in
theorem same_any (va vb : Value) (a b : List Pr) (w : World) (ha : Row encP 2 w va a) (hb : Row encP 2 w vb b) (hl : a.length ≤ 1000000) (hl2 : b.length ≤ 1000000) :
    Calls Try.prog 10 #[va, vb] w fun e w' => e = .returned (.bool (decide (a = b))) ∧ Below w.heap.size w w' := by
  obtain ⟨ao, ca, rfl, a1, a2, a3⟩ := ha
  obtain ⟨bo, cb, rfl, b1, b2, b3⟩ := hb
  have A3 : Aside (a ≠ [] → ∃ b off, ao = some ⟨b, off, none⟩ ∧ b < w.heap.size ∧ CellsK encP 2 w b off a) := a3
  have B3 : Aside (b ≠ [] → ∃ b' off, bo = some ⟨b', off, none⟩ ∧ b' < w.heap.size ∧ CellsK encP 2 w b' off b) := b3
  clear a3 b3
  by_cases hlen : a.length = b.length
  · have HL : Hid (a.length = b.length) := hlen
    have hle1 : a.length ≤ b.length := by omega
    have hle2 : b.length ≤ a.length := by omega
    have hneq : ((a.length : Int) != (b.length : Int)) = false := by simp; omega
    clear hlen
    go_enter Try.func10, Try.ntmps10
    go_wp2
    go_loopg [5] a.length (fun kx s5 wr => ∃ (i : Nat), s5 = .int .i64 i ∧ i ≤ a.length ∧ a.length - i ≤ kx ∧ Hid (GR w wr) ∧ Hid (a.take i = b.take i))
    case atStart => exact ⟨0, rfl, Nat.zero_le _, Nat.le_refl _, GR.refl _, by simp [Hid]⟩
    case round =>
      obtain ⟨i, rfl, hi, hki, HG, HN⟩ := hrel
      by_cases hil : i < a.length
      · have hilz : (i : Int) < (a.length : Int) := by omega
        have hilb : i < b.length := by omega
        obtain ⟨ba, oa, rfl, hba, x1, x2⟩ := row_at A3.out i hil HG.out.below
        obtain ⟨bb, ob, rfl, hbb, y1, y2⟩ := row_at B3.out i hilb HG.out.below
        have T : Hid (a.take (i + 1) = a.take i ++ [a[i]!]) := take_next hil
        have T2 : Hid (b.take (i + 1) = b.take i ++ [b[i]!]) := take_next hilb
        generalize a[i]! = x at *
        generalize b[i]! = y at *
        have HD : Hid (GR w wr.drew) := HG.out.drew
        by_cases he : x = y
        · have E := fun W => neqP (x := x) (y := y) (decide_eq_true he) W
          have G := gdP x y
          have HE : Hid (x = y) := he
          clear he
          simp only [Bool.not_true] at E
          go_wp2_with fail
          go_region
          all_goals go_wp2
          all_goals go_roundg (a.length - (i + 1))
          case measure => omega
          case rel =>
            refine ⟨i + 1, by go_num, by omega, Nat.le_refl _, HD, ?_⟩
            show _ = _
            rw [T.out, T2.out, HN.out, HE.out]
        · have E := fun W => neqP (x := x) (y := y) (decide_eq_false he) W
          have G := gdP x y
          have HE : Hid (x ≠ y) := he
          clear he
          simp only [Bool.not_false] at E
          go_wp2_with fail
          go_region
          all_goals go_wp2
          all_goals go_ret
          all_goals
            refine ⟨ret_bool (decide_eq_false fun h => HE.out ?_).symm, HD.out.below⟩
            subst h
            have := T.out.symm.trans T2.out
            simpa using this
      · have hilz : ¬ (i : Int) < (a.length : Int) := by omega
        obtain rfl : i = a.length := by omega
        go_wp2
        go_ret
        refine ⟨ret_bool (decide_eq_true ?_).symm, HG.out.below⟩
        have := HN.out
        rw [List.take_length, HL.out, List.take_length] at this
        exact this
  · have hneq : ((a.length : Int) != (b.length : Int)) = true := by simp; omega
    have HL : Hid (a.length ≠ b.length) := hlen
    clear hlen
    go_enter Try.func10, Try.ntmps10
    go_wp2
    go_ret
    exact ⟨ret_bool (decide_eq_false fun h => HL.out (by rw [h])).symm, Below.refl _ _⟩

set_option maxHeartbeats 2000000 in
set_option maxRecDepth 100000 in
theorem rhas_any (v : Value) (l : List Pr) (n : Int) (w : World) (h : Row encP 2 w v l) (hl : l.length ≤ 1000000) :
    Calls Try.prog 21 #[v, .int .i64 n] w fun e w' => e = .returned (.bool (hasB l n)) ∧ Below w.heap.size w w' := by
  obtain ⟨ao, cap, rfl, h1, h2, h3⟩ := h
  have H3 : Aside (l ≠ [] → ∃ b off, ao = some ⟨b, off, none⟩ ∧ b < w.heap.size ∧ CellsK encP 2 w b off l) := h3
  clear h3
  go_enter Try.func21, Try.ntmps21
  go_wp2
  go_loopg [5] l.length (fun kx s5 wr => ∃ (i : Nat), s5 = .int .i64 i ∧ i ≤ l.length ∧ l.length - i ≤ kx ∧ Hid (GR w wr) ∧ Hid (¬ InR (l.take i) n))
  case atStart => exact ⟨0, rfl, Nat.zero_le _, Nat.le_refl _, GR.refl _, by simp [Hid, inR_nil]⟩
  case round =>
    obtain ⟨i, rfl, hi, hki, HG, HN⟩ := hrel
    by_cases hil : i < l.length
    · have hilz : (i : Int) < (l.length : Int) := by omega
      obtain ⟨ba, oa, rfl, hba, x1, x2⟩ := row_at H3.out i hil HG.out.below
      have T : Hid (l.take (i + 1) = l.take i ++ [l[i]!]) := take_next hil
      have M : Hid (l[i]! ∈ l) := bang_mem hil
      generalize l[i]! = x at *
      by_cases hin : 0 ≤ n ∧ n ≤ 4294967295 ∧ x.1 ≤ n ∧ n ≤ x.2
      · obtain ⟨g1, g2, g3, g4⟩ := hin
        go_wp2
        go_ret
        refine ⟨ret_bool (hasB_yes ⟨g1, g2, x, M.out, g3, g4⟩).symm, HG.out.below⟩
      · have T2 : Hid (¬ InR (l.take (i + 1)) n) := by
          show ¬ _
          rw [T.out, inR_append, inR_one]
          rintro (k | k)
          · exact HN.out k
          · exact hin k
        have hin2 : Hid _ := hin
        clear hin
        by_cases g1 : 0 ≤ n
        · by_cases g2 : n ≤ 4294967295
          · by_cases g3 : x.1 ≤ n
            · have g4 : ¬ n ≤ x.2 := fun g4 => hin2.out ⟨g1, g2, g3, g4⟩
              clear hin2
              go_wp2
              go_roundg (l.length - (i + 1))
              case measure => omega
              case rel => exact ⟨i + 1, by go_num, by omega, Nat.le_refl _, HG, T2⟩
            · clear hin2
              go_wp2
              go_roundg (l.length - (i + 1))
              case measure => omega
              case rel => exact ⟨i + 1, by go_num, by omega, Nat.le_refl _, HG, T2⟩
          · clear hin2
            go_wp2
            go_roundg (l.length - (i + 1))
            case measure => omega
            case rel => exact ⟨i + 1, by go_num, by omega, Nat.le_refl _, HG, T2⟩
        · clear hin2
          go_wp2
          go_roundg (l.length - (i + 1))
          case measure => omega
          case rel => exact ⟨i + 1, by go_num, by omega, Nat.le_refl _, HG, T2⟩
    · have hilz : ¬ (i : Int) < (l.length : Int) := by omega
      obtain rfl : i = l.length := by omega
      rw [List.take_length] at HN
      go_wp2
      go_ret
      exact ⟨ret_bool (hasB_no HN.out).symm, HG.out.below⟩

end Go.Proofs.Ytoigljefajbofaa
