/-
  The walks of package node's Right, Size and Fits, and of the document's Right and Size.
-/
import Derived.Test.YtmamnlphhiaeoaaNdKit
namespace Go.Proofs.Ytmamnlphhiaeoaa
open Go.Shelf Go.RowKit Go.Lib Go.Sort

set_option maxHeartbeats 1000000 in
theorem rightEntries_any (v : Value) (l : List En) (w : World) (h : Row encP 2 w v l) (hl : l.length ≤ 100000) :
    Calls Try.prog 32 #[v] w fun e w' => e = .returned (.bool (rgB l)) ∧ Below w.heap.size w w' := by
  have C : Hid _ := encode_any v l w h hl
  obtain ⟨ao, cap, rfl, _⟩ := rowShape h
  clear h
  cases hr : rgB l with
  | false =>
    have EE : ecE l = 1 := by unfold ecE; rw [hr]; rfl
    rw [EE] at C
    generalize ecS l = sx at *
    clear hr EE
    go_enter Try.func32, Try.ntmps32
    go_wp2_with (go_at_call 36; refine Calls.mono C.out ?_; rintro e w1 ⟨rfl, hb⟩)
    go_ret
    exact ⟨rfl, hb⟩
  | true =>
    have EE : ecE l = 0 := by unfold ecE; rw [hr]; rfl
    rw [EE] at C
    generalize ecS l = sx at *
    clear hr EE
    go_enter Try.func32, Try.ntmps32
    go_wp2_with (go_at_call 36; refine Calls.mono C.out ?_; rintro e w1 ⟨rfl, hb⟩)
    go_ret
    exact ⟨rfl, hb⟩

theorem okK_no {k : Int} (h : k < 2 ∨ 4294967295 < k) : okK k = false := by
  unfold okK
  exact decide_eq_false (by omega)
theorem okK_yes {k : Int} (h1 : ¬ k < 2) (h2 : ¬ 4294967295 < k) : okK k = true := okK_iff.2 (by omega)
theorem take_all {α : Type} [Inhabited α] {l : List α} {i : Nat} {p : α → Prop} (h : ∀ x ∈ l.take i, p x) (hi : i < l.length) (hx : p l[i]!) : ∀ x ∈ l.take (i + 1), p x := by
  rw [take_next hi]
  intro x hm
  rcases List.mem_append.1 hm with e | e
  · exact h x e
  · rw [List.mem_singleton.1 e]; exact hx

set_option maxHeartbeats 1000000 in
theorem rightKids_any (v : Value) (l : List Int) (w : World) (h : Row encI 1 w v l) (hl : l.length ≤ 1000000) :
    Calls Try.prog 33 #[v] w fun e w' => e = .returned (.bool (ksB l)) ∧ w = w' := by
  obtain ⟨ao, cap, rfl, h1, h2, h3⟩ := h
  have H3 : Aside (l ≠ [] → ∃ b off, ao = some ⟨b, off, none⟩ ∧ b < w.heap.size ∧ CellsK encI 1 w b off l) := h3
  clear h3
  go_enter Try.func33, Try.ntmps33
  go_wp2
  go_loopg [7] l.length (fun kx s7 wr => ∃ (i : Nat), s7 = .int .i64 i ∧ i ≤ l.length ∧ l.length - i ≤ kx ∧ w = wr ∧ Hid (∀ k ∈ l.take i, okK k = true))
  case atStart => exact ⟨0, rfl, Nat.zero_le _, Nat.le_refl _, rfl, fun x hx => by simp at hx⟩
  case round =>
    obtain ⟨i, rfl, hi, hki, rfl, HN⟩ := hrel
    by_cases hil : i < l.length
    · have hilz : (i : Int) < (l.length : Int) := by omega
      obtain ⟨b, off, rfl, hb, x1⟩ := rowI_at H3.out i hil (Below.refl _ w)
      have M : Hid (l[i]! ∈ l) := bang_mem hil
      have T : Hid (okK l[i]! = true → ∀ k ∈ l.take (i + 1), okK k = true) := fun e => take_all HN.out hil e
      generalize l[i]! = x at *
      by_cases c1 : x < 2
      · have E : Hid (ksB l = false) := ksB_no M.out (okK_no (Or.inl c1))
        clear HN T
        go_wp2
        go_ret
        exact ⟨ret_b E.out.symm, rfl⟩
      · by_cases c2 : 4294967295 < x
        · have E : Hid (ksB l = false) := ksB_no M.out (okK_no (Or.inr c2))
          clear HN T
          go_wp2
          go_ret
          exact ⟨ret_b E.out.symm, rfl⟩
        · have N2 : Hid (∀ k ∈ l.take (i + 1), okK k = true) := T.out (okK_yes c1 c2)
          clear HN T
          go_wp2
          go_roundg (l.length - (i + 1))
          case measure => omega
          case rel => exact ⟨i + 1, by go_num, by omega, Nat.le_refl _, rfl, N2⟩
    · have hilz : ¬ (i : Int) < (l.length : Int) := by omega
      obtain rfl : i = l.length := by omega
      rw [List.take_length] at HN
      have E : Hid (ksB l = true) := ksB_yes HN.out
      clear HN
      go_wp2
      go_ret
      exact ⟨ret_b E.out.symm, rfl⟩

set_option maxHeartbeats 2000000 in
set_option maxRecDepth 100000 in
theorem rightKeys_any (v : Value) (l : List ByteArray) (w : World) (h : Row encS 1 w v l) (hl : l.length ≤ 1000000) :
    Calls Try.prog 34 #[v] w fun e w' => e = .returned (.bool (kyB l)) ∧ Below w.heap.size w w' := by
  obtain ⟨ao, cap, rfl, h1, h2, h3⟩ := h
  have H3 : Aside (l ≠ [] → ∃ b off, ao = some ⟨b, off, none⟩ ∧ b < w.heap.size ∧ CellsK encS 1 w b off l) := h3
  clear h3
  go_enter Try.func34, Try.ntmps34
  go_wp2
  go_loopg [7] l.length (fun kx s7 wr => ∃ (i : Nat), s7 = .int .i64 i ∧ i ≤ l.length ∧ l.length - i ≤ kx ∧ w = wr ∧ Hid (∀ j, j < i → okS l j = true))
  case atStart => exact ⟨0, rfl, Nat.zero_le _, Nat.le_refl _, rfl, fun j hj => absurd hj (Nat.not_lt_zero _)⟩
  case round =>
    obtain ⟨i, rfl, hi, hki, rfl, HN⟩ := hrel
    by_cases hil : i < l.length
    · have hilz : (i : Int) < (l.length : Int) := by omega
      obtain ⟨b, off, rfl, hb, x1⟩ := rowS_at H3.out i hil (Below.refl _ w)
      obtain ⟨x, hx⟩ : ∃ x, l[i]! = x := ⟨_, rfl⟩
      rw [hx] at x1
      have X : Hid (l[i]! = x) := hx
      clear hx
      cases hm : mayB x ⟨#[]⟩ with
      | false =>
        have C : Hid _ := check_any x ⟨#[]⟩ w
        rw [chkE_of, hm] at C
        have RF : Hid (kyB l = false) := kyB_no i hil (okS_of (b := false) (c := (i == 0 || ltK l[i - 1]! l[i]!)) (by rw [X.out]; exact hm) rfl)
        clear HN hm
        go_wp2_with (go_at_call 53; refine Calls.mono C.out ?_; rintro e w1 ⟨rfl, rfl⟩)
        go_ret
        exact ⟨ret_b RF.out.symm, Below.refl _ _⟩
      | true =>
        have C : Hid _ := check_any x ⟨#[]⟩ w
        rw [chkE_of, hm] at C
        have M : Hid (mayB x ⟨#[]⟩ = true) := hm
        clear hm
        rcases Nat.eq_zero_or_pos i with hi0 | hi0
        · have N2 : Hid (∀ j, j < i + 1 → okS l j = true) := fun j hj => by
            obtain rfl : j = i := by omega
            rw [okS_of (b := true) (c := true) (by rw [X.out]; exact M.out) (by rw [hi0]; rfl)]; rfl
          have hd : ¬ ((0 : Int) < (i : Int)) := by omega
          have hd2 : ¬ (0 < i) := by omega
          clear HN hi0
          go_wp2_with (go_at_call 53; refine Calls.mono C.out ?_; rintro e w1 ⟨rfl, rfl⟩)
          go_roundg (l.length - (i + 1))
          case measure => omega
          case rel => exact ⟨i + 1, by go_num, by omega, Nat.le_refl _, rfl, N2⟩
        · obtain ⟨i, rfl⟩ : ∃ i', i = i' + 1 := ⟨i - 1, by omega⟩
          clear hi0
          obtain ⟨b2, off2, e2, hb2, z1⟩ := rowS_at H3.out i (by omega) (Below.refl _ w)
          cases e2
          obtain ⟨y, hy⟩ : ∃ y, l[i]! = y := ⟨_, rfl⟩
          rw [hy] at z1
          have Y : Hid (l[i]! = y) := hy
          clear hy
          cases hlt : ltK y x
          · have RF : Hid (kyB l = false) := kyB_no (i + 1) hil (okS_of (b := true) (c := false) (by rw [X.out]; exact M.out) (by
              rw [show i + 1 - 1 = i from rfl, X.out, Y.out, hlt]; rfl))
            have hlt2 : Op.bytesLess y.toList x.toList = false := hlt
            clear HN hlt
            go_wp2_with (go_at_call 53; refine Calls.mono C.out ?_; rintro e w1 ⟨rfl, rfl⟩)
            go_ret
            exact ⟨ret_b RF.out.symm, Below.refl _ _⟩
          · have N2 : Hid (∀ j, j < i + 1 + 1 → okS l j = true) := fun j hj => by
              rcases Nat.lt_or_ge j (i + 1) with c | c
              · exact HN.out j c
              · obtain rfl : j = i + 1 := by omega
                rw [okS_of (b := true) (c := true) (by rw [X.out]; exact M.out) (by rw [show i + 1 - 1 = i from rfl, X.out, Y.out, hlt]; simp)]; rfl
            have hlt2 : Op.bytesLess y.toList x.toList = true := hlt
            clear HN hlt
            go_wp2_with (go_at_call 53; refine Calls.mono C.out ?_; rintro e w1 ⟨rfl, rfl⟩)
            go_roundg (l.length - (i + 1 + 1))
            case measure => omega
            case rel => exact ⟨i + 1 + 1, by go_num, by omega, Nat.le_refl _, rfl, N2⟩
    · have hilz : ¬ (i : Int) < (l.length : Int) := by omega
      obtain rfl : i = l.length := by omega
      have RT : Hid (kyB l = true) := kyB_yes HN.out
      clear HN
      go_wp2
      go_ret
      exact ⟨ret_b RT.out.symm, Below.refl _ _⟩

end Go.Proofs.Ytmamnlphhiaeoaa
