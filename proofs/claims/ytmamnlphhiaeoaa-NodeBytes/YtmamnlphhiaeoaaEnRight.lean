/-
  The walks of package entry's right and of the document's May and Right.
-/
import Derived.Test.YtmamnlphhiaeoaaEnSmall
import Derived.Deep.QuietTactic
import Derived.Deep.DeepCutAuto
namespace Go.Proofs.Ytmamnlphhiaeoaa
open Go.Shelf Go.RowKit Go.Lib Go.Sort

theorem GR.drewN {w w' : World} (h : GR w w') (n : Nat) : GR w (w'.drewN n) := by
  obtain ⟨q, os, rfl⟩ := h
  exact ⟨q + n, os, by show grow ((w.drewN q).drewN n) os = _; rw [World.drewN_drewN]⟩

/-- Check in a region that draws. -/
theorem check_q (k v : ByteArray) (e : Int) (he : chkE k v = e) (W : World) : ∀ m, Calls Try.prog 53 #[.string k, .string v] (W.drewN m) fun r w' => r = .returned (.int .i64 e) ∧ ∃ m', w' = W.drewN m' := fun m =>
  (check_any k v (W.drewN m)).mono fun _ _ ⟨h1, h2⟩ => ⟨by rw [h1, he], m, h2.symm⟩

theorem okE_of {l : List En} {i : Nat} {b c : Bool} (h1 : mayB l[i]!.1 l[i]!.2 = b) (h2 : (i == 0 || ltK l[i - 1]!.1 l[i]!.1) = c) : okE l i = (b && c) := by
  unfold okE; rw [h1, h2]

theorem chkE_of {k v : ByteArray} : chkE k v = if mayB k v = true then 0 else 110 := rfl

set_option maxHeartbeats 4000000 in
set_option maxRecDepth 100000 in
theorem right_any (v : Value) (l : List En) (w : World) (h : Row encP 2 w v l) (hl : l.length ≤ 1000000) :
    Calls Try.prog 54 #[v] w fun e w' => e = .returned (.bool (rgB l)) ∧ Below w.heap.size w w' := by
  obtain ⟨ao, cap, rfl, h1, h2, h3⟩ := h
  have H3 : Aside (l ≠ [] → ∃ b off, ao = some ⟨b, off, none⟩ ∧ b < w.heap.size ∧ CellsK encP 2 w b off l) := h3
  clear h3
  go_enter Try.func54, Try.ntmps54
  go_wp2
  go_loopg [7] l.length (fun kx s7 wr => ∃ (i : Nat), s7 = .int .i64 i ∧ i ≤ l.length ∧ l.length - i ≤ kx ∧ Hid (GR w wr) ∧ Hid (∀ j, j < i → okE l j = true))
  case atStart => exact ⟨0, rfl, Nat.zero_le _, Nat.le_refl _, GR.refl _, fun j hj => absurd hj (Nat.not_lt_zero _)⟩
  case round =>
    obtain ⟨i, rfl, hi, hki, HG, HN⟩ := hrel
    by_cases hil : i < l.length
    · have hilz : (i : Int) < (l.length : Int) := by omega
      obtain ⟨b, off, rfl, hb, x1, x2⟩ := row_at H3.out i hil HG.out.below
      obtain ⟨x, hx⟩ : ∃ x, l[i]! = x := ⟨_, rfl⟩
      rw [hx] at x1 x2
      have X : Hid (l[i]! = x) := hx
      clear hx
      have HG2 : Hid (GR w (wr.alloc (.cells #[.string x.1, .string x.2] 56))) := HG.out.alloc _
      have y1 : (wr.alloc (.cells #[.string x.1, .string x.2] 56)).cell? ⟨wr.heap.size, 0, none⟩ = some (.string x.1) := by simp
      have hsz : wr.heap.size < (wr.alloc (.cells #[.string x.1, .string x.2] 56)).heap.size := by simp
      have y2 : (wr.alloc (.cells #[.string x.1, .string x.2] 56)).cell? ⟨wr.heap.size, 1, none⟩ = some (.string x.2) := by simp
      cases hm : mayB x.1 x.2
      · have Q1 : Hid _ := check_q x.1 x.2 110 (by rw [chkE_of, hm]; rfl) (wr.alloc (.cells #[.string x.1, .string x.2] 56))
        have RF : Hid (rgB l = false) := rgB_no i hil (okE_of (b := false) (c := (i == 0 || ltK l[i - 1]!.1 l[i]!.1)) (by rw [X.out]; exact hm) rfl)
        clear HN hm
        go_upto_region 4 with fail
        generalize wr.alloc (.cells #[.string x.1, .string x.2] 56) = W at *
        go_quiet ((go_at_call 53; with_reducible exact Q1.out _))
        go_wp2
        go_ret
        exact ⟨ret_b RF.out.symm, (HG2.out.drewN _).below⟩
      · have Q1 : Hid _ := check_q x.1 x.2 0 (by rw [chkE_of, hm]; rfl) (wr.alloc (.cells #[.string x.1, .string x.2] 56))
        have M : Hid (mayB x.1 x.2 = true) := hm
        clear hm
        rcases Nat.eq_zero_or_pos i with hi0 | hi0
        · have N2 : Hid (∀ j, j < i + 1 → okE l j = true) := fun j hj => by
            obtain rfl : j = i := by omega
            rw [okE_of (b := true) (c := true) (by rw [X.out]; exact M.out) (by rw [hi0]; rfl)]; rfl
          have hd : decide ((0 : Int) < (i : Int)) = false := by rw [hi0]; decide
          have hd2 : decide (0 < i) = false := by rw [hi0]; decide
          clear HN hi0
          go_upto_region 4 with fail
          generalize wr.alloc (.cells #[.string x.1, .string x.2] 56) = W at *
          go_quiet ((go_at_call 53; with_reducible exact Q1.out _))
          go_wp2
          go_roundg (l.length - (i + 1))
          case measure => omega
          case rel => exact ⟨i + 1, by go_num, by omega, Nat.le_refl _, HG2.out.drewN _, N2⟩
        · obtain ⟨i, rfl⟩ : ∃ i', i = i' + 1 := ⟨i - 1, by omega⟩
          clear hi0
          obtain ⟨b2, off2, e2, hb2, z1, _⟩ := row_at H3.out i (by omega) HG.out.below
          cases e2
          obtain ⟨y, hy⟩ : ∃ y, l[i]! = y := ⟨_, rfl⟩
          rw [hy] at z1
          have Y : Hid (l[i]! = y) := hy
          clear hy
          have z2 : (wr.alloc (.cells #[.string x.1, .string x.2] 56)).cell? ⟨b, off + i * 2, none⟩ = some (.string y.1) := Lib.cell?_alloc_some _ z1
          cases hlt : ltK y.1 x.1
          · have RF : Hid (rgB l = false) := rgB_no (i + 1) hil (okE_of (b := true) (c := false) (by rw [X.out]; exact M.out) (by
              rw [show i + 1 - 1 = i from rfl, X.out, Y.out, hlt]; rfl))
            have hlt2 : Op.bytesLess y.1.toList x.1.toList = false := hlt
            clear HN hlt
            go_upto_region 4 with fail
            generalize wr.alloc (.cells #[.string x.1, .string x.2] 56) = W at *
            go_quiet ((go_at_call 53; with_reducible exact Q1.out _))
            go_wp2
            go_ret
            exact ⟨ret_b RF.out.symm, (HG2.out.drewN _).below⟩
          · have N2 : Hid (∀ j, j < i + 1 + 1 → okE l j = true) := fun j hj => by
              rcases Nat.lt_or_ge j (i + 1) with c | c
              · exact HN.out j c
              · obtain rfl : j = i + 1 := by omega
                rw [okE_of (b := true) (c := true) (by rw [X.out]; exact M.out) (by rw [show i + 1 - 1 = i from rfl, X.out, Y.out, hlt]; simp)]; rfl
            have hlt2 : Op.bytesLess y.1.toList x.1.toList = true := hlt
            clear HN hlt
            go_upto_region 4 with fail
            generalize wr.alloc (.cells #[.string x.1, .string x.2] 56) = W at *
            go_quiet ((go_at_call 53; with_reducible exact Q1.out _))
            go_wp2
            go_roundg (l.length - (i + 1 + 1))
            case measure => omega
            case rel => exact ⟨i + 1 + 1, by go_num, by omega, Nat.le_refl _, HG2.out.drewN _, N2⟩
    · have hilz : ¬ (i : Int) < (l.length : Int) := by omega
      obtain rfl : i = l.length := by omega
      have RT : Hid (rgB l = true) := rgB_yes HN.out
      clear HN
      go_wp2
      go_ret
      exact ⟨ret_b RT.out.symm, HG.out.below⟩

end Go.Proofs.Ytmamnlphhiaeoaa
